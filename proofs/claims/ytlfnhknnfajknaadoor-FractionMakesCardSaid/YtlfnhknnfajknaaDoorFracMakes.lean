/- FractionMakes: for every two ints the law returns true and leaves memory as it was but for new blocks; no condition. -/
import Derived.Test.YtlfnhknnfajknaaDoorFracD
namespace Go.Proofs.YtlfnhknnfajknaaDoor
open Go.RowKit

set_option maxHeartbeats 1000000 in
theorem fractionMakes_walk (n d : Int) (w : World) (h1 : -9223372036854775808 ≤ n) (h2 : n ≤ 9223372036854775807) (h3 : -9223372036854775808 ≤ d) (h4 : d ≤ 9223372036854775807) :
    Calls Tryd.prog 4 #[.int .i64 n, .int .i64 d] w fun e w' => e = .returned (.bool true) ∧ Below w.heap.size w w' := by
  have c := fun W => make_any n d W h1 h2 h3 h4
  have f := fun W => ref_make_any n d W h1 h2 h3 h4
  have dd := fun W => make_any n 1 W h1 h2 (by decide) (by decide)
  have ee := fun W => whole_any n W h1 h2
  generalize FracMath.mk n d = m at c f
  by_cases hn : n ≤ 1000000 ∧ -1000000 ≤ n
  · rw [FracMath.mk_one_ok hn] at dd ee
    obtain ⟨hn1, hn2⟩ := hn
    have C := Lib.hid c
    have D := Lib.hid dd
    have E := Lib.hid ee
    have F := Lib.hid f
    clear c dd ee f
    go_enter Tryd.func4, Tryd.ntmps4
    go_wp2_with fail
    refine (known_any _).mono ?_
    rintro e w1 ⟨rfl, hb1⟩
    have hz1 := hb1.size
    go_wp2_with fail
    refine (C.out _).mono ?_
    rintro e w2 ⟨rfl, hb2⟩
    have hz2 := hb2.size
    go_wp2_with fail
    refine (D.out _).mono ?_
    rintro e w3 ⟨rfl, hb3⟩
    have x3 := (Two.new _ _ _ _).below hb3
    go_wp2_with fail
    refine (E.out _).mono ?_
    rintro e w4 ⟨rfl, hb4⟩
    have x4 := (x3.alloc _).below hb4
    have y4 := (Two.new _ _ _ _).below hb4
    go_wp2_with fail
    refine (F.out _).mono ?_
    rintro e w5 ⟨rfl, hb5⟩
    obtain ⟨x50, x51, x5l⟩ := (x4.alloc _).below hb5
    obtain ⟨y50, y51, y5l⟩ := (y4.alloc _).below hb5
    obtain ⟨z50, z51, z5l⟩ := (Two.new _ _ _ _).below hb5
    clear x3 x4 y4
    have hz3 := hb3.size
    have hz4 := hb4.size
    have hz5 := hb5.size
    simp only [World.size_alloc] at hz3 hz4 hz5
    go_wp2
    go_ret
    exact ⟨rfl, ((((((hb1.trans (hb2.mono hz1)).alloc (by omega) _).trans (hb3.mono (by simp; omega))).alloc (by omega) _).trans (hb4.mono (by simp; omega))).alloc (by omega) _).trans (hb5.mono (by simp; omega)) |>.alloc (by omega) _⟩
  · rw [FracMath.mk_one_over hn] at dd ee
    have C := Lib.hid c
    have D := Lib.hid dd
    have E := Lib.hid ee
    have F := Lib.hid f
    clear c dd ee f
    by_cases hu : n ≤ 1000000
    · have hv : n < -1000000 := by omega
      have hv' : decide (-1000000 ≤ n) = false := by simp; omega
      clear hn
      go_enter Tryd.func4, Tryd.ntmps4
      go_wp2_with fail
      refine (known_any _).mono ?_
      rintro e w1 ⟨rfl, hb1⟩
      have hz1 := hb1.size
      go_wp2_with fail
      refine (C.out _).mono ?_
      rintro e w2 ⟨rfl, hb2⟩
      have hz2 := hb2.size
      go_wp2_with fail
      refine (D.out _).mono ?_
      rintro e w3 ⟨rfl, hb3⟩
      have x3 := (Two.new _ _ _ _).below hb3
      go_wp2_with fail
      refine (E.out _).mono ?_
      rintro e w4 ⟨rfl, hb4⟩
      have x4 := (x3.alloc _).below hb4
      have y4 := (Two.new _ _ _ _).below hb4
      go_wp2_with fail
      refine (F.out _).mono ?_
      rintro e w5 ⟨rfl, hb5⟩
      obtain ⟨x50, x51, x5l⟩ := (x4.alloc _).below hb5
      obtain ⟨y50, y51, y5l⟩ := (y4.alloc _).below hb5
      obtain ⟨z50, z51, z5l⟩ := (Two.new _ _ _ _).below hb5
      clear x3 x4 y4
      have hz3 := hb3.size
      have hz4 := hb4.size
      have hz5 := hb5.size
      simp only [World.size_alloc] at hz3 hz4 hz5
      go_wp2
      go_ret
      exact ⟨rfl, ((((((hb1.trans (hb2.mono hz1)).alloc (by omega) _).trans (hb3.mono (by simp; omega))).alloc (by omega) _).trans (hb4.mono (by simp; omega))).alloc (by omega) _).trans (hb5.mono (by simp; omega)) |>.alloc (by omega) _⟩
    · have hv' : decide (n ≤ 1000000) = false := by simp; omega
      clear hn
      go_enter Tryd.func4, Tryd.ntmps4
      go_wp2_with fail
      refine (known_any _).mono ?_
      rintro e w1 ⟨rfl, hb1⟩
      have hz1 := hb1.size
      go_wp2_with fail
      refine (C.out _).mono ?_
      rintro e w2 ⟨rfl, hb2⟩
      have hz2 := hb2.size
      go_wp2_with fail
      refine (D.out _).mono ?_
      rintro e w3 ⟨rfl, hb3⟩
      have x3 := (Two.new _ _ _ _).below hb3
      go_wp2_with fail
      refine (E.out _).mono ?_
      rintro e w4 ⟨rfl, hb4⟩
      have x4 := (x3.alloc _).below hb4
      have y4 := (Two.new _ _ _ _).below hb4
      go_wp2_with fail
      refine (F.out _).mono ?_
      rintro e w5 ⟨rfl, hb5⟩
      obtain ⟨x50, x51, x5l⟩ := (x4.alloc _).below hb5
      obtain ⟨y50, y51, y5l⟩ := (y4.alloc _).below hb5
      obtain ⟨z50, z51, z5l⟩ := (Two.new _ _ _ _).below hb5
      clear x3 x4 y4
      have hz3 := hb3.size
      have hz4 := hb4.size
      have hz5 := hb5.size
      simp only [World.size_alloc] at hz3 hz4 hz5
      go_wp2
      go_ret
      exact ⟨rfl, ((((((hb1.trans (hb2.mono hz1)).alloc (by omega) _).trans (hb3.mono (by simp; omega))).alloc (by omega) _).trans (hb4.mono (by simp; omega))).alloc (by omega) _).trans (hb5.mono (by simp; omega)) |>.alloc (by omega) _⟩
end Go.Proofs.YtlfnhknnfajknaaDoor
