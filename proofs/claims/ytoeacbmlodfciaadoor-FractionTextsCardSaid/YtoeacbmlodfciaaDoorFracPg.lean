/- The reference's Parse over every text: the number that parseE reckons, or its error. -/
import Derived.Test.YtoeacbmlodfciaaDoorFracPt
import Derived.Test.YtoeacbmlodfciaaDoorFracPpA
import Derived.Test.YtoeacbmlodfciaaDoorFracPpB
import Derived.Test.YtoeacbmlodfciaaDoorFracPpC
import Derived.Test.YtoeacbmlodfciaaDoorFracPpD
import Derived.Test.YtoeacbmlodfciaaDoorFracPpE
namespace Go.Proofs.YtoeacbmlodfciaaDoor
open Go Go.RowKit Go.Shelf

theorem size_mk (l : List UInt8) : (⟨l.toArray⟩ : ByteArray).size = l.length := by show l.toArray.size = _; simp
theorem ext_cons (c : UInt8) (t : List UInt8) (k : Nat) : (⟨(c :: t).toArray⟩ : ByteArray).extract (1 + k) (⟨(c :: t).toArray⟩ : ByteArray).size = ⟨(t.drop k).toArray⟩ := by
  rw [extract_drop, Nat.add_comm]; rfl
theorem ext_cons0 (c : UInt8) (t : List UInt8) : (⟨(c :: t).toArray⟩ : ByteArray).extract 1 (⟨(c :: t).toArray⟩ : ByteArray).size = ⟨t.toArray⟩ := by
  rw [extract_drop]; rfl
theorem get_cons (c : UInt8) (t : List UInt8) (h : 0 < (⟨(c :: t).toArray⟩ : ByteArray).size) : (⟨(c :: t).toArray⟩ : ByteArray)[0]'h = c := rfl
theorem byte_eq {c d : UInt8} {n : Int} (hn : (d.toNat : Int) = n) : (((c.toNat : Int) == n) = true ↔ c = d) := by
  rw [beq_iff_eq, ← hn]
  constructor
  · intro h; exact UInt8.toNat_inj.1 (by omega)
  · intro h; rw [h]
theorem byte_yes {c : UInt8} (d : UInt8) (n : Int) (hn : (d.toNat : Int) = n) (h : c = d) : ((c.toNat : Int) == n) = true := (byte_eq hn).2 h
theorem byte_no {c : UInt8} (d : UInt8) (n : Int) (hn : (d.toNat : Int) = n) (h : c ≠ d) : ((c.toNat : Int) == n) = false := by
  cases hb : ((c.toNat : Int) == n) with
  | false => rfl
  | true => exact absurd ((byte_eq hn).1 hb) h

set_option maxHeartbeats 1000000 in
theorem rparse_nil (w : World) :
    Calls Tryd.prog 29 #[.string ⟨#[]⟩] w fun e w' => e = .returned (.tuple #[.agg #[.int .i64 0, .int .i64 0], .int .i64 13]) ∧ Below w.heap.size w w' := by
  go_enter Tryd.func29, Tryd.ntmps29
  go_wp2_with fail
  exact bodyPost_ret (v := .tuple #[.agg #[.int .i64 0, .int .i64 0], .int .i64 13]) (by simp [results, Tryd.results29, go_sem]) rfl ⟨rfl, by go_grown⟩

set_option maxHeartbeats 1000000 in
theorem rparse_long (s : ByteArray) (hs : s.size ≤ 1048576) (h : 40 < s.size) (w : World) :
    Calls Tryd.prog 29 #[.string s] w fun e w' => e = .returned (.tuple #[.agg #[.int .i64 0, .int .i64 0], .int .i64 16]) ∧ Below w.heap.size w w' := by
  obtain ⟨n1, n2, n3⟩ := nonempty_facts (show s.size ≠ 0 by omega)
  have h1 : (40 : Int) < (s.size : Int) := by omega
  go_enter Tryd.func29, Tryd.ntmps29
  go_wp2_with fail
  exact bodyPost_ret (v := .tuple #[.agg #[.int .i64 0, .int .i64 0], .int .i64 16]) (by simp [results, Tryd.results29, go_sem]) rfl ⟨rfl, by go_grown⟩

theorem rparse_neg (s M : ByteArray) (h0 : 0 < s.size) (h40 : s.size ≤ 40) (b0 : (((s[0]'h0).toNat : Int) == 45) = true) (hM : s.extract 1 s.size = M) (hM40 : M.size ≤ 40) (r1 r2 r3 : Int) (hr : FracMath.parseM true (FracMath.partsL M.data.toList) = (r1, r2, r3)) (w : World) :
    Calls Tryd.prog 29 #[.string s] w fun e w' => e = .returned (.tuple #[.agg #[.int .i64 r1, .int .i64 r2], .int .i64 r3]) ∧ Below w.heap.size w w' := by
  have N1 := Lib.hid (fun q => number_any M (by omega) q)
  obtain ⟨p, hp⟩ : ∃ p, M.data.toList.takeWhile FracMath.isD = p := ⟨_, rfl⟩
  obtain ⟨r, hr0⟩ : ∃ r, M.data.toList.dropWhile FracMath.isD = r := ⟨_, rfl⟩
  have hdrop : M.extract p.length M.size = ⟨r.toArray⟩ := by rw [extract_drop, ← hp, FracMath.dw_drop, hr0]
  have hall : p.length + r.length = M.size := by
    rw [← size_list M, ← FracMath.tw_parts M.data.toList, hp, hr0, List.length_append]
  rw [hp] at N1
  by_cases hpe : p = []
  · subst hpe
    have hn := FracMath.parse_none (neg := true) (m := M.data.toList) (by rw [hp]; exact FracMath.not_shape_nil)
    rw [hn] at hr
    cases hr
    cases r with
    | nil =>
      exact rp_empty_neg s M h0 h40 b0 hM (by cases M with | mk d => exact congrArg ByteArray.mk (Array.eq_empty_of_size_eq_zero hall.symm)) N1 w
    | cons c t => exact rp_none_neg s M h0 h40 b0 hM _ N1 hdrop (by rw [size_mk]; simp) w
  · have hpl : 0 < p.length := List.length_pos_iff.2 hpe
    cases r with
    | nil =>
      rw [FracMath.parse_whole hp hr0 hpe] at hr
      by_cases hm : 1000000 < FracMath.valD p
      · rw [if_pos hm] at hr
        cases hr
        exact rp_whole_over_neg s M h0 h40 b0 hM hM40 _ _ hpl (by omega) N1 hdrop hm w
      · rw [if_neg hm] at hr
        exact rp_whole_fine_neg s M h0 h40 b0 hM hM40 _ _ hpl (by omega) N1 hdrop hm r1 r2 r3 (by simpa using hr) w
    | cons c t =>
      have hl : (c :: t).length = t.length + 1 := rfl
      have hRs : 0 < (⟨(c :: t).toArray⟩ : ByteArray).size := by rw [size_mk]; simp
      have hR40 : (⟨(c :: t).toArray⟩ : ByteArray).size ≤ 40 := by rw [size_mk]; omega
      have N2 := Lib.hid (fun q => number_any ⟨t.toArray⟩ (by rw [size_mk]; omega) q)
      rw [show (⟨t.toArray⟩ : ByteArray).data.toList = t from by simp] at N2
      have htp := congrArg List.length (FracMath.tw_parts t)
      rw [List.length_append] at htp
      by_cases hc : c = 32
      · subst hc
        obtain ⟨q, hq⟩ : ∃ q, t.takeWhile FracMath.isD = q := ⟨_, rfl⟩
        obtain ⟨u, hu⟩ : ∃ u, t.dropWhile FracMath.isD = u := ⟨_, rfl⟩
        have hU : (⟨((32 : UInt8) :: t).toArray⟩ : ByteArray).extract (1 + q.length) (⟨((32 : UInt8) :: t).toArray⟩ : ByteArray).size = ⟨u.toArray⟩ := by rw [ext_cons, ← hq, FracMath.dw_drop, hu]
        have bR := byte_yes (c := (⟨((32 : UInt8) :: t).toArray⟩ : ByteArray)[0]'hRs) 32 32 rfl rfl
        rw [hq] at N2
        rw [hq, hu] at htp
        by_cases hqe : q = []
        · subst hqe
          rw [FracMath.parse_none (by rw [hp, hr0]; exact FracMath.not_shape_blank (.inl hq))] at hr
          cases hr
          exact rp_mixed_none_neg s M h0 h40 b0 hM hM40 _ _ _ _ _ hpl (by omega) N1 hdrop hRs hR40 bR (ext_cons0 _ _) N2 w
        · have hql : 0 < q.length := List.length_pos_iff.2 hqe
          cases u with
          | nil =>
            rw [FracMath.parse_none (by rw [hp, hr0]; exact FracMath.not_shape_blank (.inr (.inl hu)))] at hr
            cases hr
            exact rp_mixed_end_neg s M h0 h40 b0 hM hM40 _ _ _ _ _ _ hpl (by omega) N1 hdrop hRs hR40 bR (ext_cons0 _ _) N2 hU hql (by rw [size_mk, hl]; omega) w
          | cons d v =>
            have hlu : (d :: v).length = v.length + 1 := rfl
            have hUs : 0 < (⟨(d :: v).toArray⟩ : ByteArray).size := by rw [size_mk]; simp
            have hU40 : (⟨(d :: v).toArray⟩ : ByteArray).size ≤ 40 := by rw [size_mk]; omega
            have N3 := Lib.hid (fun q => number_any ⟨v.toArray⟩ (by rw [size_mk]; omega) q)
            rw [show (⟨v.toArray⟩ : ByteArray).data.toList = v from by simp] at N3
            have hvp := congrArg List.length (FracMath.tw_parts v)
            rw [List.length_append] at hvp
            have hV := ext_cons0 d v
            by_cases hd : d = 47
            · have bU := byte_yes (c := (⟨(d :: v).toArray⟩ : ByteArray)[0]'hUs) 47 47 rfl hd
              subst hd
              by_cases hk : v.takeWhile FracMath.isD = []
              · rw [FracMath.parse_none (by rw [hp, hr0]; exact FracMath.not_shape_blank (.inr (.inr ⟨_, _, hu, .inr (.inl hk)⟩)))] at hr
                cases hr
                exact rp_mixed_bad2_neg s M h0 h40 b0 hM hM40 _ _ _ _ _ _ _ hpl (by omega) N1 hdrop hRs hR40 bR (ext_cons0 _ _) N2 hU hql (by rw [size_mk, hl]; omega) hUs hU40 _ _ _ bU hV N3 (by omega) (by rw [hk]; rfl) w
              · have hkl : 0 < (v.takeWhile FracMath.isD).length := List.length_pos_iff.2 hk
                by_cases he : v.dropWhile FracMath.isD = []
                · have hve : v.takeWhile FracMath.isD = v := by have := FracMath.tw_parts v; rwa [he, List.append_nil] at this
                  have hvd : FracMath.allD v = true := FracMath.allD_iff.2 ⟨by rw [← hve]; exact hk, by rw [← hve]; exact FracMath.tw_is v⟩
                  have hqd : FracMath.allD q = true := FracMath.allD_iff.2 ⟨hqe, by rw [← hq]; exact FracMath.tw_is t⟩
                  have htq : t = q ++ 47 :: v := by rw [← hq, ← hu]; exact (FracMath.tw_parts t).symm
                  rw [FracMath.parse_mixed hp (by rw [hr0, htq]) hpe hqd hvd] at hr
                  rw [hve] at N3 hkl
                  by_cases hm : 1000000 < max (FracMath.valD p) (max (FracMath.valD q) (FracMath.valD v))
                  · rw [if_pos hm] at hr
                    cases hr
                    exact rp_mixed_over_neg s M h0 h40 b0 hM hM40 _ _ _ _ _ _ _ hpl (by omega) N1 hdrop hRs hR40 bR (ext_cons0 _ _) N2 hU hql (by rw [size_mk, hl]; omega) hUs hU40 _ _ _ bU hV N3 (by omega) hkl (by rw [size_mk]; rfl) hm w
                  · rw [if_neg hm] at hr
                    exact rp_mixed_fine_neg s M h0 h40 b0 hM hM40 _ _ _ _ _ _ _ hpl (by omega) N1 hdrop hRs hR40 bR (ext_cons0 _ _) N2 hU hql (by rw [size_mk, hl]; omega) hUs hU40 _ _ _ bU hV N3 (by omega) hkl (by rw [size_mk]; rfl) hm r1 r2 r3 (by rw [← hr]; simp [Int.add_comm]) w
                · have hdl : 0 < (v.dropWhile FracMath.isD).length := List.length_pos_iff.2 he
                  rw [FracMath.parse_none (by rw [hp, hr0]; exact FracMath.not_shape_blank (.inr (.inr ⟨_, _, hu, .inr (.inr he)⟩)))] at hr
                  cases hr
                  exact rp_mixed_bad3_neg s M h0 h40 b0 hM hM40 _ _ _ _ _ _ _ hpl (by omega) N1 hdrop hRs hR40 bR (ext_cons0 _ _) N2 hU hql (by rw [size_mk, hl]; omega) hUs hU40 _ _ _ bU hV N3 (by omega) hkl (by rw [size_mk, hlu]; omega) w
            · have bU := byte_no (c := (⟨(d :: v).toArray⟩ : ByteArray)[0]'hUs) 47 47 rfl hd
              rw [FracMath.parse_none (by rw [hp, hr0]; exact FracMath.not_shape_blank (.inr (.inr ⟨_, _, hu, .inl hd⟩)))] at hr
              cases hr
              exact rp_mixed_bad1_neg s M h0 h40 b0 hM hM40 _ _ _ _ _ _ _ hpl (by omega) N1 hdrop hRs hR40 bR (ext_cons0 _ _) N2 hU hql (by rw [size_mk, hl]; omega) hUs hU40 _ _ _ bU hV N3 (by omega) w
      · have bB := byte_no (c := (⟨(c :: t).toArray⟩ : ByteArray)[0]'hRs) 32 32 rfl hc
        have hV := ext_cons0 c t
        by_cases hd : c = 47
        · have bU := byte_yes (c := (⟨(c :: t).toArray⟩ : ByteArray)[0]'hRs) 47 47 rfl hd
          subst hd
          by_cases hk : t.takeWhile FracMath.isD = []
          · rw [FracMath.parse_none (by rw [hp, hr0]; exact FracMath.not_shape_slash (.inl hk))] at hr
            cases hr
            exact rp_frac_bad2_neg s M h0 h40 b0 hM hM40 _ _ _ hpl (by omega) N1 hdrop hRs bB hR40 _ _ _ bU hV N2 (by omega) (by rw [hk]; rfl) w
          · have hkl : 0 < (t.takeWhile FracMath.isD).length := List.length_pos_iff.2 hk
            by_cases he : t.dropWhile FracMath.isD = []
            · have hve : t.takeWhile FracMath.isD = t := by have := FracMath.tw_parts t; rwa [he, List.append_nil] at this
              have hvd : FracMath.allD t = true := FracMath.allD_iff.2 ⟨by rw [← hve]; exact hk, by rw [← hve]; exact FracMath.tw_is t⟩
              rw [FracMath.parse_frac hp hr0 hpe hvd] at hr
              rw [hve] at N2 hkl
              by_cases hm : 1000000 < max (FracMath.valD p) (FracMath.valD t)
              · rw [if_pos hm] at hr
                cases hr
                exact rp_frac_over_neg s M h0 h40 b0 hM hM40 _ _ _ hpl (by omega) N1 hdrop hRs bB hR40 _ _ _ bU hV N2 (by omega) hkl (by rw [size_mk]; rfl) hm w
              · rw [if_neg hm] at hr
                exact rp_frac_fine_neg s M h0 h40 b0 hM hM40 _ _ _ hpl (by omega) N1 hdrop hRs bB hR40 _ _ _ bU hV N2 (by omega) hkl (by rw [size_mk]; rfl) hm r1 r2 r3 (by simpa using hr) w
            · have hdl : 0 < (t.dropWhile FracMath.isD).length := List.length_pos_iff.2 he
              rw [FracMath.parse_none (by rw [hp, hr0]; exact FracMath.not_shape_slash (.inr he))] at hr
              cases hr
              exact rp_frac_bad3_neg s M h0 h40 b0 hM hM40 _ _ _ hpl (by omega) N1 hdrop hRs bB hR40 _ _ _ bU hV N2 (by omega) hkl (by rw [size_mk, hl]; omega) w
        · have bU := byte_no (c := (⟨(c :: t).toArray⟩ : ByteArray)[0]'hRs) 47 47 rfl hd
          rw [FracMath.parse_none (by rw [hp, hr0]; exact FracMath.not_shape_other hd hc)] at hr
          cases hr
          exact rp_frac_bad1_neg s M h0 h40 b0 hM hM40 _ _ _ hpl (by omega) N1 hdrop hRs bB hR40 _ _ _ bU hV N2 (by omega) w

theorem rparse_pos (M : ByteArray) (h0 : 0 < M.size) (h40 : M.size ≤ 40) (b0 : (((M[0]'h0).toNat : Int) == 45) = false) (r1 r2 r3 : Int) (hr : FracMath.parseM false (FracMath.partsL M.data.toList) = (r1, r2, r3)) (w : World) :
    Calls Tryd.prog 29 #[.string M] w fun e w' => e = .returned (.tuple #[.agg #[.int .i64 r1, .int .i64 r2], .int .i64 r3]) ∧ Below w.heap.size w w' := by
  have N1 := Lib.hid (fun q => number_any M (by omega) q)
  obtain ⟨p, hp⟩ : ∃ p, M.data.toList.takeWhile FracMath.isD = p := ⟨_, rfl⟩
  obtain ⟨r, hr0⟩ : ∃ r, M.data.toList.dropWhile FracMath.isD = r := ⟨_, rfl⟩
  have hdrop : M.extract p.length M.size = ⟨r.toArray⟩ := by rw [extract_drop, ← hp, FracMath.dw_drop, hr0]
  have hall : p.length + r.length = M.size := by
    rw [← size_list M, ← FracMath.tw_parts M.data.toList, hp, hr0, List.length_append]
  rw [hp] at N1
  by_cases hpe : p = []
  · subst hpe
    have hn := FracMath.parse_none (neg := false) (m := M.data.toList) (by rw [hp]; exact FracMath.not_shape_nil)
    rw [hn] at hr
    cases hr
    cases r with
    | nil =>
      exfalso; simp at hall; omega
    | cons c t => exact rp_none_pos M h0 h40 b0 _ N1 hdrop (by rw [size_mk]; simp) w
  · have hpl : 0 < p.length := List.length_pos_iff.2 hpe
    cases r with
    | nil =>
      rw [FracMath.parse_whole hp hr0 hpe] at hr
      by_cases hm : 1000000 < FracMath.valD p
      · rw [if_pos hm] at hr
        cases hr
        exact rp_whole_over_pos M h0 h40 b0 _ _ hpl (by omega) N1 hdrop hm w
      · rw [if_neg hm] at hr
        exact rp_whole_fine_pos M h0 h40 b0 _ _ hpl (by omega) N1 hdrop hm r1 r2 r3 (by simpa using hr) w
    | cons c t =>
      have hl : (c :: t).length = t.length + 1 := rfl
      have hRs : 0 < (⟨(c :: t).toArray⟩ : ByteArray).size := by rw [size_mk]; simp
      have hR40 : (⟨(c :: t).toArray⟩ : ByteArray).size ≤ 40 := by rw [size_mk]; omega
      have N2 := Lib.hid (fun q => number_any ⟨t.toArray⟩ (by rw [size_mk]; omega) q)
      rw [show (⟨t.toArray⟩ : ByteArray).data.toList = t from by simp] at N2
      have htp := congrArg List.length (FracMath.tw_parts t)
      rw [List.length_append] at htp
      by_cases hc : c = 32
      · subst hc
        obtain ⟨q, hq⟩ : ∃ q, t.takeWhile FracMath.isD = q := ⟨_, rfl⟩
        obtain ⟨u, hu⟩ : ∃ u, t.dropWhile FracMath.isD = u := ⟨_, rfl⟩
        have hU : (⟨((32 : UInt8) :: t).toArray⟩ : ByteArray).extract (1 + q.length) (⟨((32 : UInt8) :: t).toArray⟩ : ByteArray).size = ⟨u.toArray⟩ := by rw [ext_cons, ← hq, FracMath.dw_drop, hu]
        have bR := byte_yes (c := (⟨((32 : UInt8) :: t).toArray⟩ : ByteArray)[0]'hRs) 32 32 rfl rfl
        rw [hq] at N2
        rw [hq, hu] at htp
        by_cases hqe : q = []
        · subst hqe
          rw [FracMath.parse_none (by rw [hp, hr0]; exact FracMath.not_shape_blank (.inl hq))] at hr
          cases hr
          exact rp_mixed_none_pos M h0 h40 b0 _ _ _ _ _ hpl (by omega) N1 hdrop hRs hR40 bR (ext_cons0 _ _) N2 w
        · have hql : 0 < q.length := List.length_pos_iff.2 hqe
          cases u with
          | nil =>
            rw [FracMath.parse_none (by rw [hp, hr0]; exact FracMath.not_shape_blank (.inr (.inl hu)))] at hr
            cases hr
            exact rp_mixed_end_pos M h0 h40 b0 _ _ _ _ _ _ hpl (by omega) N1 hdrop hRs hR40 bR (ext_cons0 _ _) N2 hU hql (by rw [size_mk, hl]; omega) w
          | cons d v =>
            have hlu : (d :: v).length = v.length + 1 := rfl
            have hUs : 0 < (⟨(d :: v).toArray⟩ : ByteArray).size := by rw [size_mk]; simp
            have hU40 : (⟨(d :: v).toArray⟩ : ByteArray).size ≤ 40 := by rw [size_mk]; omega
            have N3 := Lib.hid (fun q => number_any ⟨v.toArray⟩ (by rw [size_mk]; omega) q)
            rw [show (⟨v.toArray⟩ : ByteArray).data.toList = v from by simp] at N3
            have hvp := congrArg List.length (FracMath.tw_parts v)
            rw [List.length_append] at hvp
            have hV := ext_cons0 d v
            by_cases hd : d = 47
            · have bU := byte_yes (c := (⟨(d :: v).toArray⟩ : ByteArray)[0]'hUs) 47 47 rfl hd
              subst hd
              by_cases hk : v.takeWhile FracMath.isD = []
              · rw [FracMath.parse_none (by rw [hp, hr0]; exact FracMath.not_shape_blank (.inr (.inr ⟨_, _, hu, .inr (.inl hk)⟩)))] at hr
                cases hr
                exact rp_mixed_bad2_pos M h0 h40 b0 _ _ _ _ _ _ _ hpl (by omega) N1 hdrop hRs hR40 bR (ext_cons0 _ _) N2 hU hql (by rw [size_mk, hl]; omega) hUs hU40 _ _ _ bU hV N3 (by omega) (by rw [hk]; rfl) w
              · have hkl : 0 < (v.takeWhile FracMath.isD).length := List.length_pos_iff.2 hk
                by_cases he : v.dropWhile FracMath.isD = []
                · have hve : v.takeWhile FracMath.isD = v := by have := FracMath.tw_parts v; rwa [he, List.append_nil] at this
                  have hvd : FracMath.allD v = true := FracMath.allD_iff.2 ⟨by rw [← hve]; exact hk, by rw [← hve]; exact FracMath.tw_is v⟩
                  have hqd : FracMath.allD q = true := FracMath.allD_iff.2 ⟨hqe, by rw [← hq]; exact FracMath.tw_is t⟩
                  have htq : t = q ++ 47 :: v := by rw [← hq, ← hu]; exact (FracMath.tw_parts t).symm
                  rw [FracMath.parse_mixed hp (by rw [hr0, htq]) hpe hqd hvd] at hr
                  rw [hve] at N3 hkl
                  by_cases hm : 1000000 < max (FracMath.valD p) (max (FracMath.valD q) (FracMath.valD v))
                  · rw [if_pos hm] at hr
                    cases hr
                    exact rp_mixed_over_pos M h0 h40 b0 _ _ _ _ _ _ _ hpl (by omega) N1 hdrop hRs hR40 bR (ext_cons0 _ _) N2 hU hql (by rw [size_mk, hl]; omega) hUs hU40 _ _ _ bU hV N3 (by omega) hkl (by rw [size_mk]; rfl) hm w
                  · rw [if_neg hm] at hr
                    exact rp_mixed_fine_pos M h0 h40 b0 _ _ _ _ _ _ _ hpl (by omega) N1 hdrop hRs hR40 bR (ext_cons0 _ _) N2 hU hql (by rw [size_mk, hl]; omega) hUs hU40 _ _ _ bU hV N3 (by omega) hkl (by rw [size_mk]; rfl) hm r1 r2 r3 (by rw [← hr]; simp [Int.add_comm]) w
                · have hdl : 0 < (v.dropWhile FracMath.isD).length := List.length_pos_iff.2 he
                  rw [FracMath.parse_none (by rw [hp, hr0]; exact FracMath.not_shape_blank (.inr (.inr ⟨_, _, hu, .inr (.inr he)⟩)))] at hr
                  cases hr
                  exact rp_mixed_bad3_pos M h0 h40 b0 _ _ _ _ _ _ _ hpl (by omega) N1 hdrop hRs hR40 bR (ext_cons0 _ _) N2 hU hql (by rw [size_mk, hl]; omega) hUs hU40 _ _ _ bU hV N3 (by omega) hkl (by rw [size_mk, hlu]; omega) w
            · have bU := byte_no (c := (⟨(d :: v).toArray⟩ : ByteArray)[0]'hUs) 47 47 rfl hd
              rw [FracMath.parse_none (by rw [hp, hr0]; exact FracMath.not_shape_blank (.inr (.inr ⟨_, _, hu, .inl hd⟩)))] at hr
              cases hr
              exact rp_mixed_bad1_pos M h0 h40 b0 _ _ _ _ _ _ _ hpl (by omega) N1 hdrop hRs hR40 bR (ext_cons0 _ _) N2 hU hql (by rw [size_mk, hl]; omega) hUs hU40 _ _ _ bU hV N3 (by omega) w
      · have bB := byte_no (c := (⟨(c :: t).toArray⟩ : ByteArray)[0]'hRs) 32 32 rfl hc
        have hV := ext_cons0 c t
        by_cases hd : c = 47
        · have bU := byte_yes (c := (⟨(c :: t).toArray⟩ : ByteArray)[0]'hRs) 47 47 rfl hd
          subst hd
          by_cases hk : t.takeWhile FracMath.isD = []
          · rw [FracMath.parse_none (by rw [hp, hr0]; exact FracMath.not_shape_slash (.inl hk))] at hr
            cases hr
            exact rp_frac_bad2_pos M h0 h40 b0 _ _ _ hpl (by omega) N1 hdrop hRs bB hR40 _ _ _ bU hV N2 (by omega) (by rw [hk]; rfl) w
          · have hkl : 0 < (t.takeWhile FracMath.isD).length := List.length_pos_iff.2 hk
            by_cases he : t.dropWhile FracMath.isD = []
            · have hve : t.takeWhile FracMath.isD = t := by have := FracMath.tw_parts t; rwa [he, List.append_nil] at this
              have hvd : FracMath.allD t = true := FracMath.allD_iff.2 ⟨by rw [← hve]; exact hk, by rw [← hve]; exact FracMath.tw_is t⟩
              rw [FracMath.parse_frac hp hr0 hpe hvd] at hr
              rw [hve] at N2 hkl
              by_cases hm : 1000000 < max (FracMath.valD p) (FracMath.valD t)
              · rw [if_pos hm] at hr
                cases hr
                exact rp_frac_over_pos M h0 h40 b0 _ _ _ hpl (by omega) N1 hdrop hRs bB hR40 _ _ _ bU hV N2 (by omega) hkl (by rw [size_mk]; rfl) hm w
              · rw [if_neg hm] at hr
                exact rp_frac_fine_pos M h0 h40 b0 _ _ _ hpl (by omega) N1 hdrop hRs bB hR40 _ _ _ bU hV N2 (by omega) hkl (by rw [size_mk]; rfl) hm r1 r2 r3 (by simpa using hr) w
            · have hdl : 0 < (t.dropWhile FracMath.isD).length := List.length_pos_iff.2 he
              rw [FracMath.parse_none (by rw [hp, hr0]; exact FracMath.not_shape_slash (.inr he))] at hr
              cases hr
              exact rp_frac_bad3_pos M h0 h40 b0 _ _ _ hpl (by omega) N1 hdrop hRs bB hR40 _ _ _ bU hV N2 (by omega) hkl (by rw [size_mk, hl]; omega) w
        · have bU := byte_no (c := (⟨(c :: t).toArray⟩ : ByteArray)[0]'hRs) 47 47 rfl hd
          rw [FracMath.parse_none (by rw [hp, hr0]; exact FracMath.not_shape_other hd hc)] at hr
          cases hr
          exact rp_frac_bad1_pos M h0 h40 b0 _ _ _ hpl (by omega) N1 hdrop hRs bB hR40 _ _ _ bU hV N2 (by omega) w

theorem rparse_any (s : ByteArray) (hs : s.size ≤ 1048576) (r1 r2 r3 : Int) (hr : FracMath.parseE s.data.toList = (r1, r2, r3)) (w : World) :
    Calls Tryd.prog 29 #[.string s] w fun e w' => e = .returned (.tuple #[.agg #[.int .i64 r1, .int .i64 r2], .int .i64 r3]) ∧ Below w.heap.size w w' := by
  have hsl := size_list s
  unfold FracMath.parseE at hr
  by_cases h0 : s.data.toList = []
  · rw [if_pos h0] at hr
    cases hr
    rw [bytes_ext h0]
    exact rparse_nil w
  · rw [if_neg h0] at hr
    by_cases h40 : 40 < s.data.toList.length
    · rw [if_pos h40] at hr
      cases hr
      exact rparse_long s hs (by omega) w
    · rw [if_neg h40] at hr
      have hsz : 0 < s.size := by
        have := List.length_pos_iff.2 h0
        omega
      have hg : s.data.toList.head? = some s[0] := by
        rw [List.head?_eq_getElem?, List.getElem?_eq_getElem (by omega), getElem_list s 0 hsz]
      by_cases hc : s[0] = 45
      · have hh : s.data.toList.head? = some 45 := by rw [hg, hc]
        rw [if_pos hh, show decide (s.data.toList.head? = some 45) = true by simpa using hh] at hr
        have ht : (s.extract 1 s.size).data.toList = s.data.toList.tail := by rw [extract_drop]; simp
        exact rparse_neg s _ hsz (by omega) (byte_yes 45 45 rfl hc) rfl (by rw [← size_list, ht, List.length_tail]; omega) r1 r2 r3 (by rw [ht]; exact hr) w
      · have hh : ¬ s.data.toList.head? = some 45 := by rw [hg]; simpa using hc
        rw [if_neg hh, show decide (s.data.toList.head? = some 45) = false by simpa using hh] at hr
        exact rparse_pos s hsz (by omega) (byte_no 45 45 rfl hc) r1 r2 r3 hr w
end Go.Proofs.YtoeacbmlodfciaaDoor
