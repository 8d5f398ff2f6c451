/- From the condition on the listed variables of the rows that name utf8's tables to what the walks ask of them. -/
import Derived.Test.YtibdnfcbgcbdeaaDoorNsGl
namespace Go.Proofs.YtibdnfcbgcbdeaaDoor
open Go Go.RowKit Go.Shelf

theorem gl_of_laid2 {W : World} {d d2 d3 : DataW Unit} {nm nm2 nm3 : String} (h : laidMet Tryd.prog [(nm, d), ("math/bits.deBruijn64tab", Rows.laid_math_bits_deBruijn64tab), ("internal/strconv.uint64pow10", Rows.laid_internal_strconv_uint64pow10), (nm2, d2), ("bombarde/noteset.letters", Rows.laid_bombarde_noteset_letters), (nm3, d3)] W) : Gl W :=
  gl_of_tabs
    (Lib.tabIs_of_head (g := 1) (n := 64) (e := 5) (by kernel_rfl) rfl (by kernel_rfl) Tryd.underlying5 (by kernel_rfl) (by kernel_rfl) h.tail)
    (Lib.tabIs_of_head (g := 2) (n := 20) (e := 32) (by kernel_rfl) rfl (by kernel_rfl) Tryd.underlying32 (by kernel_rfl) (by kernel_rfl) h.tail.tail)
    (strs_of_head (g := 0) (n := 12) (e := 9) (ss := letters) (by kernel_rfl) rfl (by kernel_rfl) Tryd.underlying9 (by kernel_rfl) (by kernel_rfl) h.tail.tail.tail.tail)
end Go.Proofs.YtibdnfcbgcbdeaaDoor
