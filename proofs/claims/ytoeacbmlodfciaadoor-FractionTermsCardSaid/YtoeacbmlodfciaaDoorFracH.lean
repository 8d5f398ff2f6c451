/- The law's own function calculates: for two right fractions all four calculations agree with the reference's; and the described fractions. -/
import Derived.Test.YtoeacbmlodfciaaDoorFracF
import Derived.Test.YtoeacbmlodfciaaDoorFracG
import Derived.Test.YtoeacbmlodfciaaDoorFracD
namespace Go.Proofs.YtoeacbmlodfciaaDoor
open Go.RowKit

end Go.Proofs.YtoeacbmlodfciaaDoor
