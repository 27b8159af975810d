/- Contract of slices.Insert of one volume, ahead of the end, where there is no room; the whole contract. -/
import Derived.Test.YtlhklpkpnkjgbaaVolH
namespace Go.Proofs.Ytlhklpkpnkjgbaa
open Go.RowKit

end Go.Proofs.Ytlhklpkpnkjgbaa
