/- Contract of slices.Insert of one volume, ahead of the end, where there is no room; the whole contract. -/
import Derived.Test.YtpmllckfijfehaaVolH
namespace Go.Proofs.Ytpmllckfijfehaa
open Go.RowKit

end Go.Proofs.Ytpmllckfijfehaa
