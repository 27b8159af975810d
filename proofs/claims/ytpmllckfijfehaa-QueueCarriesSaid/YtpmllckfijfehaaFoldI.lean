/- Folded writes: contracts of the document's Marks. -/
import Derived.Test.YtpmllckfijfehaaFoldH
namespace Go.Proofs.Ytpmllckfijfehaa
open Go.Shelf Go.RowKit Go.Lib Go.Sort

end Go.Proofs.Ytpmllckfijfehaa
