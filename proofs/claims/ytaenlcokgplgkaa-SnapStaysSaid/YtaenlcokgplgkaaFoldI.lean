/- Folded writes: contracts of the document's Marks. -/
import Derived.Test.YtaenlcokgplgkaaFoldH
namespace Go.Proofs.Ytaenlcokgplgkaa
open Go.Shelf Go.RowKit Go.Lib Go.Sort

end Go.Proofs.Ytaenlcokgplgkaa
