/- Contract of slices.Insert of one volume, ahead of the end, where there is no room; the whole contract. -/
import Derived.Test.YtaenlcokgplgkaaVolH
namespace Go.Proofs.Ytaenlcokgplgkaa
open Go.RowKit

end Go.Proofs.Ytaenlcokgplgkaa
