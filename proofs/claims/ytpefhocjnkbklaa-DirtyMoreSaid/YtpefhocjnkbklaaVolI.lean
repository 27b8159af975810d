/- Contract of slices.Insert of one volume, ahead of the end, where there is no room; the whole contract. -/
import Derived.Test.YtpefhocjnkbklaaVolH
namespace Go.Proofs.Ytpefhocjnkbklaa
open Go.RowKit

end Go.Proofs.Ytpefhocjnkbklaa
