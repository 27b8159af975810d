/- The walks of the laws OctetPuts, OctetGets, OctetNumbers, OctetTexts, OctetBack, OctetOrder, OctetTakes, OctetShort: each returns true, and changes nothing that was there. -/
import Derived.Test.YtdhmkcomngbmaaaRef
import Derived.Test.YtdhmkcomngbmaaaBack
namespace Go.Proofs.Ytdhmkcomngbmaaa
open Go.RowKit

theorem put300 : str (putB 300 2) = ⟨#[1, 44]⟩ := by decide +kernel
theorem put300E : putE 300 2 = 0 := by decide +kernel
theorem get300 : getN (ByteArray.mk #[1, 44]).data.toList = 300 := by decide +kernel
theorem get300E : getE (ByteArray.mk #[1, 44]).data.toList = 0 := by decide +kernel

end Go.Proofs.Ytdhmkcomngbmaaa
