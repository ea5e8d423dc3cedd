/- Texts of this proof, put together: SShelf. -/
import Derived.Test.YtpagbhgnkbbdjaaGreatDoorM5

/- The library's numbers: those of LShelf. -/
namespace Go.Proofs.YtpagbhgnkbbdjaaGreatDoor.Sh
end Go.Proofs.YtpagbhgnkbbdjaaGreatDoor.Sh
