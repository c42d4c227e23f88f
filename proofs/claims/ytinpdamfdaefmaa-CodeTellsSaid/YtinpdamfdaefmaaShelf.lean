/- The library's contract of Mul64, laid at this dump in plain words. -/
import Derived.Shelf.Bits.Mul64
import Derived.Test.YtinpdamfdaefmaaProg
namespace Go.Proofs
open Go.Shelf
namespace Ytinpdamfdaefmaa
end Ytinpdamfdaefmaa
end Go.Proofs
