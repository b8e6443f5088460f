import Derived.Test.YtmcephlomccheabA5
import Derived.Test.YtmcephlomccheabPlain3
import Derived.Deep.OwnRows
namespace Go.Proofs.Ytmcephlomccheab
open Go.RowKit

end Go.Proofs.Ytmcephlomccheab
