import Derived.Test.YtmebcdpdpcpnmabA5
import Derived.Test.YtmebcdpdpcpnmabPlain3
import Derived.Deep.OwnRows
namespace Go.Proofs.Ytmebcdpdpcpnmab
open Go.RowKit

end Go.Proofs.Ytmebcdpdpcpnmab
