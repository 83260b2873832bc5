/- Two small numbers as an argument. -/
import Derived.Test.YtpllgfhocedgmaaRT17
import Derived.OpenShut
set_option maxRecDepth 100000
namespace Go.Proofs.Ytpllgfhocedgmaa
open Go.ChangeShapes Go.WideShapes Go.ChangeAt Go.RowKit Go.Deep

end Go.Proofs.Ytpllgfhocedgmaa
