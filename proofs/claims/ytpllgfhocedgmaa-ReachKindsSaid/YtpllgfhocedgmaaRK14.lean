/- Arguments of layers 11 and 12: forms, none of whose rows begins at what is frozen. -/
import Derived.Test.YtpllgfhocedgmaaRK13
import Derived.Test.YtpllgfhocedgmaaRK05
set_option maxRecDepth 100000
namespace Go.Proofs.Ytpllgfhocedgmaa
open Go.ChangeShapes Go.WideShapes Go.ChangeAt Go.RowKit Go.Deep

section
variable {H : Type} {enc : TypeId × Value → H} {W : World}
end
end Go.Proofs.Ytpllgfhocedgmaa
