/- ExprSames answers true. How an argument that is two lists of items is read. -/
import Derived.Test.YtmohefgdpddldaaGreatDoorCP21
import Derived.Test.YtmohefgdpddldaaGreatDoorCP23
import Derived.Test.YtmohefgdpddldaaGreatDoorCP38
import Derived.OpenShut
set_option maxRecDepth 100000
namespace Go.Proofs.YtmohefgdpddldaaGreatDoor
open Go.RowKit
open Y (Nd It)

end Go.Proofs.YtmohefgdpddldaaGreatDoor
namespace Go.Proofs.YtmohefgdpddldaaGreatDoor
open Go.ChangeShapes Go.WideShapes Go.ChangeAt Go.RowKit Go.Deep
open Y (Nd It)

section
variable {H : Type} {enc : TypeId × Value → H} {W : World}
end
end Go.Proofs.YtmohefgdpddldaaGreatDoor
