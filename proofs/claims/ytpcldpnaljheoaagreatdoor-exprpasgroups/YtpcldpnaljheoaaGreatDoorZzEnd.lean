/-
  What the laws of stage 8 stand on.
-/
import Derived.Test.YtpcldpnaljheoaaGreatDoorZz6
import Derived.Test.YtpcldpnaljheoaaGreatDoorZz7
namespace Go.Proofs.YtpcldpnaljheoaaGreatDoor
end Go.Proofs.YtpcldpnaljheoaaGreatDoor
