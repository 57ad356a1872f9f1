import Derived.Test.YtabhfeocelljdaaGreatDoorZCG
/- The document's receiver: Take, Ack; which frames may be. -/
namespace Go.Proofs.YtabhfeocelljdaaGreatDoor
open Go.RowKit Go.Maps

end Go.Proofs.YtabhfeocelljdaaGreatDoor

