import Derived.Test.YtphkjeeblihfgaaGreatDoorZCG
/- The document's receiver: Take, Ack; which frames may be. -/
namespace Go.Proofs.YtphkjeeblihfgaaGreatDoor
open Go.RowKit Go.Maps

end Go.Proofs.YtphkjeeblihfgaaGreatDoor

