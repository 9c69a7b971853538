import Derived.Test.YtpiefebngnlfoaaGreatDoorLi
set_option maxRecDepth 100000
set_option maxHeartbeats 16000000

namespace Go.Proofs.YtpiefebngnlfoaaGreatDoor
def zvO:Code→List Code
 |.seq a b=>zvO a++zvO b
 |.cond _ a b=>zvO a++zvO b
 |.block _ c=>zvO c
 |.loop c=>.loop c :: zvO c
 |_=>[]
def yiN(n:Nat)(c:Code):Code:=(zvO c).getD n .skip
end Go.Proofs.YtpiefebngnlfoaaGreatDoor
