/- Names as rows of bytes: which may be. -/
import Derived.Test.YtfoamhkgdlebdaaGreatDoorAs5
import Derived.WalkKit
import Derived.WalkSpells
import Derived.ProofKit
import Derived.OpenShut
import Derived.RowKitTokens
import Derived.Deep.LoopGhost
import Derived.Deep.RegionWith
import Derived.Lib.IndexMore
import Derived.Lib.IndexBytes
import Derived.Lib.Join
import Derived.Lib.Bytealg
namespace Go.Proofs.YtfoamhkgdlebdaaGreatDoor
open Go.RowKit Go.Extern.Stop Go.Stop Go.Extern
set_option maxRecDepth 100000

def signB (c : UInt8) : Bool := (decide (97 ≤ c.toNat) && decide (c.toNat ≤ 122)) || (decide (65 ≤ c.toNat) && decide (c.toNat ≤ 90)) || (decide (48 ≤ c.toNat) && decide (c.toNat ≤ 57)) || c == 46 || c == 43 || c == 45 || c == 95 || c == 126
def okB (s : List UInt8) : Bool := decide (1 ≤ s.length) && decide (s.length ≤ 27) && !(s == [46]) && !(s == [46, 46]) && s.all signB
end Go.Proofs.YtfoamhkgdlebdaaGreatDoor
