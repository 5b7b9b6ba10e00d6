import Derived.Test.YtjomfbegghgbdaaGreatJ00
import Derived.Test.YtjomfbegghgbdaaGreatJ28
import Derived.Test.YtjomfbegghgbdaaGreatJ34
namespace Go.Proofs.YtjomfbegghgbdaaGreat.P
open Go.RowKit
section
variable {enc:Int} {A:List Int} {p:Nat} (hp:p≤A.length)
include hp
end
end Go.Proofs.YtjomfbegghgbdaaGreat.P
