import Derived.Test.YtjomfbegghgbdaaGreatJ00
import Derived.Test.YtjomfbegghgbdaaGreatJ35
import Derived.Test.YtjomfbegghgbdaaGreatJ28
import Derived.Test.YtjomfbegghgbdaaGreatJ29
import Derived.OwnWalk
import Derived.Deep.CutRange
namespace Go.Proofs.YtjomfbegghgbdaaGreat.P
open Go.RowKit
end Go.Proofs.YtjomfbegghgbdaaGreat.P
namespace Go.Proofs.YtjomfbegghgbdaaGreat.P
open Go.RowKit
def gb (c:Bool):List Int→Int
 | []=>0
 | x :: r=>(if x=13∨(x=10∧c=false) then 1 else 0) + gb (decide (x=13)) r
def gc (c:Bool):List Int→Bool
 | []=>c
 | x :: r=>gc (decide (x=13)) r
theorem gc_app (a b:List Int):∀ c,gc c (a ++ b)=gc (gc c a) b:=by
 induction a with
 | nil=>intro c;rfl
 | cons x a ih=>intro c;simp only [List.cons_append,gc,ih]
theorem gc_one (c:Bool) (x:Int):gc c [x]=decide (x=13):=rfl
end Go.Proofs.YtjomfbegghgbdaaGreat.P
