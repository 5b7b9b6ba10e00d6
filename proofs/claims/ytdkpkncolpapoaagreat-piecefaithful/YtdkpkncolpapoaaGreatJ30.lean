import Derived.Test.YtdkpkncolpapoaaGreatJ00
import Derived.Test.YtdkpkncolpapoaaGreatJ26
namespace Go.Proofs.YtdkpkncolpapoaaGreat.P
open Go.RowKit
set_option maxRecDepth 100000 in
theorem known_yes (enc:Int) (la:Option Addr) (n lc:Nat) (w:World) (h:1≤enc∧enc≤4∧n≤65536):Calls Tryz.prog 25 #[.int .i64 enc,.slice la n lc] w fun e w'=>e=.returned (.bool true)∧w'=w:=by
 obtain ⟨h1,h2,h3⟩:=h
 have h3':(n:Int)≤65536:=by omega
 go_enter Tryz.func25,Tryz.ntmps25
 go_wp2_with fail
 go_ret
 exact ⟨rfl,rfl⟩
set_option maxRecDepth 100000 in
theorem known_no (enc:Int) (la:Option Addr) (n lc:Nat) (w:World) (hn:n≤9223372036854775807) (h:¬ (1≤enc∧enc≤4∧n≤65536)):Calls Tryz.prog 25 #[.int .i64 enc,.slice la n lc] w fun e w'=>e=.returned (.bool false)∧w'=w:=by
 by_cases h1:1≤enc
 ·by_cases h2:enc≤4
  ·have h3':¬ (n:Int)≤65536:=by omega
   clear h
   go_enter Tryz.func25,Tryz.ntmps25
   go_wp2_with fail
   go_ret
   exact ⟨rfl,rfl⟩
  ·clear h
   go_enter Tryz.func25,Tryz.ntmps25
   go_wp2_with fail
   go_ret
   exact ⟨rfl,rfl⟩
 ·clear h
  go_enter Tryz.func25,Tryz.ntmps25
  go_wp2_with fail
  go_ret
  exact ⟨rfl,rfl⟩
end Go.Proofs.YtdkpkncolpapoaaGreat.P
