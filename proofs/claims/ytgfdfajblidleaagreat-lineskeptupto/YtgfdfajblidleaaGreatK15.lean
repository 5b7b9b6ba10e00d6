import Derived.Test.YtgfdfajblidleaaGreatK13
import Derived.Test.YtgfdfajblidleaaGreatK14
set_option maxRecDepth 100000
namespace Go.Proofs.YtgfdfajblidleaaGreat.P
open Go.RowKit
def LdR (w:World) (lv:Value) (L:List Int):Prop:=∃ bl ol cl,lv=.slice (some ⟨bl,ol,none⟩) L.length cl∧L.length≤cl∧cl≤9223372036854775807∧RwU w bl ol L
theorem LdR.same {w w':World} {lv:Value} {L:List Int} (h:LdR w lv L) (hb:∀ b,Typ 5 w b→w'.heap[b]?=w.heap[b]?):LdR w' lv L:=by
 obtain ⟨bl,ol,cl,h1,h2,h3,h4⟩:=h
 exact ⟨bl,ol,cl,h1,h2,h3,h4.same (hb bl h4.typ)⟩
theorem LdR.ext {w w':World} {lv:Value} {L:List Int} (h:LdR w lv L) (hb:Below w.heap.size w w'):LdR w' lv L:=h.same fun b hb'=>hb.block b hb'.lt
open Go.RowKit
def OldR (w:World) (bo:Nat) (v:Value) (xs:List It):Prop :=
 (xs=[]∧∃ p c,v=.slice p 0 c)∨∃ o c,v=.slice (some ⟨bo,o,none⟩) xs.length c∧xs.length≤c∧c≤9223372036854775807∧RwP w bo o xs
def ow (g bo:Nat) (vm:Value) (k:Nat):Prop:=k=g∨k=bo∨vm.ownBlock=some k
structure Wr (enc:Int) (L:List Int) (g bo:Nat) (w:World) (lv vo vm:Value) (os ms:List PG):Prop where
 blk:w.heap[g]?=some (.cells #[.int .i64 enc,lv,vo,vm] 151 (0,0))
 ld:LdR w lv L
 old:OldR w bo vo (xsOf os)
 made:OwnR w 0 111 vm (xsOf ms)
 po:Pcs enc L w os
 pm:Pcs enc L w ms
 bl:bo < w.heap.size
 nb:vm.ownBlock≠some bo
 nu:¬ Typ 5 w bo
section
variable {enc:Int} {L:List Int} {g bo:Nat} {w:World} {lv vo vm:Value} {os ms:List PG}
end
end Go.Proofs.YtgfdfajblidleaaGreat.P
