import Derived.Test.YtdhciadajendnaaGreatK10
import Derived.ProofKit
import Derived.OpenShut
import Derived.ChangeOld
import Derived.SizedLaws
import Derived.Below
set_option maxRecDepth 100000
namespace Go.Proofs.YtdhciadajendnaaGreat
open Go.ChangeShapes Go.WideShapes Go.ChangeAt Go.RowKit
theorem ownK:ownKnob Tryz.prog.godebug=none:=by kernel_rfl
theorem laidOutK:laidOutB Tryz.prog=true:=by kernel_rfl
theorem bytesK_u8:Tryz.prog.bytesOf 5=1:=by kernel_rfl
theorem rd_of {H:Type} {enc:TypeId × Value→H} {W:World} {t e:TypeId} {k:IntKind} {a0:Option Addr} {len0 cap0:Nat} {d:DataW H} {p:List MemPlace}
  (ht:Tryz.prog.underlying t=some (.slice e)) (he:Tryz.prog.underlying e=some (.int k)) (hc:Tryz.prog.cellsOf e=1)
  (h:DataW.Trod enc Tryz.prog W 0 (fun _=>true) true t (.slice a0 len0 cap0) d p) :
  ∃ zs,Rd k W (.slice a0 len0 cap0) zs∧(∀ n ∈ zs,(Lit.int k n).wf=true)∧(zs=[]∨∃ el sp,d=.slice el sp∧el.length=zs.length):=by
 obtain ⟨fuel,hf⟩:=h
 rcases open_ints ht he hc hf with ⟨hcs,_⟩ | ⟨x,l,c,zs,hcs,_,hl,hm,hz,hx,hcell,hwz⟩
 ·simp [Value.cells] at hcs
  obtain ⟨rfl,rfl,rfl⟩:=hcs
  exact ⟨[],⟨none,0,rfl,Nat.le_refl _,by simp [maxLen],fun h=>absurd rfl h⟩,by simp,.inl rfl⟩
 ·simp [Value.cells] at hcs
  obtain ⟨rfl,rfl,rfl⟩:=hcs
  simp at hz
  have hlen:(zs.take len0).length=len0:=by rw [List.length_take];omega
  refine ⟨zs.take len0,⟨some x,cap0,by rw [hlen],by omega,hm,fun hn=>?_⟩,fun n hn=>hwz n (List.mem_of_mem_take hn),.inr ⟨_,_,(Prod.mk.inj hx).1,by simp [lits]⟩⟩
  have hpos:0 < len0:=by
   rcases Nat.eq_zero_or_pos len0 with h | h
   ·subst h;simp at hn
   ·exact h
  obtain ⟨b,off,spot⟩:=x
  have hc0:=hcell 0 (by omega)
  have hspot:spot=none:=by simpa [Addr.add] using World.cell?_spot hc0
  subst hspot
  refine ⟨b,off,rfl,World.block_lt_of_cell? W _ (by simpa [Addr.add] using hc0),fun i hi=>?_⟩
  rw [hlen] at hi
  have:=hcell i (by omega)
  rw [Addr.add_lit] at this
  rw [this,List.getElem?_take,if_pos hi]
  simp [List.getD]
theorem byt_of {zs:List Int} (h:∀ n ∈ zs,(Lit.int .u8 n).wf=true):Byt zs:=by
 intro z hz
 have:=bounds_u8 (h z hz)
 omega
end Go.Proofs.YtdhciadajendnaaGreat
