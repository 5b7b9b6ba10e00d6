import Derived.Test.YtdkpkncolpapoaaGreatJ00
import Derived.Test.YtdkpkncolpapoaaGreatJ26
import Derived.Test.YtdkpkncolpapoaaGreatJ31
namespace Go.Proofs.YtdkpkncolpapoaaGreat
open Go.ChangeShapes Go.WideShapes Go.ChangeAt Go.RowKit
theorem cSl:Tryz.prog.cellsOf 22=1:=by kernel_rfl
theorem cEs:Tryz.prog.cellsOf 31=1:=by kernel_rfl
theorem cIn:Tryz.prog.cellsOf 3=1:=by kernel_rfl
theorem cEd:Tryz.prog.cellsOf 30=3:=by kernel_rfl
theorem bytesK_ed:Tryz.prog.bytesOf 30=40:=by kernel_rfl
theorem weights_elem {H:Type} {P:Program} {e:TypeId}:∀ {l:List (DataW H)} {d:DataW H},d ∈ l→∀ n ∈ d.weights P e,n ∈ DataW.weightsAll P e l
 | x :: l,d,h,n,hn=>by
   simp only [DataW.weightsAll,List.mem_append]
   rcases List.mem_cons.1 h with rfl | h
   ·exact Or.inl hn
   ·exact Or.inr (weights_elem h n hn)
theorem weights_slice {H:Type} {P:Program} {t e:TypeId} {el sp:List (DataW H)} {d:DataW H} (hu:P.underlying t=some (.slice e)) (h:d ∈ el):∀ n ∈ d.weights P e,n ∈ (DataW.slice el sp).weights P t:=by
 intro n hn
 simp only [DataW.weights,hu,List.mem_cons,List.mem_append]
 exact Or.inr (Or.inl (weights_elem h n hn))
theorem weights_part {H:Type} {P:Program} {t:TypeId} {fs:Array Field} {parts:List (DataW H)} {d:DataW H} (hu:P.underlying t=some (.struct fs)) {j:Nat} {f:Field} (hf:fs[j]?=some f) (hd:parts[j]?=some d):∀ n ∈ d.weights P f.type,n ∈ (DataW.agg parts).weights P t:=by
 intro n hn
 simp only [DataW.weights,hu]
 exact DataW.weights_mem_each (j:=j) (by simp [hf]) hd n hn
theorem inner_of {H:Type} {enc:TypeId × Value→H} {W:World} {fuel:Nat} {c:Value} {d:DataW H} {p:List MemPlace}
  (h:DataW.trod enc Tryz.prog W 0 (fun _=>true) true fuel 22 [c]=some (d,p)) :
  ∃ ao cap zs,c=.slice ao zs.length cap∧Rd .i64 W (.slice ao zs.length cap) zs∧(zs=[]∨∃ el sp,d=.slice el sp∧el.length=zs.length):=by
 have hs:∃ ao len cap,c=.slice ao len cap:=by
  rcases DataW.trod_slice Tryz.underlying22 h with ⟨hcs,_⟩ | ⟨x,l,k,elems,rest,n,_,hcs,_⟩
  ·exact ⟨none,0,0,by simpa using hcs⟩
  ·exact ⟨some x,l,k,by simpa using hcs⟩
 obtain ⟨ao,len,cap,rfl⟩:=hs
 obtain ⟨zs,hr,_,hd⟩:=rd_of (enc:=enc) (d:=d) (p:=p) Tryz.underlying22 Tryz.underlying3 (by kernel_rfl) ⟨fuel,by simpa [Value.cells] using h⟩
 obtain ⟨ao',cap',hv,r1,r2,r3⟩:=id hr
 simp only [Value.slice.injEq] at hv
 obtain ⟨rfl,rfl,rfl⟩:=hv
 exact ⟨ao,cap,zs,rfl,hr,hd⟩
theorem inner_bound {H:Type} {zs:List Int} {d:DataW H} (hd:zs=[]∨∃ el sp,d=DataW.slice el sp∧el.length=zs.length) (hw:∀ n ∈ d.weights Tryz.prog 22,n≤reachBytes):zs.length * 8≤140737488351232:=by
 rcases hd with rfl | ⟨el,sp,rfl,hel⟩
 ·simp
 ·have:=hw ((el.length + sp.length) * Tryz.prog.bytesOf 3) (by simp [DataW.weights,Tryz.underlying22])
  rw [bytesK_i64] at this
  simp only [reachBytes] at this
  omega
structure EdAt (w:World) (f:Nat→Option Value) (e:P.Ed):Prop where
 c0:f 0=some (.int .i64 e.1)
 c1:f 1=some (.int .i64 e.2.1)
 c2:∃ pv,f 2=some pv∧Rd .i64 w pv e.2.2
 hz:e.2.2.length * 8≤140737488351232
set_option maxRecDepth 100000 in
theorem ed_cells {H:Type} {enc:TypeId × Value→H} {w:World} {fuel:Nat} {cs:List Value} {d:DataW H} {p:List MemPlace}
  (h:DataW.trod enc Tryz.prog w 0 (fun _=>true) true fuel 30 cs=some (d,p)) (hw:∀ n ∈ d.weights Tryz.prog 30,n≤reachBytes) :
  ∃ e:P.Ed,EdAt w (fun i=>cs[i]?) e:=by
 obtain ⟨xs,n,rfl,hx,hl,hxl,hall⟩:=DataW.trod_struct Tryz.underlying30 h
 match xs,hxl with
 | [x0,x1,x2],_ =>
   obtain ⟨k0,e0,r0,w0⟩:=DataW.trod_int Tryz.underlying3 (hall 0 _ rfl)
   obtain ⟨k1,e1,r1,w1⟩:=DataW.trod_int Tryz.underlying3 (hall 1 _ rfl)
   have h2:=hall 2 _ rfl
   have e0':(cs.drop 0).take (Tryz.prog.cellsOf 3)=[.int .i64 k0]:=e0
   have e1':(cs.drop 1).take (Tryz.prog.cellsOf 3)=[.int .i64 k1]:=e1
   have h2':DataW.trod enc Tryz.prog w 0 (fun _=>true) true n 22 ((cs.drop 2).take (Tryz.prog.cellsOf 22))=some x2:=h2
   rw [cEd] at hl
   rw [cIn] at e0' e1'
   rw [cSl] at h2'
   match cs,hl with
   | [c0,c1,c2],_ =>
     simp at e0' e1'
     subst e0';subst e1'
     simp only [List.drop_succ_cons,List.drop_zero,List.take_succ_cons,List.take_zero] at h2'
     obtain ⟨ai,ci,zs,rfl,hr,hd⟩:=inner_of (d:=x2.1) (p:=x2.2) h2'
     refine ⟨(k0,k1,zs),rfl,rfl,⟨_,rfl,hr⟩,inner_bound hd ?_⟩
     intro m hm
     refine hw m ?_
     obtain ⟨rfl,_⟩:=Prod.mk.inj hx
     exact weights_part (t:=30) (j:=2) Tryz.underlying30 rfl (d:=x2.1) rfl m hm
set_option maxRecDepth 100000 in
theorem eds_of {H:Type} {enc:TypeId × Value→H} {W:World} {a0:Option Addr} {len0 cap0:Nat} {d:DataW H} {p:List MemPlace}
  (h:DataW.Trod enc Tryz.prog W 0 (fun _=>true) true 31 (.slice a0 len0 cap0) d p) (hw:∀ n ∈ d.weights Tryz.prog 31,n≤reachBytes) :
  ∃ es,es.length=len0∧P.EdR W (.slice a0 len0 cap0) es∧P.Bnd es:=by
 obtain ⟨fuel,hf⟩:=h
 rcases DataW.trod_slice Tryz.underlying31 hf with ⟨hcs,_⟩ | ⟨x,l,c,elems,rest,n,_,hcs,hx,hb,hl,hm,hlen,hel,_,_⟩
 ·simp [Value.cells] at hcs
  obtain ⟨rfl,rfl,rfl⟩:=hcs
  exact ⟨[],rfl,⟨none,0,rfl,Nat.le_refl _,by omega,fun h=>absurd rfl h⟩,⟨(fun e he=>by cases he),by simp⟩⟩
 ·simp [Value.cells] at hcs
  obtain ⟨rfl,rfl,rfl⟩:=hcs
  rw [cEd] at hel
  obtain ⟨rfl,_⟩:=Prod.mk.inj hx
  obtain ⟨b,off,spot⟩:=x
  have each:∀ i,∃ e:P.Ed,i < len0→EdAt W (fun j=>W.cell? (((⟨b,off,spot⟩:Addr).add (i * 3)).add j)) e:=by
   intro i
   by_cases hi:i < len0
   ·have hi':i < elems.length:=by omega
    have:=hel i hi
    rw [List.getElem?_eq_getElem hi',Option.bind_eq_some_iff] at this
    obtain ⟨cs,hcs,hy⟩:=this
    obtain ⟨e,he⟩:=ed_cells (d:=elems[i].1) (p:=elems[i].2) hy (fun m hm=>hw m (weights_slice Tryz.underlying31 (List.mem_map.2 ⟨elems[i],List.getElem_mem hi',rfl⟩) m hm))
    have hcell:=(World.cells?_some hcs).2.2
    refine ⟨e,fun _=>⟨(hcell 0 (by omega)).trans he.c0,(hcell 1 (by omega)).trans he.c1,?_,he.hz⟩⟩
    obtain ⟨pv,h1,h2⟩:=he.c2
    exact ⟨pv,(hcell 2 (by omega)).trans h1,h2⟩
   ·exact ⟨(0,0,[]),fun h=>absurd h hi⟩
  obtain ⟨f,hf'⟩:=Classical.skolem.1 each
  have hlr:((List.range len0).map f).length=len0:=by simp
  refine ⟨(List.range len0).map f,hlr,⟨some ⟨b,off,spot⟩,cap0,by rw [hlr],by rw [hlr];exact hl,by unfold maxLen at hm;exact hm,fun hn=>?_⟩,⟨fun e he=>?_,?_⟩⟩
  ·have hpos:0 < len0:=by rw [← hlr];exact List.length_pos_iff.2 hn
   have hs:spot=none:=by simpa [Addr.add] using World.cell?_spot (hf' 0 hpos).c0
   subst hs
   refine ⟨b,off,rfl,World.block_lt_of_cell? W _ (by simpa [Addr.add] using (hf' 0 hpos).c0),fun i e hie=>?_⟩
   have hi:i < len0:=by have:=(List.getElem?_eq_some_iff.1 hie).1;rwa [hlr] at this
   have e1:e=f i:=by rw [List.getElem?_map,List.getElem?_range hi] at hie;simpa using hie.symm
   subst e1
   have:=hf' i hi
   simp only [Addr.add_lit] at this
   exact ⟨this.c0,this.c1,this.c2⟩
  ·rw [List.mem_map] at he
   obtain ⟨i,hi,rfl⟩:=he
   exact (hf' i (List.mem_range.1 hi)).hz
  ·have:=hw _ (by simp only [DataW.weights,Tryz.underlying31,List.mem_cons];exact Or.inl rfl)
   rw [bytesK_ed] at this
   simp only [reachBytes,List.length_map,List.length_range] at this ⊢
   omega
set_option maxRecDepth 100000 in
theorem edl_of {H:Type} {enc:TypeId × Value→H} {W:World} {a0:Option Addr} {len0 cap0:Nat} {d:DataW H} {p:List MemPlace}
  (h:DataW.Trod enc Tryz.prog W 0 (fun _=>true) true 53 (.slice a0 len0 cap0) d p) (hw:∀ n ∈ d.weights Tryz.prog 53,n≤reachBytes) :
  ∃ ess,P.EdL W (.slice a0 len0 cap0) ess:=by
 obtain ⟨fuel,hf⟩:=h
 rcases DataW.trod_slice Tryz.underlying53 hf with ⟨hcs,_⟩ | ⟨x,l,c,elems,rest,n,_,hcs,hx,hb,hl,hm,hlen,hel,_,_⟩
 ·simp [Value.cells] at hcs
  obtain ⟨rfl,rfl,rfl⟩:=hcs
  exact ⟨[],none,0,rfl,Nat.le_refl _,by omega,fun i es h=>by simp at h⟩
 ·simp [Value.cells] at hcs
  obtain ⟨rfl,rfl,rfl⟩:=hcs
  rw [cEs] at hel
  obtain ⟨rfl,_⟩:=Prod.mk.inj hx
  obtain ⟨b,off,spot⟩:=x
  have each:∀ i,∃ es:List P.Ed,i < len0→∃ ea ec,W.cell? ((⟨b,off,spot⟩:Addr).add (i * 1))=some (.slice ea es.length ec)∧P.EdR W (.slice ea es.length ec) es∧P.Bnd es:=by
   intro i
   by_cases hi:i < len0
   ·have hi':i < elems.length:=by omega
    have:=hel i hi
    rw [List.getElem?_eq_getElem hi',Option.bind_eq_some_iff] at this
    obtain ⟨cs,hcs,hy⟩:=this
    have hcl:=(World.cells?_some hcs).2.1
    have hcell:=(World.cells?_some hcs).2.2 0 (by omega)
    match cs,hcl with
    | [c],_ =>
      have hs:∃ ao len cap,c=.slice ao len cap:=by
       rcases DataW.trod_slice Tryz.underlying31 hy with ⟨hcs,_⟩ | ⟨x,l,k,_,_,_,_,hcs,_⟩
       ·exact ⟨none,0,0,by simpa using hcs⟩
       ·exact ⟨some x,l,k,by simpa using hcs⟩
      obtain ⟨ao,len,cap,rfl⟩:=hs
      obtain ⟨es,h1,h2,h3⟩:=eds_of (enc:=enc) (d:=elems[i].1) (p:=elems[i].2) ⟨_,by simpa [Value.cells] using hy⟩ (fun m hm=>hw m (weights_slice Tryz.underlying53 (List.mem_map.2 ⟨elems[i],List.getElem_mem hi',rfl⟩) m hm))
      subst h1
      exact ⟨es,fun _=>⟨ao,cap,by simpa [Addr.add] using hcell,h2,h3⟩⟩
   ·exact ⟨[],fun h=>absurd h hi⟩
  obtain ⟨f,hf'⟩:=Classical.skolem.1 each
  have hlr:((List.range len0).map f).length=len0:=by simp
  refine ⟨(List.range len0).map f,some ⟨b,off,spot⟩,cap0,by rw [hlr],by rw [hlr];exact hl,by unfold maxLen at hm;exact hm,fun i es hie=>?_⟩
  have hi:i < len0:=by have:=(List.getElem?_eq_some_iff.1 hie).1;rwa [hlr] at this
  have e1:es=f i:=by rw [List.getElem?_map,List.getElem?_range hi] at hie;simpa using hie.symm
  subst e1
  obtain ⟨ea,ec,h1,h2,h3⟩:=hf' i hi
  obtain ⟨_,_,h0,_⟩:=hf' 0 (by omega)
  have hs:spot=none:=by simpa [Addr.add] using World.cell?_spot h0
  subst hs
  rw [Addr.add_lit,Nat.mul_one] at h1
  exact ⟨b,off,ea,ec,rfl,World.block_lt_of_cell? W _ h1,h1,h2,h3⟩
theorem nil_of {H:Type} {enc:TypeId × Value→H} {W:World} {t e:TypeId} {len0 cap0:Nat} {d:DataW H} {p:List MemPlace} (ht:Tryz.prog.underlying t=some (.slice e))
  (h:DataW.Trod enc Tryz.prog W 0 (fun _=>true) true t (.slice none len0 cap0) d p):len0=0∧cap0=0:=by
 obtain ⟨fuel,hf⟩:=h
 rcases DataW.trod_slice ht hf with ⟨hcs,_⟩ | ⟨x,l,c,elems,rest,n,_,hcs,_⟩
 ·simp [Value.cells] at hcs
  exact hcs
 ·simp [Value.cells] at hcs
end Go.Proofs.YtdkpkncolpapoaaGreat
