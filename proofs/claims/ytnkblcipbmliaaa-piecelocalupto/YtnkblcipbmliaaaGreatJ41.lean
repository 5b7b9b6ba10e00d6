import Derived.Test.YtnkblcipbmliaaaGreatJ00
import Derived.Test.YtnkblcipbmliaaaGreatJ40
import Derived.Test.YtnkblcipbmliaaaGreatJ37
import Derived.JoinedCond
namespace Go.Proofs.YtnkblcipbmliaaaGreat
open Go.ChangeShapes Go.WideShapes Go.ChangeAt Go.RowKit
theorem bulk_one {H:Type} (d:DataW H):1≤Rows.uptoBulk d:=by
 cases d with
 | lit l=>cases l <;> simp [Rows.uptoBulk]
 | nil=>simp [Rows.uptoBulk]
 | ptr d=>simp [Rows.uptoBulk]
 | slice elems spare=>simp [Rows.uptoBulk]
 | agg parts=>simp [Rows.uptoBulk]
 | iface t d=>simp [Rows.uptoBulk]
 | map entries=>simp [Rows.uptoBulk]
 | held h=>simp [Rows.uptoBulk]
theorem bulk_part {H:Type} {d:DataW H} {l:List (DataW H)} (h:d ∈ l):Rows.uptoBulk d≤Rows.uptoBulkAll l:=by
 induction l with
 | nil=>cases h
 | cons x r ih =>
   simp only [Rows.uptoBulkAll]
   cases List.mem_cons.1 h with
   | inl e=>subst e;omega
   | inr e=>have:=ih e;omega
theorem bulk_length {H:Type} (l:List (DataW H)):l.length≤Rows.uptoBulkAll l:=by
 induction l with
 | nil=>simp
 | cons x r ih=>have:=bulk_one x;simp only [Rows.uptoBulkAll,List.length_cons];omega
theorem bulk_bound {H:Type} {l:List (DataW H)} (hk:Rows.uptoSmall H l=true):Rows.uptoBulkAll l≤1048576:=of_decide_eq_true hk
end Go.Proofs.YtnkblcipbmliaaaGreat

namespace Go.Proofs.YtnkblcipbmliaaaGreat
open Go.ChangeShapes Go.WideShapes Go.ChangeAt Go.RowKit
theorem cSl:Tryz.prog.cellsOf 22=1:=by kernel_rfl
theorem cEs:Tryz.prog.cellsOf 31=1:=by kernel_rfl
theorem cIn:Tryz.prog.cellsOf 3=1:=by kernel_rfl
theorem cEd:Tryz.prog.cellsOf 30=3:=by kernel_rfl
theorem bulk_in {H:Type} {el sp:List (DataW H)} {d:DataW H} (h:d ∈ el):Rows.uptoBulk d≤Rows.uptoBulk (DataW.slice el sp):=by
 have:=bulk_part h
 simp only [Rows.uptoBulk]
 omega
theorem bulk_agg {H:Type} {parts:List (DataW H)} {d:DataW H} (h:d ∈ parts):Rows.uptoBulk d≤Rows.uptoBulk (DataW.agg parts):=by
 have:=bulk_part h
 simp only [Rows.uptoBulk]
 omega
theorem bulk_len {H:Type} {el sp:List (DataW H)} (h:Rows.uptoBulk (DataW.slice el sp)≤1048576):el.length≤1048576:=by
 have:=bulk_length el
 simp only [Rows.uptoBulk] at h
 omega
theorem inner_boundB {H:Type} {zs:List Int} {d:DataW H} (hd:zs=[]∨∃ el sp,d=DataW.slice el sp∧el.length=zs.length) (hw:Rows.uptoBulk d≤1048576):zs.length≤1048576:=by
 rcases hd with rfl | ⟨el,sp,rfl,hel⟩
 ·simp
 ·have:=bulk_len hw
  omega
theorem inner_of {H:Type} {enc:TypeId × Value→H} {W:World} {fuel:Nat} {c:Value} {d:DataW H} {p:List MemPlace}
  (h:DataW.trod enc Tryz.prog W 0 (fun _=>true) true fuel 22 [c]=some (d,p)) :
  ∃ ao cap zs,c=.slice ao zs.length cap∧Rd .i64 W (.slice ao zs.length cap) zs∧(zs=[]∨∃ el sp,d=.slice el sp∧el.length=zs.length):=by
 have hs:∃ ao len cap,c=.slice ao len cap:=by
  rcases DataW.trod_slice Tryz.underlying22 h with ⟨hcs,_⟩ | ⟨x,l,k,elems,rest,n,_,hcs,_⟩
  ·exact ⟨none,0,0,by simpa using hcs⟩
  ·exact ⟨some x,l,k,by simpa using hcs⟩
 obtain ⟨ao,len,cap,rfl⟩:=hs
 obtain ⟨zs,hr,_,hd⟩:=rd_of (enc:=enc) (d:=d) (p:=p) Tryz.underlying22 Tryz.underlying3 (by kernel_rfl) ⟨fuel,by simpa [Value.cells] using h⟩
 obtain ⟨ao',cap',hv,r1,r2,r3⟩:=id hr
 simp only [Value.slice.injEq] at hv
 obtain ⟨rfl,rfl,rfl⟩:=hv
 exact ⟨ao,cap,zs,rfl,hr,hd⟩
structure EdAt (w:World) (f:Nat→Option Value) (e:P.Ed):Prop where
 c0:f 0=some (.int .i64 e.1)
 c1:f 1=some (.int .i64 e.2.1)
 c2:∃ pv,f 2=some pv∧Rd .i64 w pv e.2.2
 hz:e.2.2.length * 8≤140737488351232
theorem nil_of {H:Type} {enc:TypeId × Value→H} {W:World} {t e:TypeId} {len0 cap0:Nat} {d:DataW H} {p:List MemPlace} (ht:Tryz.prog.underlying t=some (.slice e))
  (h:DataW.Trod enc Tryz.prog W 0 (fun _=>true) true t (.slice none len0 cap0) d p):len0=0∧cap0=0:=by
 obtain ⟨fuel,hf⟩:=h
 rcases DataW.trod_slice ht hf with ⟨hcs,_⟩ | ⟨x,l,c,elems,rest,n,_,hcs,_⟩
 ·simp [Value.cells] at hcs
  exact hcs
 ·simp [Value.cells] at hcs
end Go.Proofs.YtnkblcipbmliaaaGreat

namespace Go.Proofs.YtnkblcipbmliaaaGreat
open Go.ChangeShapes Go.WideShapes Go.ChangeAt Go.RowKit
theorem puts_bulk {H:Type}:∀ (el:List (DataW H)) (f:Nat→P.Ed),(∀ (i:Nat) (hi:i < el.length),(f i).2.2.length≤Rows.uptoBulk el[i])→(P.puts ((List.range el.length).map f)).length≤Rows.uptoBulkAll el:=by
 intro el
 induction el with
 | nil=>intro f _;simp [P.puts]
 | cons x el ih =>
   intro f h
   have h0:=h 0 (by simp)
   have h1:=ih (fun i=>f (i + 1)) (fun i hi=>by have:=h (i + 1) (by simpa using hi);simpa using this)
   rw [List.length_cons,List.range_succ_eq_map,List.map_cons,List.map_map]
   have e:P.puts (f 0 :: (List.range el.length).map (f ∘ Nat.succ))=(f 0).2.2 ++ P.puts ((List.range el.length).map fun i=>f (i + 1)):=by simp [P.puts,Function.comp_def]
   rw [e,List.length_append]
   simp only [Rows.uptoBulkAll]
   simp only [List.getElem_cons_zero] at h0
   omega
set_option maxRecDepth 100000 in
theorem ed_cellsP {H:Type} {enc:TypeId × Value→H} {w:World} {fuel:Nat} {cs:List Value} {d:DataW H} {p:List MemPlace}
  (h:DataW.trod enc Tryz.prog w 0 (fun _=>true) true fuel 30 cs=some (d,p)) (hw:Rows.uptoBulk d≤1048576) :
  ∃ e:P.Ed,EdAt w (fun i=>cs[i]?) e∧e.2.2.length≤Rows.uptoBulk d:=by
 obtain ⟨xs,n,rfl,hx,hl,hxl,hall⟩:=DataW.trod_struct Tryz.underlying30 h
 match xs,hxl with
 | [x0,x1,x2],_ =>
   obtain ⟨k0,e0,r0,w0⟩:=DataW.trod_int Tryz.underlying3 (hall 0 _ rfl)
   obtain ⟨k1,e1,r1,w1⟩:=DataW.trod_int Tryz.underlying3 (hall 1 _ rfl)
   have h2:=hall 2 _ rfl
   have e0':(cs.drop 0).take (Tryz.prog.cellsOf 3)=[.int .i64 k0]:=e0
   have e1':(cs.drop 1).take (Tryz.prog.cellsOf 3)=[.int .i64 k1]:=e1
   have h2':DataW.trod enc Tryz.prog w 0 (fun _=>true) true n 22 ((cs.drop 2).take (Tryz.prog.cellsOf 22))=some x2:=h2
   rw [cEd] at hl
   rw [cIn] at e0' e1'
   rw [cSl] at h2'
   match cs,hl with
   | [c0,c1,c2],_ =>
     simp at e0' e1'
     subst e0';subst e1'
     simp only [List.drop_succ_cons,List.drop_zero,List.take_succ_cons,List.take_zero] at h2'
     obtain ⟨ai,ci,zs,rfl,hr,hd⟩:=inner_of (d:=x2.1) (p:=x2.2) h2'
     refine ⟨(k0,k1,zs),⟨rfl,rfl,⟨_,rfl,hr⟩,?_⟩,?_⟩
     rotate_left 1
     ·obtain ⟨rfl,_⟩:=Prod.mk.inj hx
      refine Nat.le_trans ?_ (bulk_agg (d:=x2.1) (by simp))
      rcases hd with rfl | ⟨el,sp,he,hel⟩
      ·exact Nat.zero_le _
      ·rw [he]
       have:=bulk_length el
       simp only [Rows.uptoBulk]
       show zs.length≤_
       omega
     obtain ⟨rfl,_⟩:=Prod.mk.inj hx
     have h1:Rows.uptoBulk x2.1≤1048576:=Nat.le_trans (bulk_agg (d:=x2.1) (by simp)) hw
     have:=inner_boundB hd h1
     show zs.length * 8≤_
     omega
set_option maxRecDepth 100000 in
theorem eds_ofP {H:Type} {enc:TypeId × Value→H} {W:World} {a0:Option Addr} {len0 cap0:Nat} {d:DataW H} {p:List MemPlace}
  (h:DataW.Trod enc Tryz.prog W 0 (fun _=>true) true 31 (.slice a0 len0 cap0) d p) (hw:Rows.uptoBulk d≤1048576) :
  ∃ es,es.length=len0∧P.EdR W (.slice a0 len0 cap0) es∧P.Bnd es∧(P.puts es).length≤Rows.uptoBulk d:=by
 obtain ⟨fuel,hf⟩:=h
 rcases DataW.trod_slice Tryz.underlying31 hf with ⟨hcs,_⟩ | ⟨x,l,c,elems,rest,n,_,hcs,hx,hb,hl,hm,hlen,hel,_,_⟩
 ·simp [Value.cells] at hcs
  obtain ⟨rfl,rfl,rfl⟩:=hcs
  exact ⟨[],rfl,⟨none,0,rfl,Nat.le_refl _,by omega,fun h=>absurd rfl h⟩,⟨(fun e he=>by cases he),by simp⟩,by simp [P.puts]⟩
 ·simp [Value.cells] at hcs
  obtain ⟨rfl,rfl,rfl⟩:=hcs
  rw [cEd] at hel
  obtain ⟨rfl,_⟩:=Prod.mk.inj hx
  obtain ⟨b,off,spot⟩:=x
  have each:∀ i,∃ e:P.Ed,i < len0→(EdAt W (fun j=>W.cell? (((⟨b,off,spot⟩:Addr).add (i * 3)).add j)) e∧∀ hi:i < elems.length,e.2.2.length≤Rows.uptoBulk elems[i].1):=by
   intro i
   by_cases hi:i < len0
   ·have hi':i < elems.length:=by omega
    have:=hel i hi
    rw [List.getElem?_eq_getElem hi',Option.bind_eq_some_iff] at this
    obtain ⟨cs,hcs,hy⟩:=this
    obtain ⟨e,he,hle⟩:=ed_cellsP (d:=elems[i].1) (p:=elems[i].2) hy (Nat.le_trans (bulk_in (List.mem_map.2 ⟨elems[i],List.getElem_mem hi',rfl⟩)) hw)
    have hcell:=(World.cells?_some hcs).2.2
    refine ⟨e,fun _=>⟨⟨(hcell 0 (by omega)).trans he.c0,(hcell 1 (by omega)).trans he.c1,?_,he.hz⟩,fun _=>hle⟩⟩
    obtain ⟨pv,h1,h2⟩:=he.c2
    exact ⟨pv,(hcell 2 (by omega)).trans h1,h2⟩
   ·exact ⟨(0,0,[]),fun h=>absurd h hi⟩
  obtain ⟨f,hff⟩:=Classical.skolem.1 each
  have hf':∀ i,i < len0→EdAt W (fun j=>W.cell? (((⟨b,off,spot⟩:Addr).add (i * 3)).add j)) (f i):=fun i hi=>(hff i hi).1
  have hlen':elems.length=len0:=by omega
  have hlr:((List.range len0).map f).length=len0:=by simp
  refine ⟨(List.range len0).map f,hlr,⟨some ⟨b,off,spot⟩,cap0,by rw [hlr],by rw [hlr];exact hl,by unfold maxLen at hm;exact hm,fun hn=>?_⟩,⟨fun e he=>?_,?_⟩,?_⟩
  ·have hpos:0 < len0:=by rw [← hlr];exact List.length_pos_iff.2 hn
   have hs:spot=none:=by simpa [Addr.add] using World.cell?_spot (hf' 0 hpos).c0
   subst hs
   refine ⟨b,off,rfl,World.block_lt_of_cell? W _ (by simpa [Addr.add] using (hf' 0 hpos).c0),fun i e hie=>?_⟩
   have hi:i < len0:=by have:=(List.getElem?_eq_some_iff.1 hie).1;rwa [hlr] at this
   have e1:e=f i:=by rw [List.getElem?_map,List.getElem?_range hi] at hie;simpa using hie.symm
   subst e1
   have:=hf' i hi
   simp only [Addr.add_lit] at this
   exact ⟨this.c0,this.c1,this.c2⟩
  ·rw [List.mem_map] at he
   obtain ⟨i,hi,rfl⟩:=he
   exact (hf' i (List.mem_range.1 hi)).hz
  ·have:=bulk_len hw
   rw [List.length_map] at this
   rw [hlr]
   omega
  ·have:=puts_bulk (elems.map Prod.fst) f (fun i hi=>by
    have hi':i < elems.length:=by simpa using hi
    have:=(hff i (by omega)).2 hi'
    simpa using this)
   rw [List.length_map,hlen'] at this
   refine Nat.le_trans this ?_
   have e:(fun (q:DataW H × List MemPlace)=>q.1)=Prod.fst:=rfl
   simp only [Rows.uptoBulk,e]
   omega
set_option maxRecDepth 100000 in
theorem edl_ofP {H:Type} {enc:TypeId × Value→H} {W:World} {a0:Option Addr} {len0 cap0:Nat} {d:DataW H} {p:List MemPlace}
  (h:DataW.Trod enc Tryz.prog W 0 (fun _=>true) true 53 (.slice a0 len0 cap0) d p) (hw:Rows.uptoBulk d≤1048576) :
  ∃ ess,P.EdL W (.slice a0 len0 cap0) ess∧∀ es ∈ ess,(P.puts es).length≤1048576:=by
 obtain ⟨fuel,hf⟩:=h
 rcases DataW.trod_slice Tryz.underlying53 hf with ⟨hcs,_⟩ | ⟨x,l,c,elems,rest,n,_,hcs,hx,hb,hl,hm,hlen,hel,_,_⟩
 ·simp [Value.cells] at hcs
  obtain ⟨rfl,rfl,rfl⟩:=hcs
  exact ⟨[],⟨none,0,rfl,Nat.le_refl _,by omega,fun i es h=>by simp at h⟩,fun es h=>by cases h⟩
 ·simp [Value.cells] at hcs
  obtain ⟨rfl,rfl,rfl⟩:=hcs
  rw [cEs] at hel
  obtain ⟨rfl,_⟩:=Prod.mk.inj hx
  obtain ⟨b,off,spot⟩:=x
  have each:∀ i,∃ es:List P.Ed,i < len0→∃ ea ec,W.cell? ((⟨b,off,spot⟩:Addr).add (i * 1))=some (.slice ea es.length ec)∧P.EdR W (.slice ea es.length ec) es∧P.Bnd es∧(P.puts es).length≤1048576:=by
   intro i
   by_cases hi:i < len0
   ·have hi':i < elems.length:=by omega
    have:=hel i hi
    rw [List.getElem?_eq_getElem hi',Option.bind_eq_some_iff] at this
    obtain ⟨cs,hcs,hy⟩:=this
    have hcl:=(World.cells?_some hcs).2.1
    have hcell:=(World.cells?_some hcs).2.2 0 (by omega)
    match cs,hcl with
    | [c],_ =>
      have hs:∃ ao len cap,c=.slice ao len cap:=by
       rcases DataW.trod_slice Tryz.underlying31 hy with ⟨hcs,_⟩ | ⟨x,l,k,_,_,_,_,hcs,_⟩
       ·exact ⟨none,0,0,by simpa using hcs⟩
       ·exact ⟨some x,l,k,by simpa using hcs⟩
      obtain ⟨ao,len,cap,rfl⟩:=hs
      have hwi:Rows.uptoBulk elems[i].1≤1048576:=Nat.le_trans (bulk_in (List.mem_map.2 ⟨elems[i],List.getElem_mem hi',rfl⟩)) hw
      obtain ⟨es,h1,h2,h3,h4⟩:=eds_ofP (enc:=enc) (d:=elems[i].1) (p:=elems[i].2) ⟨_,by simpa [Value.cells] using hy⟩ hwi
      subst h1
      exact ⟨es,fun _=>⟨ao,cap,by simpa [Addr.add] using hcell,h2,h3,Nat.le_trans h4 hwi⟩⟩
   ·exact ⟨[],fun h=>absurd h hi⟩
  obtain ⟨f,hf'⟩:=Classical.skolem.1 each
  have hlr:((List.range len0).map f).length=len0:=by simp
  refine ⟨(List.range len0).map f,⟨some ⟨b,off,spot⟩,cap0,by rw [hlr],by rw [hlr];exact hl,by unfold maxLen at hm;exact hm,fun i es hie=>?_⟩,fun es he=>?_⟩
  rotate_left 1
  ·obtain ⟨i,hi,rfl⟩:=List.mem_map.1 he
   obtain ⟨_,_,_,_,_,h5⟩:=hf' i (List.mem_range.1 hi)
   exact h5
  have hi:i < len0:=by have:=(List.getElem?_eq_some_iff.1 hie).1;rwa [hlr] at this
  have e1:es=f i:=by rw [List.getElem?_map,List.getElem?_range hi] at hie;simpa using hie.symm
  subst e1
  obtain ⟨ea,ec,h1,h2,h3,_⟩:=hf' i hi
  obtain ⟨_,_,h0,_⟩:=hf' 0 (by omega)
  have hs:spot=none:=by simpa [Addr.add] using World.cell?_spot h0
  subst hs
  rw [Addr.add_lit,Nat.mul_one] at h1
  exact ⟨b,off,ea,ec,rfl,World.block_lt_of_cell? W _ h1,h1,h2,h3⟩
end Go.Proofs.YtnkblcipbmliaaaGreat

namespace Go.Proofs.YtnkblcipbmliaaaGreat
open Go.ChangeShapes Go.WideShapes Go.ChangeAt Go.RowKit
set_option maxRecDepth 100000 in
theorem pieceLocal_contract (H:Type) (enc:TypeId × Value→H) (W:World) (base:Nat) (args:Array Value) (ds gs:List (DataW H)) (before:List MemPlace)
  (hval:∀ (j:Nat) t v,Tryz.f6.params[j]?=some t→args[j]?=some v→Value.okWide Tryz.prog W .any base t v)
  (hW:DataW.Whole enc Tryz.prog Tryz.f6.params.toList Rows.pieceLocalSpec.vars false W args.toList ds gs before) (hk:Rows.uptoSmall H (ds ++ gs)=true) :
  Calls Tryz.prog 6 args W fun e W'=>∃ v,e=.returned v∧Rows.pieceLocalSpec.post enc Tryz.prog Tryz.f6 false true false false W args v W':=by
 have hW':=hW
 obtain ⟨p,q,hA0,hV,rfl,hfz,hnd⟩:=hW
 have hA:DataW.TrodAll enc Tryz.prog W 0 (fun _=>true) true Tryz.f6.params.toList args.toList ds p:=hA0
 rw [Tryz.params6] at hA hval
 obtain ⟨v0,vs0,d0,ds0,p0,q0,hargs,rfl,rfl,h0,r0⟩:=trodAll_cons hA
 obtain ⟨v1,vs1,d1,ds1,p1,q1,rfl,rfl,rfl,h1,r1⟩:=trodAll_cons r0
 obtain ⟨v2,vs2,d2,ds2,p2,q2,rfl,rfl,rfl,h2,r2⟩:=trodAll_cons r1
 obtain ⟨v3,vs3,d3,ds3,p3,q3,rfl,rfl,rfl,h3,r3⟩:=trodAll_cons r2
 obtain ⟨rfl,rfl,rfl⟩:=trodAll_nil r3
 obtain rfl:args=#[v0,v1,v2,v3]:=by cases args;simp_all
 obtain ⟨rfl,rfl⟩:=trodVars_none hV
 obtain ⟨a0,rfl,rfl,rfl,w0⟩:=open_int Tryz.underlying3 (hval 0 3 v0 rfl rfl) h0
 obtain ⟨a1,len1,cap1,rfl⟩:=okWide_slice Tryz.underlying32 (hval 1 32 v1 rfl rfl)
 have k1:=h1
 have lt1:∀ x ∈ p1,x.block < W.heap.size:=by obtain ⟨m,hm⟩:=k1;exact DataW.trod_lt m _ _ _ hm
 obtain ⟨z1,hr1,hw1,hd1⟩:=rd_of Tryz.underlying32 Tryz.underlying5 (by kernel_rfl) h1
 have hnv:∀ c,(.slice a1 len1 cap1:Value)=.slice none z1.length c→c=0∧z1=[]:=fun c e=>by
  simp only [Value.slice.injEq] at e
  obtain ⟨rfl,e2,rfl⟩:=e
  have:=nil_of Tryz.underlying32 k1
  exact ⟨this.2,List.eq_nil_of_length_eq_zero (by omega)⟩
 obtain ⟨a2,rfl,rfl,rfl,w2⟩:=open_int Tryz.underlying3 (hval 2 3 v2 rfl rfl) h2
 obtain ⟨a3,len3,cap3,rfl⟩:=okWide_slice Tryz.underlying53 (hval 3 53 v3 rfl rfl)
 have k3:=h3
 have lt3:∀ x ∈ p3,x.block < W.heap.size:=by obtain ⟨m,hm⟩:=k3;exact DataW.trod_lt m _ _ _ hm
 obtain ⟨ess,hr3,hpu⟩:=edl_ofP h3 (Nat.le_trans (bulk_part (by simp)) (bulk_bound hk))
 clear hA0
 refine (P.localLaw_any a0 a2 _ _ z1 ess W hr1 (byt_of hw1) hnv hr3 hpu).mono fun e W' ⟨he,bel⟩=>?_
 subst he
 exact ⟨_,rfl,_,_,_,[],_,[],hW',trodAll_mk1 (shut_bool Tryz.underlying4 _),(trodAll_cons_mk (shut_int Tryz.underlying3 w0) (trodAll_cons_mk (Below.trod laidOutK (by kernel_rfl) (of_decide_eq_true (by kernel_rfl)) k1 bel lt1) (trodAll_cons_mk (shut_int Tryz.underlying3 w2) (trodAll_cons_mk (Below.trod laidOutK (by kernel_rfl) (of_decide_eq_true (by kernel_rfl)) k3 bel lt3) trodAll_mk0)))),rfl,bel.frame _,fun h=>by cases h⟩
set_option maxRecDepth 100000 in
theorem pieceLocal_lifted (os:Os) (started:os.Started) (H:Type) (enc:TypeId × Value→H) (F0:Stop.Interp) :
  ReturnsInHanded {} Tryz.checked os 6 .any ((Rows.OpenSpec.upto Rows.pieceLocalSpec).pre6 enc Tryz.prog Tryz.f6 Rows.pieceLocalUptoRow.domain false) (((Rows.OpenSpec.upto Rows.pieceLocalSpec).at F0).post enc Tryz.prog Tryz.f6 false true false false):=by
 refine returnsInHanded_of_cond (C:=Tryz.checked) (s:=Rows.OpenSpec.upto Rows.pieceLocalSpec) (k:=Rows.uptoSmall) rfl ownK started (by kernel_rfl) Tryz.func6
  (OpenSpec.witness (enc:=enc) (C:=Tryz.checked) (s:=Rows.OpenSpec.upto Rows.pieceLocalSpec) (k:=Rows.uptoSmall) rfl false ⟨#[],#[.int .i64 0,.slice none 0 0,.int .i64 0,.slice none 0 0],[]⟩ 8 (by kernel_rfl) (by kernel_rfl) (by kernel_rfl)
   (x:=([.lit (.int .i64 0),.nil,.lit (.int .i64 0),.nil],[],[])) (by kernel_rfl) rfl (by kernel_rfl)) ?_
 intro W base args ds gs before hval hW _ hk _
 exact pieceLocal_contract H enc W base args ds gs before hval hW hk
theorem pieceLocal_upto:Rows.PieceLocalUptoSaid :=
 OpenClaim.holds_of_cond 6 Tryz.f6 rfl rfl rfl rfl rfl rfl rfl ⟨rfl,rfl,rfl,rfl,rfl⟩ rfl rfl rfl rfl rfl (by kernel_rfl) Tryz.func6 (by kernel_rfl)
  (of_decide_eq_true (by kernel_rfl)) (by unfold Func.isWrapper;first | (rw [if_pos (by decide +kernel)];kernel_rfl) | (rw [if_neg (by decide +kernel)];exact ⟨rfl,rfl⟩))
  (fun os started H enc _ F0=>pieceLocal_lifted os started H enc F0)
end Go.Proofs.YtnkblcipbmliaaaGreat
