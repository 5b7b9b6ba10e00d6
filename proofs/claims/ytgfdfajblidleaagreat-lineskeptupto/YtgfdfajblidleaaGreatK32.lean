import Derived.Test.YtgfdfajblidleaaGreatK31
set_option maxRecDepth 100000
namespace Go.Proofs.YtgfdfajblidleaaGreat
open Go.ChangeShapes Go.WideShapes Go.ChangeAt Go.RowKit
theorem bulk_in {H:Type} {el sp:List (DataW H)} {d:DataW H} (h:d ∈ el):Rows.uptoBulk d≤Rows.uptoBulk (DataW.slice el sp):=by
 have:=bulk_part h
 simp only [Rows.uptoBulk]
 omega
theorem bulk_agg {H:Type} {parts:List (DataW H)} {d:DataW H} (h:d ∈ parts):Rows.uptoBulk d≤Rows.uptoBulk (DataW.agg parts):=by
 have:=bulk_part h
 simp only [Rows.uptoBulk]
 omega
theorem bulk_len {H:Type} {el sp:List (DataW H)} (h:Rows.uptoBulk (DataW.slice el sp)≤1048576):el.length≤1048576:=by
 have:=bulk_length el
 simp only [Rows.uptoBulk] at h
 omega
theorem inner_boundB {H:Type} {zs:List Int} {d:DataW H} (hd:zs=[]∨∃ el sp,d=DataW.slice el sp∧el.length=zs.length) (hw:Rows.uptoBulk d≤1048576):zs.length≤1048576:=by
 rcases hd with rfl | ⟨el,sp,rfl,hel⟩
 ·simp
 ·have:=bulk_len hw
  omega
theorem op_cellsB {H:Type} {enc:TypeId × Value→H} {w:World} {fuel:Nat} {cs:List Value} {d:DataW H} {p:List MemPlace}
  (h:DataW.trod enc Tryz.prog w 0 (fun _=>true) true fuel 38 cs=some (d,p)) (hw:Rows.uptoBulk d≤1048576) :
  ∃ o:P.Opv,OpAt w (fun i=>cs[i]?) o∧o.put.length≤1048576:=by
 obtain ⟨xs,n,rfl,hx,hl,hxl,hall⟩:=DataW.trod_struct Tryz.underlying38 h
 match xs,hxl with
 | [x0,x1,x2,x3,x4],_ =>
   obtain ⟨k0,e0,r0,w0⟩:=DataW.trod_int Tryz.underlying3 (hall 0 _ rfl)
   obtain ⟨k1,e1,r1,w1⟩:=DataW.trod_int Tryz.underlying3 (hall 1 _ rfl)
   obtain ⟨k2,e2,r2,w2⟩:=DataW.trod_int Tryz.underlying3 (hall 2 _ rfl)
   obtain ⟨k3,e3,r3,w3⟩:=DataW.trod_int Tryz.underlying3 (hall 3 _ rfl)
   have h4:=hall 4 _ rfl
   have e0':(cs.drop 0).take (Tryz.prog.cellsOf 3)=[.int .i64 k0]:=e0
   have e1':(cs.drop 1).take (Tryz.prog.cellsOf 3)=[.int .i64 k1]:=e1
   have e2':(cs.drop 2).take (Tryz.prog.cellsOf 3)=[.int .i64 k2]:=e2
   have e3':(cs.drop 3).take (Tryz.prog.cellsOf 3)=[.int .i64 k3]:=e3
   have h4':DataW.trod enc Tryz.prog w 0 (fun _=>true) true n 27 ((cs.drop 4).take (Tryz.prog.cellsOf 27))=some x4:=h4
   rw [cOp] at hl
   rw [cIn] at e0' e1' e2' e3'
   rw [cSl] at h4'
   match cs,hl with
   | [c0,c1,c2,c3,c4],_ =>
     simp at e0' e1' e2' e3'
     subst e0';subst e1';subst e2';subst e3'
     simp only [List.drop_succ_cons,List.drop_zero,List.take_succ_cons,List.take_zero] at h4'
     obtain ⟨ai,ci,zs,rfl,hr,hd⟩:=inner_of (d:=x4.1) (p:=x4.2) h4'
     have q2:=bounds_i64 w2
     have q3:=bounds_i64 w3
     obtain ⟨rfl,_⟩:=Prod.mk.inj hx
     have hb:=inner_boundB hd (Nat.le_trans (bulk_agg (d:=x4.1) (by simp)) hw)
     exact ⟨⟨k0,k1,k2,k3,zs⟩,⟨rfl,rfl,rfl,rfl,⟨_,rfl,hr⟩,⟨by dsimp only;omega,by dsimp only;omega,by dsimp only;omega⟩⟩,hb⟩
theorem ops_ofB {H:Type} {enc:TypeId × Value→H} {W:World} {a0:Option Addr} {len0 cap0:Nat} {d:DataW H} {p:List MemPlace}
  (h:DataW.Trod enc Tryz.prog W 0 (fun _=>true) true 25 (.slice a0 len0 cap0) d p) (hw:Rows.uptoBulk d≤1048576) :
  ∃ os,P.RdO W (.slice a0 len0 cap0) os∧∀ o ∈ os,o.put.length≤1048576:=by
 obtain ⟨fuel,hf⟩:=h
 rcases DataW.trod_slice Tryz.underlying25 hf with ⟨hcs,_⟩ | ⟨x,l,c,elems,rest,n,_,hcs,hx,hb,hl,hm,hlen,hel,_,_⟩
 ·simp [Value.cells] at hcs
  obtain ⟨rfl,rfl,rfl⟩:=hcs
  exact ⟨[],⟨none,0,rfl,Nat.le_refl _,by omega,(fun o ho=>by cases ho),fun h=>absurd rfl h⟩,fun o ho=>by cases ho⟩
 ·simp [Value.cells] at hcs
  obtain ⟨rfl,rfl,rfl⟩:=hcs
  rw [cOp] at hel
  obtain ⟨rfl,_⟩:=Prod.mk.inj hx
  obtain ⟨b,off,spot⟩:=x
  have each:∀ i,∃ o:P.Opv,i < len0→OpAt W (fun j=>W.cell? (((⟨b,off,spot⟩:Addr).add (i * 5)).add j)) o∧o.put.length≤1048576:=by
   intro i
   by_cases hi:i < len0
   ·have hi':i < elems.length:=by omega
    have:=hel i hi
    rw [List.getElem?_eq_getElem hi',Option.bind_eq_some_iff] at this
    obtain ⟨cs,hcs,hy⟩:=this
    obtain ⟨o,ho,hob⟩:=op_cellsB (d:=elems[i].1) (p:=elems[i].2) hy (Nat.le_trans (bulk_in (List.mem_map.2 ⟨elems[i],List.getElem_mem hi',rfl⟩)) hw)
    have hcell:=(World.cells?_some hcs).2.2
    obtain ⟨pv,h1,h2⟩:=ho.c4
    exact ⟨o,fun _=>⟨⟨(hcell 0 (by omega)).trans ho.c0,(hcell 1 (by omega)).trans ho.c1,(hcell 2 (by omega)).trans ho.c2,(hcell 3 (by omega)).trans ho.c3,⟨pv,(hcell 4 (by omega)).trans h1,h2⟩,ho.ok⟩,hob⟩⟩
   ·exact ⟨⟨0,0,0,0,[]⟩,fun h=>absurd h hi⟩
  obtain ⟨f,hf'⟩:=Classical.skolem.1 each
  have hlr:((List.range len0).map f).length=len0:=by simp
  refine ⟨(List.range len0).map f,⟨some ⟨b,off,spot⟩,cap0,by rw [hlr],by rw [hlr];exact hl,by unfold maxLen at hm;exact hm,fun o ho=>?_,fun hn=>?_⟩,fun o ho=>?_⟩
  ·rw [List.mem_map] at ho
   obtain ⟨i,hi,rfl⟩:=ho
   exact (hf' i (List.mem_range.1 hi)).1.ok
  ·have hpos:0 < len0:=by rw [← hlr];exact List.length_pos_iff.2 hn
   have hs:spot=none:=by simpa [Addr.add] using World.cell?_spot (hf' 0 hpos).1.c0
   subst hs
   refine ⟨b,off,rfl,World.block_lt_of_cell? W _ (by simpa [Addr.add] using (hf' 0 hpos).1.c0),fun i e hie=>?_⟩
   have hi:i < len0:=by have:=(List.getElem?_eq_some_iff.1 hie).1;rwa [hlr] at this
   have e1:e=f i:=by rw [List.getElem?_map,List.getElem?_range hi] at hie;simpa using hie.symm
   subst e1
   have:=(hf' i hi).1
   simp only [Addr.add_lit] at this
   exact ⟨this.c0,this.c1,this.c2,this.c3,this.c4⟩
  ·rw [List.mem_map] at ho
   obtain ⟨i,hi,rfl⟩:=ho
   exact (hf' i (List.mem_range.1 hi)).2
end Go.Proofs.YtgfdfajblidleaaGreat
