import Derived.Test.YtjomfbegghgbdaaGreatJ00
import Derived.Test.YtjomfbegghgbdaaGreatJ38
import Derived.Test.YtjomfbegghgbdaaGreatJ39
import Derived.Test.YtjomfbegghgbdaaGreatJ37
import Derived.Test.YtjomfbegghgbdaaGreatJ40
import Derived.JoinedCond
import Derived.OwnWalk
import Derived.Deep.CutRange
namespace Go.Proofs.YtjomfbegghgbdaaGreat
open Go.ChangeShapes Go.WideShapes Go.ChangeAt Go.RowKit
theorem cSl:Tryz.prog.cellsOf 27=1:=by kernel_rfl
theorem cSb:Tryz.prog.cellsOf 22=1:=by kernel_rfl
theorem cIn:Tryz.prog.cellsOf 3=1:=by kernel_rfl
theorem cOp:Tryz.prog.cellsOf 38=5:=by kernel_rfl
theorem cSt:Tryz.prog.cellsOf 24=2:=by kernel_rfl
theorem inner_of {H:Type} {enc:TypeId × Value→H} {W:World} {fuel:Nat} {c:Value} {d:DataW H} {p:List MemPlace}
  (h:DataW.trod enc Tryz.prog W 0 (fun _=>true) true fuel 27 [c]=some (d,p)) :
  ∃ ao cap zs,c=.slice ao zs.length cap∧Rd .i64 W (.slice ao zs.length cap) zs∧(zs=[]∨∃ el sp,d=.slice el sp∧el.length=zs.length):=by
 have hs:∃ ao len cap,c=.slice ao len cap:=by
  rcases DataW.trod_slice Tryz.underlying27 h with ⟨hcs,_⟩ | ⟨x,l,k,elems,rest,n,_,hcs,_⟩
  ·exact ⟨none,0,0,by simpa using hcs⟩
  ·exact ⟨some x,l,k,by simpa using hcs⟩
 obtain ⟨ao,len,cap,rfl⟩:=hs
 obtain ⟨zs,hr,_,hd⟩:=rd_of (enc:=enc) (d:=d) (p:=p) Tryz.underlying27 Tryz.underlying3 (by kernel_rfl) ⟨fuel,by simpa [Value.cells] using h⟩
 obtain ⟨ao',cap',hv,r1,r2,r3⟩:=id hr
 simp only [Value.slice.injEq] at hv
 obtain ⟨rfl,rfl,rfl⟩:=hv
 exact ⟨ao,cap,zs,rfl,hr,hd⟩
set_option maxRecDepth 100000 in
theorem start_of {H:Type} {enc:TypeId × Value→H} {W:World} {base:Nat} {v:Value} {d:DataW H} {p:List MemPlace} (hv:Value.okWide Tryz.prog W .any base 24 v)
  (h:DataW.Trod enc Tryz.prog W 0 (fun _=>true) true 24 v d p):∃ x ad nd cd D,v=.agg #[.int .i64 x,.slice ad nd cd]∧Rd .u8 W (.slice ad nd cd) D∧Byt D:=by
 obtain ⟨cs,rfl,hs⟩:=okWide_struct Tryz.underlying24 hv
 obtain ⟨fuel,hf⟩:=h
 have hc:(Value.agg cs).cells=cs:=by simp [Value.cells]
 rw [hc] at hf
 obtain ⟨xs,n,rfl,hx,hl,hxl,hall⟩:=DataW.trod_struct Tryz.underlying24 hf
 match xs,hxl with
 | [x0,x1],_ =>
   obtain ⟨k0,e0,r0,w0⟩:=DataW.trod_int Tryz.underlying3 (hall 0 _ rfl)
   have h1:=hall 1 _ rfl
   have e0':(cs.toList.drop 0).take (Tryz.prog.cellsOf 3)=[.int .i64 k0]:=e0
   have h1':DataW.trod enc Tryz.prog W 0 (fun _=>true) true n 22 ((cs.toList.drop 1).take (Tryz.prog.cellsOf 22))=some x1:=h1
   rw [cSt] at hl
   rw [cIn] at e0'
   rw [cSb] at h1'
   obtain ⟨l⟩:=cs
   match l,hl with
   | [c0,c1],_ =>
     simp at e0'
     subst e0'
     simp only [List.drop_succ_cons,List.drop_zero,List.take_succ_cons,List.take_zero] at h1'
     have hsl:∃ ao len cap,c1=.slice ao len cap:=by
      rcases DataW.trod_slice Tryz.underlying22 h1' with ⟨hcs,_⟩ | ⟨x,l,k,elems,rest,n,_,hcs,_⟩
      ·exact ⟨none,0,0,by simpa using hcs⟩
      ·exact ⟨some x,l,k,by simpa using hcs⟩
     obtain ⟨ao,len,cap,rfl⟩:=hsl
     obtain ⟨zs,hr,hw,_⟩:=rd_of (enc:=enc) (d:=x1.1) (p:=x1.2) Tryz.underlying22 Tryz.underlying5 (by kernel_rfl) ⟨n,by simpa [Value.cells] using h1'⟩
     exact ⟨k0,ao,len,cap,zs,rfl,hr,byt_of hw⟩
structure OpAt (w:World) (f:Nat→Option Value) (o:P.Opv):Prop where
 c0:f 0=some (.int .i64 o.who)
 c1:f 1=some (.int .i64 o.k)
 c2:f 2=some (.int .i64 o.a)
 c3:f 3=some (.int .i64 o.b)
 c4:∃ pv,f 4=some pv∧Rd .i64 w pv o.put
 ok:o.Ok
end Go.Proofs.YtjomfbegghgbdaaGreat

namespace Go.Proofs.YtjomfbegghgbdaaGreat
open Go.ChangeShapes Go.WideShapes Go.ChangeAt Go.RowKit
theorem bulk_one {H:Type} (d:DataW H):1≤Rows.uptoBulk d:=by
 cases d with
 | lit l=>cases l <;> simp [Rows.uptoBulk]
 | nil=>simp [Rows.uptoBulk]
 | ptr d=>simp [Rows.uptoBulk]
 | slice elems spare=>simp [Rows.uptoBulk]
 | agg parts=>simp [Rows.uptoBulk]
 | iface t d=>simp [Rows.uptoBulk]
 | map entries=>simp [Rows.uptoBulk]
 | held h=>simp [Rows.uptoBulk]
theorem bulk_part {H:Type} {d:DataW H} {l:List (DataW H)} (h:d ∈ l):Rows.uptoBulk d≤Rows.uptoBulkAll l:=by
 induction l with
 | nil=>cases h
 | cons x r ih =>
   simp only [Rows.uptoBulkAll]
   cases List.mem_cons.1 h with
   | inl e=>subst e;omega
   | inr e=>have:=ih e;omega
theorem bulk_length {H:Type} (l:List (DataW H)):l.length≤Rows.uptoBulkAll l:=by
 induction l with
 | nil=>simp
 | cons x r ih=>have:=bulk_one x;simp only [Rows.uptoBulkAll,List.length_cons];omega
theorem bulk_bound {H:Type} {l:List (DataW H)} (hk:Rows.uptoSmall H l=true):Rows.uptoBulkAll l≤1048576:=of_decide_eq_true hk
end Go.Proofs.YtjomfbegghgbdaaGreat

namespace Go.Proofs.YtjomfbegghgbdaaGreat
open Go.ChangeShapes Go.WideShapes Go.ChangeAt Go.RowKit
theorem bulk_in {H:Type} {el sp:List (DataW H)} {d:DataW H} (h:d ∈ el):Rows.uptoBulk d≤Rows.uptoBulk (DataW.slice el sp):=by
 have:=bulk_part h
 simp only [Rows.uptoBulk]
 omega
theorem bulk_agg {H:Type} {parts:List (DataW H)} {d:DataW H} (h:d ∈ parts):Rows.uptoBulk d≤Rows.uptoBulk (DataW.agg parts):=by
 have:=bulk_part h
 simp only [Rows.uptoBulk]
 omega
theorem bulk_len {H:Type} {el sp:List (DataW H)} (h:Rows.uptoBulk (DataW.slice el sp)≤1048576):el.length≤1048576:=by
 have:=bulk_length el
 simp only [Rows.uptoBulk] at h
 omega
theorem inner_boundB {H:Type} {zs:List Int} {d:DataW H} (hd:zs=[]∨∃ el sp,d=DataW.slice el sp∧el.length=zs.length) (hw:Rows.uptoBulk d≤1048576):zs.length≤1048576:=by
 rcases hd with rfl | ⟨el,sp,rfl,hel⟩
 ·simp
 ·have:=bulk_len hw
  omega
set_option maxRecDepth 100000 in
theorem op_cellsB {H:Type} {enc:TypeId × Value→H} {w:World} {fuel:Nat} {cs:List Value} {d:DataW H} {p:List MemPlace}
  (h:DataW.trod enc Tryz.prog w 0 (fun _=>true) true fuel 38 cs=some (d,p)) (hw:Rows.uptoBulk d≤1048576) :
  ∃ o:P.Opv,OpAt w (fun i=>cs[i]?) o∧o.put.length≤1048576:=by
 obtain ⟨xs,n,rfl,hx,hl,hxl,hall⟩:=DataW.trod_struct Tryz.underlying38 h
 match xs,hxl with
 | [x0,x1,x2,x3,x4],_ =>
   obtain ⟨k0,e0,r0,w0⟩:=DataW.trod_int Tryz.underlying3 (hall 0 _ rfl)
   obtain ⟨k1,e1,r1,w1⟩:=DataW.trod_int Tryz.underlying3 (hall 1 _ rfl)
   obtain ⟨k2,e2,r2,w2⟩:=DataW.trod_int Tryz.underlying3 (hall 2 _ rfl)
   obtain ⟨k3,e3,r3,w3⟩:=DataW.trod_int Tryz.underlying3 (hall 3 _ rfl)
   have h4:=hall 4 _ rfl
   have e0':(cs.drop 0).take (Tryz.prog.cellsOf 3)=[.int .i64 k0]:=e0
   have e1':(cs.drop 1).take (Tryz.prog.cellsOf 3)=[.int .i64 k1]:=e1
   have e2':(cs.drop 2).take (Tryz.prog.cellsOf 3)=[.int .i64 k2]:=e2
   have e3':(cs.drop 3).take (Tryz.prog.cellsOf 3)=[.int .i64 k3]:=e3
   have h4':DataW.trod enc Tryz.prog w 0 (fun _=>true) true n 27 ((cs.drop 4).take (Tryz.prog.cellsOf 27))=some x4:=h4
   rw [cOp] at hl
   rw [cIn] at e0' e1' e2' e3'
   rw [cSl] at h4'
   match cs,hl with
   | [c0,c1,c2,c3,c4],_ =>
     simp at e0' e1' e2' e3'
     subst e0';subst e1';subst e2';subst e3'
     simp only [List.drop_succ_cons,List.drop_zero,List.take_succ_cons,List.take_zero] at h4'
     obtain ⟨ai,ci,zs,rfl,hr,hd⟩:=inner_of (d:=x4.1) (p:=x4.2) h4'
     have q2:=bounds_i64 w2
     have q3:=bounds_i64 w3
     obtain ⟨rfl,_⟩:=Prod.mk.inj hx
     have hb:=inner_boundB hd (Nat.le_trans (bulk_agg (d:=x4.1) (by simp)) hw)
     exact ⟨⟨k0,k1,k2,k3,zs⟩,⟨rfl,rfl,rfl,rfl,⟨_,rfl,hr⟩,⟨by dsimp only;omega,by dsimp only;omega,by dsimp only;omega⟩⟩,hb⟩
set_option maxRecDepth 100000 in
theorem ops_ofB {H:Type} {enc:TypeId × Value→H} {W:World} {a0:Option Addr} {len0 cap0:Nat} {d:DataW H} {p:List MemPlace}
  (h:DataW.Trod enc Tryz.prog W 0 (fun _=>true) true 25 (.slice a0 len0 cap0) d p) (hw:Rows.uptoBulk d≤1048576) :
  ∃ os,P.RdO W (.slice a0 len0 cap0) os∧∀ o ∈ os,o.put.length≤1048576:=by
 obtain ⟨fuel,hf⟩:=h
 rcases DataW.trod_slice Tryz.underlying25 hf with ⟨hcs,_⟩ | ⟨x,l,c,elems,rest,n,_,hcs,hx,hb,hl,hm,hlen,hel,_,_⟩
 ·simp [Value.cells] at hcs
  obtain ⟨rfl,rfl,rfl⟩:=hcs
  exact ⟨[],⟨none,0,rfl,Nat.le_refl _,by omega,(fun o ho=>by cases ho),fun h=>absurd rfl h⟩,fun o ho=>by cases ho⟩
 ·simp [Value.cells] at hcs
  obtain ⟨rfl,rfl,rfl⟩:=hcs
  rw [cOp] at hel
  obtain ⟨rfl,_⟩:=Prod.mk.inj hx
  obtain ⟨b,off,spot⟩:=x
  have each:∀ i,∃ o:P.Opv,i < len0→OpAt W (fun j=>W.cell? (((⟨b,off,spot⟩:Addr).add (i * 5)).add j)) o∧o.put.length≤1048576:=by
   intro i
   by_cases hi:i < len0
   ·have hi':i < elems.length:=by omega
    have:=hel i hi
    rw [List.getElem?_eq_getElem hi',Option.bind_eq_some_iff] at this
    obtain ⟨cs,hcs,hy⟩:=this
    obtain ⟨o,ho,hob⟩:=op_cellsB (d:=elems[i].1) (p:=elems[i].2) hy (Nat.le_trans (bulk_in (List.mem_map.2 ⟨elems[i],List.getElem_mem hi',rfl⟩)) hw)
    have hcell:=(World.cells?_some hcs).2.2
    obtain ⟨pv,h1,h2⟩:=ho.c4
    exact ⟨o,fun _=>⟨⟨(hcell 0 (by omega)).trans ho.c0,(hcell 1 (by omega)).trans ho.c1,(hcell 2 (by omega)).trans ho.c2,(hcell 3 (by omega)).trans ho.c3,⟨pv,(hcell 4 (by omega)).trans h1,h2⟩,ho.ok⟩,hob⟩⟩
   ·exact ⟨⟨0,0,0,0,[]⟩,fun h=>absurd h hi⟩
  obtain ⟨f,hf'⟩:=Classical.skolem.1 each
  have hlr:((List.range len0).map f).length=len0:=by simp
  refine ⟨(List.range len0).map f,⟨some ⟨b,off,spot⟩,cap0,by rw [hlr],by rw [hlr];exact hl,by unfold maxLen at hm;exact hm,fun o ho=>?_,fun hn=>?_⟩,fun o ho=>?_⟩
  ·rw [List.mem_map] at ho
   obtain ⟨i,hi,rfl⟩:=ho
   exact (hf' i (List.mem_range.1 hi)).1.ok
  ·have hpos:0 < len0:=by rw [← hlr];exact List.length_pos_iff.2 hn
   have hs:spot=none:=by simpa [Addr.add] using World.cell?_spot (hf' 0 hpos).1.c0
   subst hs
   refine ⟨b,off,rfl,World.block_lt_of_cell? W _ (by simpa [Addr.add] using (hf' 0 hpos).1.c0),fun i e hie=>?_⟩
   have hi:i < len0:=by have:=(List.getElem?_eq_some_iff.1 hie).1;rwa [hlr] at this
   have e1:e=f i:=by rw [List.getElem?_map,List.getElem?_range hi] at hie;simpa using hie.symm
   subst e1
   have:=(hf' i hi).1
   simp only [Addr.add_lit] at this
   exact ⟨this.c0,this.c1,this.c2,this.c3,this.c4⟩
  ·rw [List.mem_map] at ho
   obtain ⟨i,hi,rfl⟩:=ho
   exact (hf' i (List.mem_range.1 hi)).2
end Go.Proofs.YtjomfbegghgbdaaGreat

namespace Go.Proofs.YtjomfbegghgbdaaGreat.P
open Go.RowKit
def tyB (A:List Int) (p:Nat) (out:List Int):Int:=if 0 < out.length then out[out.length - 1]?.getD 0 else if 0 < p then A[p - 1]?.getD 0 else 0
def tyM (A:List Int) (p:Nat) (nat:Int) (last:Bool) (out:List Int):Bool:=(decide (nat=1) && decide (tyB A p out=13)) || (decide (nat=3) && (last && decide (A[p]?=some 10)))
def tyW (k:Int):List Int:=if k=1 then [10] else if k=3 then [13] else [13,10]
def tyF (A:List Int) (p:Nat) (nat:Int):List Int→List Int→List Int
 | out,[]=>out
 | out,x :: r=>if x=10 then tyF A p nat (out ++ tyW (if tyM A p nat r.isEmpty out=true then 2 else nat)) r else tyF A p nat (out ++ [x]) r
theorem last_eq2 (l:List Int) (i:Nat) (h:i < l.length):∃ last:Bool,((i:Int) + 1 == (l.length:Int))=last∧last=(l.drop (i + 1)).isEmpty:=by
 by_cases he:i + 1=l.length
 ·refine ⟨true,by simp;omega,?_⟩
  rw [List.drop_of_length_le (by omega)]
  rfl
 ·refine ⟨false,by simp;omega,?_⟩
  cases h8:l.drop (i + 1) with
  | nil=>have:=congrArg List.length h8;rw [List.length_drop] at this;simp at this;omega
  | cons a b=>rfl
theorem tyW_len (k:Int):(tyW k).length≤2:=by unfold tyW;split;simp;split <;> simp
theorem rdi_two (w:World) (x y:Int):∀ j u,([x,y].map (Value.int .i64))[j]?=some u→(w.alloc (.cells #[.int .i64 x,.int .i64 y] 3)).cell? ((⟨w.heap.size,0,none⟩:Addr).add j)=some u:=fun j u hj=>by
 rw [Addr.add_lit,cell_of_row _ _ _ _ _ _ (heap_alloc_new _ _)]
 match j with
 | 0=>simpa using hj
 | 1=>simpa using hj
 | j + 2=>simp at hj
set_option maxRecDepth 100000 in
theorem behindc_any (enc:Int) (w:World) (t:Nat) (A:List Int) (p:Nat) (vo:Value) (out:List Int) (h:Tz enc w t A) (hp:p≤A.length) (ho:Rd .i64 w vo out) :
  Calls Tryz.prog 57 #[.pointer (some ⟨t,0,none⟩),.int .i64 (p:Nat),vo] w fun e w'=>e=.returned (.bool (decide (tyB A p out=13)))∧Below w.heap.size w w':=by
 have hl:=h.len
 have hz:=ho.len
 obtain ⟨ao,co,rfl,ho1,ho2,_⟩:=id ho
 by_cases hn:0 < out.length
 ·have hnI:(0:Int) < (out.length:Int):=by omega
  obtain ⟨b,o,rfl,hbl,ci,_⟩:=rd_at ho (out.length - 1) (by omega)
  have HE:Hid (tyB A p out=out[out.length - 1]?.getD 0):=by unfold Hid tyB;rw [if_pos hn]
  rw [HE.out]
  generalize out[out.length - 1]?.getD 0=x at ci
  have e1:((out.length:Int) - 1)=((out.length - 1:Nat):Int):=by omega
  have hi1:((out.length - 1:Nat):Int) < (out.length:Int):=by omega
  have hw:wrap64 ((out.length:Int) - 1)=((out.length - 1:Nat):Int):=by unfold wrap64;omega
  clear HE ho h
  go_enter Tryz.func57,Tryz.ntmps57
  go_wp2_with fail
  go_ret
  exact ⟨rfl,Below.refl _ _⟩
 ·have hnI:¬ (0:Int) < (out.length:Int):=by omega
  have IS:=hidIt (isAtom_any enc w t A ((p:Int) - 1) 13 h (by omega) (by omega))
  have HE:Hid (isA A ((p:Int) - 1) 13=decide (tyB A p out=13)):=by
   unfold Hid isA tyB
   rw [if_neg hn]
   by_cases hp0:0 < p
   ·rw [if_pos hp0,show ((p:Int) - 1).toNat=p - 1 by omega]
    obtain ⟨x,hx⟩:∃ x,A[p - 1]?=some x:=⟨_,List.getElem?_eq_getElem (by omega)⟩
    rw [hx]
    simp
    omega
   ·rw [if_neg hp0]
    simp
    omega
  rw [← HE.out]
  have hw:wrap64 ((p:Int) - 1)=(p:Int) - 1:=by unfold wrap64;omega
  clear HE ho h
  go_enter Tryz.func57,Tryz.ntmps57
  go_wp2_with (go_at_call 58;refine IS.out.mono ?_;rintro e w2 ⟨rfl,hb⟩;have HB:=hidIt hb;clear hb;(try dsimp only))
  go_ret
  exact ⟨rfl,HB.out⟩
set_option maxRecDepth 100000 in
theorem appbrk_any (base:Nat) (k:Int) (v:Value) (zs:List Int) (w:World) (h:OwnI w base v zs) (hb:base≤w.heap.size) (hl:(zs.length + 2) * 8≤140737488355328) :
  Calls Tryz.prog 59 #[v,.int .i64 k] w fun e w'=>∃ v',e=.returned v'∧OwnI w' base v' (zs ++ tyW k)∧Below base w w':=by
 obtain ⟨ao,co,rfl⟩:=h.form
 have HO:=hidIt h
 clear h
 by_cases h1:k=1
 ·subst h1
  go_enter Tryz.func59,Tryz.ntmps59
  go_wp2_with (at_builtin;refine wpl_ints rfl _ _ 27 rfl base Tryz.info_i64 Tryz.underlying27 (.slice ao zs.length co) zs rfl (HO.out.ext (ext_alloc (Below.refl _ _) _)) [10] (some ⟨w.heap.size,0,none⟩) 1 1 rfl rfl (.inr ⟨_,rfl,rdi_new w _⟩) (by simp;omega) (Nat.le_trans hb (size_alloc_le _ _)) ?_;intro v8 w8 ho8 hb8;have HO8:=hidIt ho8;have HB8:=hidIt (((Below.refl base w).alloc hb _).trans hb8);clear ho8 hb8)
  go_ret
  exact ⟨_,rfl,HO8.out,HB8.out⟩
 by_cases h3:k=3
 ·subst h3
  go_enter Tryz.func59,Tryz.ntmps59
  go_wp2_with (at_builtin;refine wpl_ints rfl _ _ 27 rfl base Tryz.info_i64 Tryz.underlying27 (.slice ao zs.length co) zs rfl (HO.out.ext (ext_alloc (Below.refl _ _) _)) [13] (some ⟨w.heap.size,0,none⟩) 1 1 rfl rfl (.inr ⟨_,rfl,rdi_new w _⟩) (by simp;omega) (Nat.le_trans hb (size_alloc_le _ _)) ?_;intro v8 w8 ho8 hb8;have HO8:=hidIt ho8;have HB8:=hidIt (((Below.refl base w).alloc hb _).trans hb8);clear ho8 hb8)
  go_ret
  exact ⟨_,rfl,HO8.out,HB8.out⟩
 have HE:Hid (tyW k=[13,10]):=by unfold Hid tyW;rw [if_neg h1,if_neg h3]
 have g1:(k == 1)=false:=by simpa using h1
 have g3:(k == 3)=false:=by simpa using h3
 rw [HE.out]
 clear h1 h3 HE
 go_enter Tryz.func59,Tryz.ntmps59
 go_wp2_with (at_builtin;refine wpl_ints rfl _ _ 27 rfl base Tryz.info_i64 Tryz.underlying27 (.slice ao zs.length co) zs rfl (HO.out.ext (ext_alloc (Below.refl _ _) _)) [13,10] (some ⟨w.heap.size,0,none⟩) 2 2 rfl rfl (.inr ⟨_,rfl,rdi_two w _ _⟩) (by simp;omega) (Nat.le_trans hb (size_alloc_le _ _)) ?_;intro v8 w8 ho8 hb8;have HO8:=hidIt ho8;have HB8:=hidIt (((Below.refl base w).alloc hb _).trans hb8);clear ho8 hb8)
 go_ret
 exact ⟨_,rfl,HO8.out,HB8.out⟩
set_option maxRecDepth 100000 in
set_option maxHeartbeats 8000000 in
theorem Typed_good (enc:Int) (w:World) (t:Nat) (A:List Int) (p:Nat) (vl:Value) (l:List Int) (nat:Int) (h:Tz enc w t A) (hp:p≤A.length) (hl:Rd .i64 w vl l) (hnat:nat=1∨nat=2∨nat=3) (hz:l.length * 16 + 16≤140737488355328) :
  Calls Tryz.prog 23 #[.pointer (some ⟨t,0,none⟩),.int .i64 (p:Nat),vl,.int .i64 nat] w fun e w'=>∃ v,e=.returned (.tuple #[v,.int .i64 0])∧OwnI w' w.heap.size v (tyF A p nat [] l)∧Below w.heap.size w w':=by
 have hlA:=h.len
 obtain ⟨i0,hi,hz0,hz1,hz2⟩:=info_parts Tryz.info_i64
 obtain ⟨la,lc,rfl,hl1,hl2,_⟩:=id hl
 have HT:=hidIt h
 have HL:=hidIt hl
 have LN:=hidIt (Len_z enc w t A h)
 have n1:¬ (p:Int) < 0:=by omega
 have n2:¬ (A.length:Int) < (p:Int):=by omega
 have n3:Hid (nat=1∨nat=2∨nat=3):=hnat
 clear h hl
 have HF0:Hid (tyF A p nat [] l=tyF A p nat [] l):=rfl
 generalize hR:tyF A p nat [] l=R at *
 have HR:=hidIt hR
 clear hR HF0
 go_enter Tryz.func23,Tryz.ntmps23
 go_upto_region 1 with fail
 go_cut [24] from 15 to 24 (fun v wF=>v=.bool false∧wF=w)
 case first =>
  rcases hnat with rfl | rfl | rfl
  all_goals
   go_wp2_with fail
   go_meet
   case rel=>exact ⟨rfl,rfl⟩
 case rest =>
  obtain ⟨rfl,hwc⟩:=hcut
  rw [hwc]
  clear hwc
  go_upto_region 5 with (go_at_call 53;refine LN.out.mono ?_;rintro e w1 ⟨rfl,hb⟩;have HB1:=hidIt hb;clear hb LN;(try dsimp only))
  go_upto_region 6 with (at_make;refine wpList_make_own _ rfl _ _ 27 rfl w.heap.size 3 i0 (.int .i64 0) 1 Tryz.underlying27 hi hz0 hz1 _ _ _ l.length rfl rfl rfl (by rw [hz2];omega) (by unfold maxLen;omega) HB1.out.size ?_;intro w2 hrow2 hg2)
  have HO2:Hid (OwnI w2 w.heap.size (.slice (some ⟨w1.heap.size,0,none⟩) 0 l.length) []):=hrow2
  have HB2:Hid (Below w.heap.size w w2):=HB1.out.grown hg2 HB1.out.size (fun k e=>by cases e)
  clear hrow2 hg2
  generalize w1.heap.size=g1 at HO2 ⊢
  go_wp2_with fail
  go_loopw [10,38] (fun ov iv wr=>∃ (i:Nat) (ao:Option Addr) (c:Nat) (out:List Int),i≤l.length∧iv=.int .i64 (i:Nat)∧ov=.slice ao out.length c∧Hid (OwnI wr w.heap.size (.slice ao out.length c) out)∧Hid (out.length≤2 * i)∧Hid (tyF A p nat out (l.drop i)=R)∧Hid (Below w.heap.size w wr)) (fun _ iv _=>l.length - (intOf iv).toNat)
  case atStart=>exact ⟨0,_,_,[],Nat.zero_le _,rfl,rfl,HO2.out,Nat.le_refl _,by rw [List.drop_zero];exact HR.out,HB2.out⟩
  case round =>
   clear HO2 HB2
   obtain ⟨i,ao,c,out,hi9,rfl,rfl,HO,HOL2,HFF,HBW⟩:=hrel
   by_cases hlt:i < l.length
   ·have hltI:(i:Int) < (l.length:Int):=by omega
    obtain ⟨lb,lo,rfl,_,ci,_⟩:=rd_at (HL.out.ext HBW.out) i hlt
    obtain ⟨x,hx⟩:∃ x,l[i]?=some x:=⟨_,List.getElem?_eq_getElem hlt⟩
    rw [hx,Option.getD_some] at ci
    have HDR:Hid (l.drop i=x :: l.drop (i + 1)):=by
     obtain ⟨h1,h2⟩:=List.getElem?_eq_some_iff.1 hx
     unfold Hid
     rw [List.drop_eq_getElem_cons h1,h2]
    rw [HDR.out,tyF] at HFF
    have HOL:Hid ((out.length + 2) * 8≤140737488355328):=by unfold Hid;have:=HOL2.out;omega
    by_cases hx10:x=10
    ·have hxb:(x != 10)=false:=by simpa using hx10
     rw [if_pos hx10] at HFF
     have HF2:=HFF
     clear HFF hx HDR hx10
     obtain ⟨last,hlst,hlast⟩:∃ last:Bool,((i:Int) + 1 == (l.length:Int))=last∧last=(l.drop (i + 1)).isEmpty:=last_eq2 l i hlt
     rw [← hlast] at HF2
     clear hlast
     cases last
     ·go_upto_region 13 with fail
      go_cut [74] from 55 to 74 (fun v wF=>v=.bool (tyM A p nat false out)∧Hid (Below wr.heap.size wr wF))
      case first =>
       clear HF2
       rcases hnat with rfl | rfl | rfl
       ·have BH:=hidIt (behindc_any enc wr t A p (.slice ao out.length c) out (HT.out.ext HBW.out) hp (Rd.of_own HO.out))
        obtain ⟨m9,hm9⟩:∃ m9,m9=decide (tyB A p out=13):=⟨_,rfl⟩
        have HM:Hid (tyM A p 1 false out=m9):=by unfold Hid tyM;rw [hm9];simp
        rw [← hm9] at BH
        clear hm9
        cases m9
        all_goals
         go_wp2_with (go_at_call 57;refine BH.out.mono ?_;rintro e w2 ⟨rfl,hb⟩;have HB2:=hidIt hb;clear hb BH;(try dsimp only))
         go_meet
         case rel=>exact ⟨by rw [HM.out],HB2.out⟩
       ·have HM:Hid (tyM A p 2 false out=false):=by unfold Hid tyM;simp
        go_wp2_with fail
        go_meet
        case rel=>exact ⟨by rw [HM.out],Below.refl _ _⟩
       ·have HM:Hid (tyM A p 3 false out=false):=by unfold Hid tyM;simp
        go_wp2_with fail
        go_meet
        case rel=>exact ⟨by rw [HM.out],Below.refl _ _⟩
      case rest =>
       obtain ⟨rfl,HBC⟩:=hcut
       generalize tyM A p nat false out=M at HF2 ⊢
       cases M
       ·rw [if_neg (by decide)] at HF2
        have AP:=hidIt (fun (y:World) (hy:Below wc.heap.size wc y)=>appbrk_any w.heap.size nat (.slice ao out.length c) out y ((HO.out.ext HBC.out).ext hy) (Nat.le_trans (Nat.le_trans HBW.out.size HBC.out.size) hy.size) (by have:=HOL.out;omega))
        go_wp2_with (go_at_call 59;refine (AP.out _ (Below.refl _ _)).mono ?_;rintro e w3 ⟨v3,rfl,ho3,hb3⟩;obtain ⟨a3,c3,rfl⟩:=ho3.form;(try dsimp only);have HO3:=hidIt ho3;have HB3:=hidIt ((ext_trans HBW.out HBC.out).trans hb3);clear ho3 hb3 AP)
        go_roundw
        case rel=>exact ⟨i + 1,_,_,_,by omega,by go_num,rfl,HO3.out,by unfold Hid;rw [List.length_append];have h8:=tyW_len nat;have h9:=HOL2.out;omega,HF2.out,HB3.out⟩
        case measure=>simp [intOf];omega
       ·rw [if_pos rfl] at HF2
        have AP:=hidIt (fun (y:World) (hy:Below wc.heap.size wc y)=>appbrk_any w.heap.size 2 (.slice ao out.length c) out y ((HO.out.ext HBC.out).ext hy) (Nat.le_trans (Nat.le_trans HBW.out.size HBC.out.size) hy.size) (by have:=HOL.out;omega))
        go_wp2_with (go_at_call 59;refine (AP.out _ (Below.refl _ _)).mono ?_;rintro e w3 ⟨v3,rfl,ho3,hb3⟩;obtain ⟨a3,c3,rfl⟩:=ho3.form;(try dsimp only);have HO3:=hidIt ho3;have HB3:=hidIt ((ext_trans HBW.out HBC.out).trans hb3);clear ho3 hb3 AP)
        go_roundw
        case rel=>exact ⟨i + 1,_,_,_,by omega,by go_num,rfl,HO3.out,by unfold Hid;rw [List.length_append];have h8:=tyW_len 2;have h9:=HOL2.out;omega,HF2.out,HB3.out⟩
        case measure=>simp [intOf];omega
     ·go_upto_region 13 with fail
      go_cut [74] from 55 to 74 (fun v wF=>v=.bool (tyM A p nat true out)∧Hid (Below wr.heap.size wr wF))
      case first =>
       clear HF2
       rcases hnat with rfl | rfl | rfl
       ·have BH:=hidIt (behindc_any enc wr t A p (.slice ao out.length c) out (HT.out.ext HBW.out) hp (Rd.of_own HO.out))
        obtain ⟨m9,hm9⟩:∃ m9,m9=decide (tyB A p out=13):=⟨_,rfl⟩
        have HM:Hid (tyM A p 1 true out=m9):=by unfold Hid tyM;rw [hm9];simp
        rw [← hm9] at BH
        clear hm9
        cases m9
        all_goals
         go_wp2_with (go_at_call 57;refine BH.out.mono ?_;rintro e w2 ⟨rfl,hb⟩;have HB2:=hidIt hb;clear hb BH;(try dsimp only))
         go_meet
         case rel=>exact ⟨by rw [HM.out],HB2.out⟩
       ·have HM:Hid (tyM A p 2 true out=false):=by unfold Hid tyM;simp
        go_wp2_with fail
        go_meet
        case rel=>exact ⟨by rw [HM.out],Below.refl _ _⟩
       ·have IS:=hidIt (isAtom_any enc wr t A (p:Nat) 10 (HT.out.ext HBW.out) (by omega) (by omega))
        obtain ⟨m9,hm9⟩:∃ m9,m9=isA A (p:Nat) 10:=⟨_,rfl⟩
        have HM:Hid (tyM A p 3 true out=m9):=by unfold Hid tyM;rw [hm9];unfold isA;simp
        rw [← hm9] at IS
        clear hm9
        cases m9
        all_goals
         go_wp2_with (go_at_call 58;refine IS.out.mono ?_;rintro e w2 ⟨rfl,hb⟩;have HB2:=hidIt hb;clear hb IS;(try dsimp only))
         go_meet
         case rel=>exact ⟨by rw [HM.out],HB2.out⟩
      case rest =>
       obtain ⟨rfl,HBC⟩:=hcut
       generalize tyM A p nat true out=M at HF2 ⊢
       cases M
       ·rw [if_neg (by decide)] at HF2
        have AP:=hidIt (fun (y:World) (hy:Below wc.heap.size wc y)=>appbrk_any w.heap.size nat (.slice ao out.length c) out y ((HO.out.ext HBC.out).ext hy) (Nat.le_trans (Nat.le_trans HBW.out.size HBC.out.size) hy.size) (by have:=HOL.out;omega))
        go_wp2_with (go_at_call 59;refine (AP.out _ (Below.refl _ _)).mono ?_;rintro e w3 ⟨v3,rfl,ho3,hb3⟩;obtain ⟨a3,c3,rfl⟩:=ho3.form;(try dsimp only);have HO3:=hidIt ho3;have HB3:=hidIt ((ext_trans HBW.out HBC.out).trans hb3);clear ho3 hb3 AP)
        go_roundw
        case rel=>exact ⟨i + 1,_,_,_,by omega,by go_num,rfl,HO3.out,by unfold Hid;rw [List.length_append];have h8:=tyW_len nat;have h9:=HOL2.out;omega,HF2.out,HB3.out⟩
        case measure=>simp [intOf];omega
       ·rw [if_pos rfl] at HF2
        have AP:=hidIt (fun (y:World) (hy:Below wc.heap.size wc y)=>appbrk_any w.heap.size 2 (.slice ao out.length c) out y ((HO.out.ext HBC.out).ext hy) (Nat.le_trans (Nat.le_trans HBW.out.size HBC.out.size) hy.size) (by have:=HOL.out;omega))
        go_wp2_with (go_at_call 59;refine (AP.out _ (Below.refl _ _)).mono ?_;rintro e w3 ⟨v3,rfl,ho3,hb3⟩;obtain ⟨a3,c3,rfl⟩:=ho3.form;(try dsimp only);have HO3:=hidIt ho3;have HB3:=hidIt ((ext_trans HBW.out HBC.out).trans hb3);clear ho3 hb3 AP)
        go_roundw
        case rel=>exact ⟨i + 1,_,_,_,by omega,by go_num,rfl,HO3.out,by unfold Hid;rw [List.length_append];have h8:=tyW_len 2;have h9:=HOL2.out;omega,HF2.out,HB3.out⟩
        case measure=>simp [intOf];omega
    ·have hxb:(x != 10)=true:=by simpa using hx10
     rw [if_neg hx10] at HFF
     have HF2:=HFF
     clear HFF hx HDR hx10
     have HNW:=hidIt (rdi_new wr x)
     have HZ:=hidIt (show w.heap.size≤(wr.alloc (.cells #[.int .i64 x] 3)).heap.size from Nat.le_trans HBW.out.size (size_alloc_le _ _))
     have HOA:=hidIt (HO.out.ext (ext_alloc (Below.refl wr.heap.size wr) (.cells #[.int .i64 x] 3)))
     go_wp2_with (at_builtin;refine wpl_ints rfl _ _ 27 rfl w.heap.size Tryz.info_i64 Tryz.underlying27 (.slice ao out.length c) out rfl HOA.out [x] (some ⟨wr.heap.size,0,none⟩) 1 1 rfl rfl (.inr ⟨_,rfl,HNW.out⟩) (by have:=HOL.out;simp;omega) HZ.out ?_;intro v8 w8 ho8 hb8;obtain ⟨a8,c8,rfl⟩:=ho8.form;have HO8:=hidIt ho8;have HB8:=hidIt ((HBW.out.alloc HBW.out.size _).trans hb8);clear ho8 hb8)
     go_roundw
     case rel=>exact ⟨i + 1,_,_,_,by omega,by go_num,by rw [List.length_append];rfl,HO8.out,by unfold Hid;rw [List.length_append];have h9:=HOL2.out;simp;omega,HF2.out,HB8.out⟩
     case measure=>simp [intOf];omega
   ·obtain rfl:i=l.length:=by omega
    have hge:¬ (l.length:Int) < (l.length:Int):=by omega
    have HE:Hid (out=R):=by have:=HFF.out;rw [List.drop_of_length_le (Nat.le_refl _),tyF] at this;exact this
    go_wp2_with fail
    go_ret2
    exact ⟨_,rfl,by rw [← HE.out];exact HO.out,HBW.out⟩
end Go.Proofs.YtjomfbegghgbdaaGreat.P

namespace Go.Proofs.YtjomfbegghgbdaaGreat.P
open Go.RowKit
structure Rdr (enc:Int) (A:List Int) (w:World) (r t s:Nat) (H:Nat→Prop):Prop where
 ex:∃ v hand,w.heap[r]?=some (.cells #[.pointer (some ⟨t,0,none⟩),.int .i64 (s:Nat),v] 115 (0,0))∧OwnI w 0 v hand∧hand=(A.drop s).take hand.length∧∀ g,v.ownBlock=some g→H g
 tz:Tz enc w t A
theorem Rdr.typ {enc:Int} {A:List Int} {w:World} {r t s:Nat} {H:Nat→Prop} (h:Rdr enc A w r t s H):Typ 115 w r:=by obtain ⟨_,_,h1,_⟩:=h.ex;exact ⟨_,h1⟩
theorem Rdr.ext {enc:Int} {A:List Int} {w w':World} {r t s:Nat} {H:Nat→Prop} (h:Rdr enc A w r t s H) (hb:Below w.heap.size w w'):Rdr enc A w' r t s H:=by
 obtain ⟨v,hand,h1,h2,h3⟩:=h.ex
 exact ⟨⟨v,hand,(hb.block r (Array.getElem?_eq_some_iff.1 h1).1).trans h1,h2.ext hb,h3⟩,h.tz.ext hb⟩
def aB (A:List Int) (p:Nat):Bool:=(A[p]?).isSome
end Go.Proofs.YtjomfbegghgbdaaGreat.P

namespace Go.Proofs.YtjomfbegghgbdaaGreat.P
open Go.RowKit
end Go.Proofs.YtjomfbegghgbdaaGreat.P

namespace Go.Proofs.YtjomfbegghgbdaaGreat.P
open Go.RowKit Go.Shelf
attribute [local go_sem] Oper.semAt_some
def alF (enc:Int) (A:List Int) (m:Nat):List (Nat × Ln):=(List.range m).map fun k=>(k,lnK enc A (k:Nat))
def al (enc:Int) (A:List Int):List (Nat × Ln):=alF enc A (cnt enc A).toNat
theorem alF_succ (enc:Int) (A:List Int) (m:Nat):alF enc A (m + 1)=alF enc A m ++ [(m,lnK enc A (m:Nat))]:=by simp [alF,List.range_succ]
theorem ownI_same {w w':World} {base:Nat} {v:Value} {zs:List Int} (h:OwnI w base v zs) (hs:∀ g,v.ownBlock=some g→w'.heap[g]?=w.heap[g]?):OwnI w' base v zs:=by
 refine ⟨h.1,?_⟩
 rcases h.2 with h2 | ⟨g,cap,cur,rfl,h0,hc,r⟩
 ·exact .inl h2
 ·exact .inr ⟨g,cap,cur,rfl,h0,(hs g rfl).trans hc,r⟩
theorem ownI_lt {w:World} {base:Nat} {v:Value} {zs:List Int} (h:OwnI w base v zs) {g:Nat} (hg:v.ownBlock=some g):g < w.heap.size:=by
 rcases h.2 with ⟨rfl,_⟩ | ⟨g',cap,cur,rfl,h0,hc,_⟩
 ·cases hg
 ·cases hg
  exact (Array.getElem?_eq_some_iff.1 hc).1
theorem Rdr.yielded {enc:Int} {A:List Int} {w w':World} {r t s:Nat} {own own':Nat→Prop} (h:Rdr enc A w r t s (fun g=>¬ own g)) (hr:¬ own r) (hk:Kps own w w') (hn:∀ k,own' k→own k∨w.heap.size≤k) (ht:Tz enc w' t A):Rdr enc A w' r t s (fun g=>¬ own' g):=by
 obtain ⟨v,hand,h1,h2,h3,h4⟩:=h.ex
 refine ⟨⟨v,hand,(hk.same r (Array.getElem?_eq_some_iff.1 h1).1 hr).trans h1,ownI_same h2 (fun g hg=>hk.same g (ownI_lt h2 hg) (h4 g hg)),h3,fun g hg e=>?_⟩,ht⟩
 rcases hn g e with e | e
 ·exact h4 g hg e
 ·have:=ownI_lt h2 hg
  omega
end Go.Proofs.YtjomfbegghgbdaaGreat.P

namespace Go.Proofs.YtjomfbegghgbdaaGreat.P
open Go.RowKit Go.Shelf
attribute [local go_sem] Oper.semAt_some
def kC (l:List (Nat × Ln)) (b:Int):Nat:=l.countP fun p=>p.2.b == b
theorem kC_snoc (l:List (Nat × Ln)) (x:Nat × Ln) (b:Int):kC (l ++ [x]) b=kC l b + if x.2.b=b then 1 else 0:=by
 unfold kC
 rw [List.countP_append,List.countP_singleton]
 simp only [beq_iff_eq]
end Go.Proofs.YtjomfbegghgbdaaGreat.P

namespace Go.Proofs.YtjomfbegghgbdaaGreat.P
open Go.RowKit
section
variable {enc:Int} {A:List Int} {p:Nat} (hp:p≤A.length)
include hp
end
end Go.Proofs.YtjomfbegghgbdaaGreat.P

namespace Go.Proofs.YtjomfbegghgbdaaGreat.P
open Go.RowKit
def gb (c:Bool):List Int→Int
 | []=>0
 | x :: r=>(if x=13∨(x=10∧c=false) then 1 else 0) + gb (decide (x=13)) r
end Go.Proofs.YtjomfbegghgbdaaGreat.P
