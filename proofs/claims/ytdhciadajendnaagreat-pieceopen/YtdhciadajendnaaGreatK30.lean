import Derived.Test.YtdhciadajendnaaGreatK26
import Derived.Test.YtdhciadajendnaaGreatK07
import Derived.RegionIn
import Derived.ControlIn
set_option maxRecDepth 100000
namespace Go.Proofs.YtdhciadajendnaaGreat.P
open Go.RowKit Go.Shelf
attribute [local go_sem] Oper.semAt_some
def ByR (zs:List Int) (w:World) (e:Ending) (w':World):Prop:=∃ b,e=.returned (.slice (some ⟨b,0,none⟩) zs.length zs.length)∧RwU w' b 0 zs∧w.heap.size≤b∧Below w.heap.size w w'
structure IB (enc:Int) (ps:List PG) (cl:List Value) (n:Nat) (w w1 w2:World) (pre:List It) (W:World):Prop where
 pr:pre=xsOf (ps.take pre.length)
 row:W.heap[w1.heap.size]?=some (.cells ((Cx.encB enc (asOf (ps.take pre.length))).map (Value.int .u8) ++ cl.drop (ln enc (asOf (ps.take pre.length)))).toArray 5 (0,0))
 out:W.heap[w2.heap.size]?=some (.cells #[.slice (some ⟨w1.heap.size,0,none⟩) n n] 22 (0,0))
 at':W.heap[w2.heap.size + 1]?=some (.cells #[.int .i64 (ln enc (asOf (ps.take pre.length)):Nat)] 3 (0,0))
 old:∀ k,Typ 5 w k→W.heap[k]?=w.heap[k]?
theorem IB.lt1 {enc:Int} {ps:List PG} {cl:List Value} {n:Nat} {w w1 w2:World} {pre:List It} {W:World} (h:IB enc ps cl n w w1 w2 pre W):w1.heap.size < W.heap.size:=(Array.getElem?_eq_some_iff.1 h.row).1
theorem IB.lt2 {enc:Int} {ps:List PG} {cl:List Value} {n:Nat} {w w1 w2:World} {pre:List It} {W:World} (h:IB enc ps cl n w w1 w2 pre W):w2.heap.size < W.heap.size:=(Array.getElem?_eq_some_iff.1 h.out).1
theorem IB.lt3 {enc:Int} {ps:List PG} {cl:List Value} {n:Nat} {w w1 w2:World} {pre:List It} {W:World} (h:IB enc ps cl n w w1 w2 pre W):w2.heap.size + 1 < W.heap.size:=(Array.getElem?_eq_some_iff.1 h.at').1
theorem IB.same {enc:Int} {ps:List PG} {cl:List Value} {n:Nat} {w w1 w2:World} {pre:List It} {W W':World} (h:IB enc ps cl n w w1 w2 pre W) (h1:W'.heap[w1.heap.size]?=W.heap[w1.heap.size]?) (h2:W'.heap[w2.heap.size]?=W.heap[w2.heap.size]?) (h3:W'.heap[w2.heap.size + 1]?=W.heap[w2.heap.size + 1]?) (h4:∀ k,Typ 5 w k→W'.heap[k]?=W.heap[k]?):IB enc ps cl n w w1 w2 pre W' :=
 ⟨h.pr,by rw [h1];exact h.row,by rw [h2];exact h.out,by rw [h3];exact h.at',fun k hk=>(h4 k hk).trans (h.old k hk)⟩
theorem step_copy_kps {P:Program} {ops:Array Oper} {o:Oper} {a:Act} {w:World} {K:Act→World→Prop} {Q:Exit→Act→World→Prop} {E:Prop} (hgd:o.guard=none) (d s:Operand) (dT sT:TypeId)
  (ho:o.op=.call { callee:=.builtin .copy,args:=#[d,s],argTypes:=#[dT,sT] }) (elem:TypeId) (hu:P.underlying dT=some (.slice elem)) (hsz:(P.info? elem).map (·.size)=some 1)
  (dp sp:Option Addr) (dLen dCap sLen sCap:Nat) (hd:a.eval d=.slice dp dLen dCap) (hs:a.eval s=.slice sp sLen sCap)
  (g off:Nat) (cur:List Value) (t:TypeId) (hg:w.heap[g]?=some (.cells cur.toArray t (0,0))) (cs:List Value) (hn:cs.length=Nat.min sLen dLen)
  (hpos:0 < cs.length→dp=some ⟨g,off,none⟩∧∃ ad,sp=some ad∧∀ j v,cs[j]?=some v→w.cell? (ad.add j)=some v)
  (hfit:off + cs.length≤cur.length) (h1:∀ v ∈ cs,v.oneCell'=true)
  (h:∀ w',Hid (w'.heap[g]?=some (.cells (splice cur off cs).toArray t (0,0)))→Hid (Kps (fun k=>k=g) w w')→K (a.put o.dst (goInt cs.length)) w') :
  if Region.wanted o (yielded ops a.tmps)=true then Oper.wp P o a w K Q else E:=by
 have hw:Region.wanted o (yielded ops a.tmps)=true:=by simp [Region.wanted,hgd]
 rw [if_pos hw]
 by_cases h0:cs.length=0
 ·obtain rfl:cs=[]:=List.eq_nil_of_length_eq_zero h0
  have hrun:=run_copy_none (P:=P) w dT sT o.type elem dp sp dLen dCap sLen sCap hu hsz (by simpa using hn.symm)
  unfold Oper.wp
  simp [execOp,ho,resolve,invoke,builtin,hd,hs,hrun,Result.andThen]
  exact h w (show _=_ by simpa [splice] using hg) (Kps.refl _ _)
 ·obtain ⟨rfl,ad,rfl,hsrc⟩:=hpos (by omega)
  have hrun:=run_copy_row (P:=P) w dT sT o.type elem g off dLen dCap ad sLen sCap cur.toArray t cs hu hsz hg hn hsrc (by simpa using hfit) h1
  unfold Oper.wp
  simp [execOp,ho,resolve,invoke,builtin,hd,hs,hrun,Result.andThen]
  exact h _ (show _=_ by simpa [splice] using setRow_heap w g _ _ t _ hg) ⟨rfl,rfl,rfl,by simp [World.setRow],fun k _ hk=>setRow_other w g k _ (fun e=>hk e)⟩
theorem IB.step {enc:Int} {ps:List PG} {cl:List Value} {n:Nat} {w w1 w2:World} {pre:List It} {W W':World} {x:It} {gx:List Int} {k m:Nat} (h:IB enc ps cl n w w1 w2 pre W) (hg:ps[pre.length]?=some (x,gx)) (hk:k=ln enc (asOf (ps.take pre.length))) (hm:m=ln enc gx)
  (h1:W'.heap[w1.heap.size]?=some (.cells (splice ((Cx.encB enc (asOf (ps.take pre.length))).map (Value.int .u8) ++ cl.drop k) k ((Cx.encB enc gx).map (Value.int .u8))).toArray 5 (0,0))) (h2:W'.heap[w2.heap.size]?=W.heap[w2.heap.size]?) (h3:W'.heap[w2.heap.size + 1]?=some (.cells #[.int .i64 ((k + m:Nat):Int)] 3 (0,0))) (h4:∀ b,Typ 5 w b→W'.heap[b]?=W.heap[b]?) :
  IB enc ps cl n w w1 w2 (pre ++ [x]) W':=by
 have etk:asOf (ps.take (pre.length + 1))=asOf (ps.take pre.length) ++ gx:=by rw [List.take_add_one,hg,Option.toList_some,asOf_app];simp [asOf]
 have el:(pre ++ [x]).length=pre.length + 1:=by simp
 refine ⟨?_,?_,by rw [h2];exact h.out,?_,fun b hb=>(h4 b hb).trans (h.old b hb)⟩
 ·rw [el,List.take_add_one,hg,Option.toList_some,xsOf_app,← h.pr];rfl
 ·rw [h1,el,etk]
  congr 2
  have ek:((Cx.encB enc (asOf (ps.take pre.length))).map (Value.int .u8)).length=k:=by rw [List.length_map,hk];rfl
  have em:((Cx.encB enc gx).map (Value.int .u8)).length=m:=by rw [List.length_map,hm];rfl
  unfold splice
  rw [List.take_left' ek,em,← ek,List.drop_append,List.drop_eq_nil_of_le (by omega),List.nil_append,ek,Nat.add_sub_cancel_left,List.drop_drop,Cx.encB_app,List.map_append,List.append_assoc,ln_app,← hk,← hm]
 ·rw [h3,el,etk,ln_app,← hk,← hm]
set_option maxHeartbeats 4000000 in
theorem Bytes_any (enc lim:Int) (L:List Int) (w:World) (t:Nat) (ps:List PG) (h:Tx enc lim L w t ps):Calls Tryz.prog 23 #[.pointer (some ⟨t,0,none⟩)] w fun e w'=>ByR (Cx.encB enc (asOf ps)) w e w':=by
 obtain ⟨i0,hi,hz0,hz1,hz2⟩:=info_parts Tryz.info_u8
 have SZ:=zh (tSize_any enc lim L w t ps h)
 obtain ⟨n,hn⟩:∃ n,n=ln enc (asOf ps):=⟨_,rfl⟩
 have hsz:=h.sz
 rw [← hn] at SZ hsz
 have HT:=zh h
 have HN:=zh hn
 clear h hn
 refine (callsIn_wide (n:=9)).1 ?_
 refine callsIn_of_wp_marks Tryz.func23 rfl trivial ?_ rfl
 simp only [Tryz.ntmps23,List.size_toArray,List.length_cons,List.length_nil,Nat.reduceAdd,Nat.reduceSub,Array.replicate_succ,Array.replicate_zero,List.push_toArray,List.append_toArray,List.nil_append,List.cons_append]
 refine wpIn_wide.2 ?_
 go_upto_region 3 with (first
  | (go_at_call 43;refine SZ.out.mono ?_;rintro e w1 ⟨rfl,hb1⟩;have HB1:=zh hb1;clear hb1;(try dsimp only))
  | (refine wpList_make_full w1 rfl _ _ 22 rfl w1.heap.size 5 i0 (.int .u8 0) 1 Tryz.underlying22 hi hz0 hz1 .i64 .i64 _ _ n rfl rfl rfl rfl (by rw [hz2];omega) (by unfold maxLen;omega) (Nat.le_refl _) ?_;intro w2 hO hg;have HO:=zh hO;have HG:=zh hg;clear hO hg))
 obtain ⟨e1,hh⟩:=HO.out
 rcases hh with ⟨hv,_⟩ | ⟨g1,cp,cur,hv,_,hcur,hcp1,hcp2,hcs,htk⟩
 ·cases hv
 simp only [Value.slice.injEq,Option.some.injEq,Addr.mk.injEq] at hv
 obtain ⟨⟨hg0,_,_⟩,_,hcp⟩:=hv
 subst hg0
 subst hcp
 have hlen:cur.toList.length=n:=by rw [Array.length_toList,hcs,Nat.mul_one]
 have HB2:=zh (Below.grown (Below.refl w1.heap.size w1) HG.out (Nat.le_refl _) (fun k e=>by cases e))
 have HCUR:=zh (show w2.heap[w1.heap.size]?=some (.cells cur.toList.toArray 5 (0,0)) from hcur)
 have hw12:w1.heap.size < w2.heap.size:=(Array.getElem?_eq_some_iff.1 hcur).1
 generalize cur.toList=cl at *
 clear htk e1 hcur HO HG hcs
 obtain ⟨w3,hw3,k3,k4,hb3,hs3⟩:∃ w3,w3=(w2.alloc (.cells #[.slice (some ⟨w1.heap.size,0,none⟩) n n] 22)).alloc (.cells #[.int .i64 0] 3)∧w3.heap[w2.heap.size]?=some (.cells #[.slice (some ⟨w1.heap.size,0,none⟩) n n] 22 (0,0))∧w3.heap[w2.heap.size + 1]?=some (.cells #[.int .i64 0] 3 (0,0))∧Below w2.heap.size w2 w3∧w3.heap.size=w2.heap.size + 2:=by
  refine ⟨_,rfl,?_,?_,zxa (zxa (Below.refl _ _) _) _,by simp⟩
  ·exact (Below.heap_alloc _ _ _ (by simp)).trans (heap_alloc_new _ _)
  ·have e:w2.heap.size + 1=(w2.alloc (.cells #[.slice (some ⟨w1.heap.size,0,none⟩) n n] 22)).heap.size:=by simp
   rw [e]
   exact heap_alloc_new _ _
 have HB3:=zh (zxt (zxt HB1.out HB2.out) hb3)
 obtain ⟨lv,u,⟨_,_,_,c3w⟩,_,htt,htl⟩:=HT.out.cells
 have c3:w3.cell? ⟨t,3,none⟩=some (.pointer u):=(HB3.out.cell (p:=⟨t,3,none⟩) htl).trans c3w
 have IT:=zh (Items_any u 0 0 w3 (by omega))
 obtain ⟨u',tr,hu,htin,hlst,_⟩:=htt
 simp only [Value.agg.injEq,Array.mk.injEq,List.cons.injEq,Value.pointer.injEq,and_true] at hu
 subst hu
 have HTI:=zh htin
 have HLS:=zh hlst
 clear htin hlst
 rw [← hw3]
 clear hw3
 go_upto_block 0 with (go_at_call 38;refine IT.out.mono ?_;rintro e w4 ⟨rfl,hw4⟩;have HW4:=zh hw4;clear hw4;(try dsimp only))
 refine (wpIn_wide (n:=9)).1 ?_
 have hw4s:w4.heap.size=w3.heap.size + 2:=by rw [HW4.out];simp
 have HB4:Hid (Below w3.heap.size w3 w4):=by unfold Hid;rw [HW4.out];exact zxa (zxa (Below.refl _ _) _) _
 have hA4:w4.heap[w3.heap.size]?=some (.cells #[.pointer u] 90 (0,0)):=by
  rw [HW4.out]
  exact (Below.heap_alloc _ _ _ (by simp)).trans (heap_alloc_new _ _)
 have hB4:w4.heap[w3.heap.size + 1]?=some (.cells #[.int .i64 (0:Nat)] 3 (0,0)):=by
  rw [HW4.out]
  have e:w3.heap.size + 1=(w3.alloc (.cells #[.pointer u] 90)).heap.size:=by simp
  rw [e]
  exact heap_alloc_new _ _
 have HB4w:=zh (zxt HB3.out HB4.out)
 have SQ:=zh (items_stops 8 tr u 0 w4 w3.heap.size (w3.heap.size + 1) w.heap.size HB4w.out.size (by omega) (by omega) w rfl HB4w.out HTI.out (by rw [HLS.out,xsOf_len];have:=HT.out.pc.len;have:=ln_ge enc (asOf ps);have:=HN.out;omega) (by omega) hA4 hB4)
 have z1:=HB1.out.size
 have z3:=HB3.out.size
 gi_wp2_with fail
 refine range_x (σ:=Unit) rfl (by omega) (gf:=66) (lb:=#[.pointer (some ⟨w3.heap.size,0,none⟩),.pointer (some ⟨w3.heap.size + 1,0,none⟩)]) rfl trivial (enters_of Tryz.func66 (by kernel_rfl) rfl) SQ.out (Kps.refl _ _) (fun _=>rfl)
  (fun _ k=>k=w1.heap.size∨k=w2.heap.size∨k=w2.heap.size + 1)
  (fun _ pre W=>IB enc ps cl n w w1 w2 pre W) (fun _ _ _ _=>False) () ?rel (fun k=>Typ 5 w k) (fun k hk=>Nat.lt_of_lt_of_le hk.lt HB4w.out.size) ?hI (fun _ _ _ _ _ h _ _=>h) ?hlv ?h0
  (fun x a' W=>∃ g5,w4.heap.size + 2≤g5∧BlkI W g5 x∧a'={ tmps:=#[.pointer (some ⟨t,0,none⟩),undef,.slice none 0 0,.pointer (some ⟨w2.heap.size,0,none⟩),.pointer (some ⟨w2.heap.size + 1,0,none⟩),.pointer (some ⟨g5,0,none⟩),.pointer (some ⟨t,0,none⟩),.int .i64 n,.slice (some ⟨w1.heap.size,0,none⟩) n n,.pointer (some ⟨t,0,none⟩),.pointer (some ⟨t,0,none⟩),.pointer (some ⟨t,3,none⟩),.agg #[.pointer u],.func (.func 66) #[] #[.pointer (some ⟨w3.heap.size,0,none⟩),.pointer (some ⟨w3.heap.size + 1,0,none⟩)],.agg #[.slice x.p x.n x.c,.int .i64 x.pl,.int .i64 x.sp.a,.int .i64 x.sp.s,.int .i64 x.sp.b,.bool x.sp.lf,.bool x.sp.cr],undef,undef,undef,undef,undef,undef,undef,undef,undef],defers:=[] }) ?hAx ?assign ?body ?done ?stop
 case rel =>
  intro k hk
  rcases hk with hk | rfl | rfl
  ·refine ⟨by omega,?_⟩
   rintro (e | e | e) <;> omega
  ·refine ⟨by omega,?_⟩
   rintro (e | e | e) <;> omega
  ·refine ⟨by omega,?_⟩
   rintro (e | e | e) <;> omega
 case hI=>intro s pre W W' h _ hk;exact h.same (hk _ (.inl (.inl rfl))) (hk _ (.inl (.inr (.inl rfl)))) (hk _ (.inl (.inr (.inr rfl)))) (fun k hq=>hk k (.inr hq))
 case hlv =>
  intro s pre W h k hk
  rcases hk with rfl | rfl | rfl
  ·exact h.lt1
  ·exact h.lt2
  ·exact h.lt3
 case h0 =>
  refine ⟨rfl,?_,(HB4.out.block _ (by omega)).trans k3,(HB4.out.block _ (by omega)).trans k4,fun k hk=>HB4w.out.block k hk.lt⟩
  show w4.heap[w1.heap.size]?=some (.cells (cl.drop 0).toArray _ _)
  rw [List.drop_zero]
  exact (HB4.out.block _ (by omega)).trans ((hb3.block _ hw12).trans HCUR.out)
 case hAx =>
  rintro x a' W W' ⟨g5,h1,h2,h3⟩ hz hk
  exact ⟨g5,h1,h2.same9 (hk g5 h1 h2.lt),h3⟩
 case assign =>
  intro l x W K hz hK
  gi_wp2_with fail
  exact hK _ _ (zxa (Below.refl _ _) _) ⟨W.heap.size,hz,heap_alloc_new _ _,by rw [hs3]⟩
 case body =>
  rintro l s pre x a' W hI ⟨g5,hg5,hx5,rfl⟩ hSp hzW
  refine wpIn_block ?_
  obtain ⟨z,hz⟩:=hSp
  rw [List.drop_zero,HLS.out] at hz
  have hxj:∃ gx,ps[pre.length]?=some (x,gx):=by
   have e:=congrArg (fun q=>q[pre.length]?) hz
   rw [List.append_assoc,List.getElem?_append_right (Nat.le_refl _),Nat.sub_self] at e
   simp only [List.cons_append,List.getElem?_cons_zero,xsOf,List.getElem?_map] at e
   cases hp:ps[pre.length]? with
   | none=>rw [hp] at e;cases e
   | some q=>rw [hp] at e;simp only [Option.map_some,Option.some.injEq] at e;exact ⟨q.2,by rw [e]⟩
  obtain ⟨gx,hgx⟩:=hxj
  have hpc:=(HT.out.pc (x,gx) (List.mem_of_getElem? hgx)).same hI.old
  have etk:asOf (ps.take (pre.length + 1))=asOf (ps.take pre.length) ++ gx:=by rw [List.take_add_one,hgx,Option.toList_some,asOf_app];simp [asOf]
  obtain ⟨k,hk⟩:∃ k,k=ln enc (asOf (ps.take pre.length)):=⟨_,rfl⟩
  obtain ⟨m,hm⟩:∃ m,m=ln enc gx:=⟨_,rfl⟩
  have hkm:k + m≤n:=by
   have e1:asOf ps=asOf (ps.take (pre.length + 1)) ++ asOf (ps.drop (pre.length + 1)):=by rw [← asOf_app,List.take_append_drop]
   have e2:=HN.out
   rw [e1,ln_app,etk,ln_app,← hk,← hm] at e2
   omega
  have hm1:0 < m:=by rw [hm];exact hpc.gr.lpos
  have hkn:k < n:=by omega
  have hkn':¬ k=n:=by omega
  have hkn2:k≤n:=by omega
  have hkn3:¬ n=k:=by omega
  have HWR:=zh (show IntKind.i64.wrap ((k:Int) + (m:Int))=((k + m:Nat):Int) by rw [IntKind.wrap_i64];omega)
  obtain ⟨zx,hzx⟩:∃ zx,zx=(Cx.encB enc gx).map (Value.int .u8):=⟨_,rfl⟩
  obtain ⟨RL,hRL⟩:∃ RL,RL=(Cx.encB enc (asOf (ps.take pre.length))).map (Value.int .u8) ++ cl.drop k:=⟨_,rfl⟩
  have HROW:=zh (show W.heap[w1.heap.size]?=some (.cells RL.toArray 5 (0,0)) by rw [hRL,hk];exact hI.row)
  have hRl:RL.length=n:=by rw [hRL,List.length_append,List.length_map,List.length_drop,hlen];show ln enc _ + _=_;rw [← hk];omega
  have HLX:=zh (show zx.length=m by rw [hzx,List.length_map,hm];rfl)
  have HFT:=zh (show k + zx.length≤RL.length by rw [HLX.out,hRl];exact hkm)
  have h1x:Hid (∀ v ∈ zx,v.oneCell'=true):=by unfold Hid;rw [hzx];intro v hv;rw [List.mem_map] at hv;obtain ⟨_,_,rfl⟩:=hv;rfl
  obtain ⟨ax,pax,srx⟩:=hpc.src
  have HSX:=zh (show ∃ ad,x.p=some ad∧∀ j v,zx[j]?=some v→W.drew.cell? (ad.add j)=some v from ⟨ax,pax,fun j v hv=>srx W.drew (Below.drew (Below.refl _ _)) j v (by rw [← hzx];exact hv)⟩)
  have hat:W.heap[w2.heap.size + 1]?=some (.cells #[.int .i64 (k:Nat)] 3 (0,0)):=by rw [hk];exact hI.at'
  have ca:W.cell? ⟨w2.heap.size + 1,0,none⟩=some (.int .i64 k):=by rw [cell_of_row W _ _ _ _ _ hat];rfl
  have s0:W.cell? ⟨w2.heap.size,0,none⟩=some (.slice (some ⟨w1.heap.size,0,none⟩) n n)∧W.cell? ⟨g5,0,none⟩=some (.slice x.p m m):=by
   refine ⟨by rw [cell_of_row W _ _ _ _ _ hI.out];rfl,?_⟩
   have:=hx5.cells.1.1
   rwa [show x.n=m from hpc.xn.trans hm.symm,show x.c=m from hpc.xc.trans hm.symm] at this
  have HW7:Hid (∀ w7,Kps (fun k=>k=w1.heap.size) W.drew w7→(w7.cell? ⟨w2.heap.size,0,none⟩=some (.slice (some ⟨w1.heap.size,0,none⟩) n n)∧w7.cell? ⟨g5,0,none⟩=some (.slice x.p m m))∧w7.cell? ⟨w2.heap.size + 1,0,none⟩=some (.int .i64 k)∧(∀ i,w7.frozen? ⟨w2.heap.size + 1,i,none⟩=false)∧w7.heap[w2.heap.size + 1]?=some (.cells #[.int .i64 (k:Nat)] 3 (0,0))):=fun w7 h7=>by
   have e:∀ b,b < W.heap.size→b≠w1.heap.size→w7.heap[b]?=W.heap[b]?:=fun b hb hn=>h7.same b hb hn
   have l5:=hx5.lt
   have e1:=(e _ hI.lt3 (by omega)).trans hat
   refine ⟨⟨by rw [cell_same (e _ hI.lt2 (by omega))];exact s0.1,by rw [cell_same (e g5 l5 (by omega))];exact s0.2⟩,by rw [cell_same (e _ hI.lt3 (by omega))];exact ca,fun i=>by simp [World.frozen?,e1],e1⟩
  have HST:Hid (∀ w7 w8,Kps (fun k=>k=w1.heap.size) W.drew w7→w7.heap[w1.heap.size]?=some (.cells (splice RL k zx).toArray 5 (0,0))→w8=w7.setCell ⟨w2.heap.size + 1,0,none⟩ (.int .i64 ((k + m:Nat):Int))→(w8.cell? ⟨w2.heap.size,0,none⟩=some (.slice (some ⟨w1.heap.size,0,none⟩) n n)∧w8.cell? ⟨g5,0,none⟩=some (.slice x.p m m))∧IB enc ps cl n w w1 w2 (pre ++ [x]) w8∧Kps (fun k=>k=w1.heap.size∨k=w2.heap.size∨k=w2.heap.size + 1) W w8):=fun w7 w8 h7 hr7 hw8=>by
   obtain ⟨⟨d1,d2⟩,d3,_,d5⟩:=HW7.out w7 h7
   obtain ⟨p1,p2⟩:=set1 d5 0 (.int .i64 ((k + m:Nat):Int))
   rw [← hw8] at p1 p2
   have l5:=hx5.lt
   have z7:=h7.size
   have z7':W.heap.size≤w7.heap.size:=z7
   have e:∀ b,b < w7.heap.size→b≠w2.heap.size + 1→w8.heap[b]?=w7.heap[b]?:=fun b hb hn=>p2.block b hb (by simpa using hn)
   have lt1:=hI.lt1;have lt2:=hI.lt2;have lt3:=hI.lt3
   have ew:∀ b,b < W.heap.size→b≠w1.heap.size→b≠w2.heap.size + 1→w8.heap[b]?=W.heap[b]?:=fun b hb hn hn2=>(e b (by omega) hn2).trans (h7.same b hb hn)
   refine ⟨⟨by rw [cell_same (e _ (by omega) (by omega))];exact d1,by rw [cell_same (e g5 (by omega) (by omega))];exact d2⟩,hI.step hgx hk hm ?_ (ew _ lt2 (by omega) (by omega)) ?_ (fun b hb=>?_),?_⟩
   ·rw [← hzx,← hRL];exact (e _ (by omega) (by omega)).trans hr7
   ·exact p1
   ·have:=hb.lt
    exact ew b (by omega) (by omega) (by omega)
   ·refine ⟨?_,?_,?_,by have:=p2.size;omega,fun b hb ho=>ew b hb (fun e=>ho (.inl e)) (fun e=>ho (.inr (.inr e)))⟩
    ·exact p2.os.trans h7.os
    ·exact p2.tape.trans h7.tape
    ·exact p2.output.trans h7.output
  clear hpc etk hzx hRL srx pax hRl hat hx5 hI hk hm
  refine wpIn_held (S:=fun w''=>w''.cell? ⟨w2.heap.size,0,none⟩=some (.slice (some ⟨w1.heap.size,0,none⟩) n n)∧w''.cell? ⟨g5,0,none⟩=some (.slice x.p m m)) (fun _=>trivial) ?quiet (fun ⟨a,w,h⟩=>h) (by kernel_rfl) ?hS (fun hHeld=>?hgo)
  case quiet =>
   intro i o h
   rcases i with _ | _ | _ | _ | _ | _ | _ | _ | _ | i
   all_goals
    first
     | (obtain rfl:=Option.some.inj h;first | exact quiet_val (fun c hc=>by cases hc) _ (fun ρ=>rfl) | exact quiet_unit (fun c hc=>by cases hc) _ (fun ρ=>rfl))
     | (simp at h)
  case hS=>rw [World.cell?_drew,World.cell?_drew];exact s0
  case hgo =>
   refine tkH 1 rfl ?_
   refine tkH 4 rfl ?_
   refine tkH 5 rfl ?_
   refine wpAnyH_ready (rs:=[0,2]) (by kernel_rfl) (by simp) ?_
   refine (AllReadyH.cons (o:=_) rfl (fun K hK=>?_) (AllReadyH.cons (o:=_) rfl (fun K hK=>?_) AllReadyH.nil))
   ·skip
    go_simp
    refine hK.out _ _ ?_ (fun hHeld=>?_)
    ·(try simp only [World.cell?_drew]);exact s0
    clear hK K
    try simp only [Act.put,tS]
    refine rdH 2 rfl fun K hK=>?_
    go_simp
    refine hK.out _ _ ?_ (fun hHeld=>?_)
    ·(try simp only [World.cell?_drew]);exact s0
    clear hK K
    try simp only [Act.put,tS]
    refine tkH 3 rfl ?_
    refine rdH 6 rfl fun K hK=>?_
    refine step_copy_kps rfl (.tmp 18) (.tmp 20) 22 22 rfl 5 Tryz.underlying22 (by rw [hi];simp [hz1]) _ _ _ _ _ _ (by rfl) (by rfl) w1.heap.size k RL 5 HROW.out zx (by rw [HLX.out];first | exact (Nat.min_eq_left (by omega)).symm | (show m=min m _;omega)) (fun _=>⟨by simp,HSX.out⟩) HFT.out h1x.out ?_;intro w7 hE h7;have HE7:=zh hE.out;have H7:=zh h7.out;clear hE h7;rw [HLX.out];obtain ⟨s7,ca7,cf7,_⟩:=HW7.out w7 H7.out;change K (Act.put _ (some 21) _) w7
    refine hK.out _ _ ?_ (fun hHeld=>?_)
    ·exact s7
    clear hK K
    try simp only [Act.put,tS]
    refine tkH 7 rfl ?_
    refine rdH 8 rfl fun K hK=>?_
    go_simp
    generalize hwN:World.setCell _ _ _=w8;obtain ⟨s8,hi8,hk8⟩:=HST.out w7 w8 H7.out HE7.out (hwN.symm.trans (by rw [HWR.out]));have HI8:=zh hi8;have HK8:=zh hk8;clear hi8 hk8 hwN
    refine hK.out _ _ ?_ (fun hHeld=>?_)
    ·exact s8
    clear hK K
    try simp only [Act.put,tS]
    refine dnH ?_
    exact ⟨(),HI8.out,HK8.out,fun k hk=>.inl hk⟩
   ·skip
    go_simp
    refine hK.out _ _ ?_ (fun hHeld=>?_)
    ·(try simp only [World.cell?_drew]);exact s0
    clear hK K
    try simp only [Act.put,tS]
    refine tkH 3 rfl ?_
    refine wpAnyH_ready (rs:=[0,6]) (by kernel_rfl) (by simp) ?_
    refine (AllReadyH.cons (o:=_) rfl (fun K hK=>?_) (AllReadyH.cons (o:=_) rfl (fun K hK=>?_) AllReadyH.nil))
    ·skip
     go_simp
     refine hK.out _ _ ?_ (fun hHeld=>?_)
     ·(try simp only [World.cell?_drew]);exact s0
     clear hK K
     try simp only [Act.put,tS]
     refine rdH 6 rfl fun K hK=>?_
     refine step_copy_kps rfl (.tmp 18) (.tmp 20) 22 22 rfl 5 Tryz.underlying22 (by rw [hi];simp [hz1]) _ _ _ _ _ _ (by rfl) (by rfl) w1.heap.size k RL 5 HROW.out zx (by rw [HLX.out];first | exact (Nat.min_eq_left (by omega)).symm | (show m=min m _;omega)) (fun _=>⟨by simp,HSX.out⟩) HFT.out h1x.out ?_;intro w7 hE h7;have HE7:=zh hE.out;have H7:=zh h7.out;clear hE h7;rw [HLX.out];obtain ⟨s7,ca7,cf7,_⟩:=HW7.out w7 H7.out;change K (Act.put _ (some 21) _) w7
     refine hK.out _ _ ?_ (fun hHeld=>?_)
     ·exact s7
     clear hK K
     try simp only [Act.put,tS]
     refine tkH 7 rfl ?_
     refine rdH 8 rfl fun K hK=>?_
     go_simp
     generalize hwN:World.setCell _ _ _=w8;obtain ⟨s8,hi8,hk8⟩:=HST.out w7 w8 H7.out HE7.out (hwN.symm.trans (by rw [HWR.out]));have HI8:=zh hi8;have HK8:=zh hk8;clear hi8 hk8 hwN
     refine hK.out _ _ ?_ (fun hHeld=>?_)
     ·exact s8
     clear hK K
     try simp only [Act.put,tS]
     refine dnH ?_
     exact ⟨(),HI8.out,HK8.out,fun k hk=>.inl hk⟩
    ·skip
     refine step_copy_kps rfl (.tmp 18) (.tmp 20) 22 22 rfl 5 Tryz.underlying22 (by rw [hi];simp [hz1]) _ _ _ _ _ _ (by rfl) (by rfl) w1.heap.size k RL 5 HROW.out zx (by rw [HLX.out];first | exact (Nat.min_eq_left (by omega)).symm | (show m=min m _;omega)) (fun _=>⟨by simp,HSX.out⟩) HFT.out h1x.out ?_;intro w7 hE h7;have HE7:=zh hE.out;have H7:=zh h7.out;clear hE h7;rw [HLX.out];obtain ⟨s7,ca7,cf7,_⟩:=HW7.out w7 H7.out;change K (Act.put _ (some 21) _) w7
     refine hK.out _ _ ?_ (fun hHeld=>?_)
     ·exact s7
     clear hK K
     try simp only [Act.put,tS]
     refine rdH 0 rfl fun K hK=>?_
     go_simp
     refine hK.out _ _ ?_ (fun hHeld=>?_)
     ·(try simp only [World.cell?_drew]);exact s7
     clear hK K
     try simp only [Act.put,tS]
     refine tkH 7 rfl ?_
     refine rdH 8 rfl fun K hK=>?_
     go_simp
     generalize hwN:World.setCell _ _ _=w8;obtain ⟨s8,hi8,hk8⟩:=HST.out w7 w8 H7.out HE7.out (hwN.symm.trans (by rw [HWR.out]));have HI8:=zh hi8;have HK8:=zh hk8;clear hi8 hk8 hwN
     refine hK.out _ _ ?_ (fun hHeld=>?_)
     ·exact s8
     clear hK K
     try simp only [Act.put,tS]
     refine dnH ?_
     exact ⟨(),HI8.out,HK8.out,fun k hk=>.inl hk⟩
 case done =>
  intro s xs W hk hnw hS hI hdf hno
  have hxl:xs.length=ps.length:=by rw [hS,List.drop_zero,HLS.out,xsOf_len]
  have hrow:=hI.row
  rw [hxl,List.take_length,List.drop_eq_nil_of_le (by rw [hlen];have:=HN.out;omega),List.append_nil] at hrow
  have hob:W.cell? ⟨w2.heap.size,0,none⟩=some (.slice (some ⟨w1.heap.size,0,none⟩) n n):=by rw [cell_of_row W _ _ _ _ _ hI.out];rfl
  gi_wp2
  go_wp2_with fail
  refine ⟨by simp,.inl ⟨_,_,rfl,run_takeDeferred hdf,?_⟩⟩
  refine ⟨_,results_tmp rfl _ _ _,?_⟩
  have zw4:=HB4w.out.size
  refine ⟨w1.heap.size,by rw [show (Cx.encB enc (asOf ps)).length=n from HN.out.symm];rfl,?_,z1,?_⟩
  ·refine RwU.of ?_
   exact (World.putObj_heap_other (by omega)).trans hrow
  ·refine HB4w.out.trans (Kps.below (o:=fun k=>w.heap.size≤k) ?_ zw4 (fun k hk=>hk))
   refine Kps.trans (hk.mono fun i _ hi=>?_) (Kps.put (o:=fun k=>w.heap.size≤k) _ zw4) (fun _ _ e=>e)
   rcases hi with rfl | rfl | rfl <;> omega
 case stop=>intro c s pre W _ _ _ h;exact h.elim
end Go.Proofs.YtdhciadajendnaaGreat.P
