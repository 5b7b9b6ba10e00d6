import Derived.Test.YtdhciadajendnaaGreatK31
import Derived.Test.YtdhciadajendnaaGreatK29
import Derived.Deep.RegionHeld3
import Derived.OwnWalk
import Derived.Deep.CutRange
import Derived.Deep.CutBlock
import Derived.Laws.CopyOwn
set_option maxRecDepth 100000
namespace Go.Proofs.YtdhciadajendnaaGreat.P
open Go.RowKit Go.Shelf
attribute [local go_sem] Oper.semAt_some
def OwnI (w:World) (base:Nat) (v:Value) (zs:List Int):Prop:=w.ownsRow base 3 1 v zs.length (zs.map (Value.int .i64))
theorem OwnI.typ {w:World} {base:Nat} {v:Value} {zs:List Int} (h:OwnI w base v zs) {k:Nat} (hk:v.ownBlock=some k):Typ 3 w k:=by
 rcases h.2 with ⟨rfl,_⟩ | ⟨g,cap,cur,rfl,hb,hg,_⟩
 ·simp [Value.ownBlock] at hk
 ·simp [Value.ownBlock] at hk
  subst hk
  exact ⟨_,hg⟩
theorem OwnI.form {w:World} {base:Nat} {v:Value} {zs:List Int} (h:OwnI w base v zs):∃ ao cap,v=.slice ao zs.length cap:=by
 rcases h.2 with ⟨rfl,h2⟩ | ⟨g,cap,cur,rfl,_⟩
 ·exact ⟨none,0,by rw [h2]⟩
 ·exact ⟨_,cap,rfl⟩
theorem OwnI.rd {w:World} {base:Nat} {v:Value} {zs:List Int} (h:OwnI w base v zs):Rd .i64 w v zs:=Rd.of_own h
def AtR (zs:List Int) (w:World) (e:Ending) (w':World):Prop:=∃ v,e=.returned v∧OwnI w' w.heap.size v zs∧Below w.heap.size w w'
structure AtI (bx base:Nat) (v:Value) (zs:List Int) (W:World):Prop where
 bxx:W.heap[bx]?=some (.cells #[v] 44 (0,0))
 own:OwnI W base v zs
def atO (bx:Nat) (v:Value) (k:Nat):Prop:=k=bx∨v.ownBlock=some k
theorem AtI.same {bx base:Nat} {v:Value} {zs:List Int} {W W':World} (h:AtI bx base v zs W) (hk:∀ k,atO bx v k→W'.heap[k]?=W.heap[k]?):AtI bx base v zs W':=by
 refine ⟨by rw [hk bx (.inl rfl)];exact h.bxx,?_⟩
 obtain ⟨h1,h2⟩:=h.own
 refine ⟨h1,?_⟩
 rcases h2 with h2 | ⟨k,cap,cur,rfl,hb,hg,r⟩
 ·exact .inl h2
 ·exact .inr ⟨k,cap,cur,rfl,hb,by rw [hk k (.inr (by simp [Value.ownBlock]))];exact hg,r⟩
theorem AtI.lives {bx base:Nat} {v:Value} {zs:List Int} {W:World} (h:AtI bx base v zs W) (k:Nat) (hk:atO bx v k):k < W.heap.size:=by
 rcases hk with rfl | hk
 ·exact (Array.getElem?_eq_some_iff.1 h.bxx).1
 ·exact (h.own.typ hk).lt
theorem AtI.push {bx base:Nat} {v v':Value} {zs:List Int} {W W1 w':World} {z:Int} (h:AtI bx base v zs W) (hb1:Below W.heap.size W W1) (ho:OwnI w' base v' (zs ++ [z])) (hg:W1.grownBy w' v.ownBlock) (hk:v'.ownBlock=v.ownBlock∨v'.ownBlock=some W1.heap.size) :
  AtI bx base v' (zs ++ [z]) (w'.setCell ⟨bx,0,none⟩ v')∧Kps (atO bx v) W (w'.setCell ⟨bx,0,none⟩ v')∧Newer (atO bx) v v' W:=by
 have hbl:=h.lives bx (.inl rfl)
 have z1:=hb1.size
 have bne:∀ k,v.ownBlock=some k→k≠bx:=fun k e he=>by subst he;exact absurd ((h.own.typ e).uniq ⟨_,h.bxx⟩) (by decide)
 have hbx':w'.heap[bx]?=some (.cells #[v] 44 (0,0)):=(hg.block bx (by omega) (fun e=>bne bx e.symm rfl)).trans ((hb1.block bx hbl).trans h.bxx)
 obtain ⟨p1,p2⟩:=set1 hbx' 0 v'
 have vg:v'.ownBlock≠some bx:=fun e=>by
  rcases hk with hk | hk
  ·rw [hk] at e;exact bne bx e rfl
  ·rw [hk] at e;simp only [Option.some.injEq] at e;omega
 have kk:Kps (atO bx v) W1 w':=Kps.grown hg fun j e _=>.inr e
 refine ⟨⟨p1,World.ownsRow.kept ho p2 (.inr vg)⟩,?_,?_⟩
 ·refine ((Kps.of_below (atO bx v) hb1).trans kk fun _ _ e=>e).trans (Kps.grown p2 fun j e _=>?_) fun _ _ e=>e
  simp only [Option.some.injEq] at e
  exact .inl e.symm
 ·rintro k (e | e)
  ·exact .inl (.inl e)
  ·rcases hk with hk | hk
   ·rw [hk] at e;exact .inl (.inr e)
   ·rw [hk] at e;simp only [Option.some.injEq] at e;exact .inr (by omega)
section
variable {P:Program} {W:World}
theorem wp_append_int {op:Oper} {a:Act} {K:Act→World→Prop} {Q:Exit→Act→World→Prop} (s x:Operand) (t:TypeId) (ho:op.op=.call { callee:=.builtin .append,args:=#[s,x],argTypes:=#[t,t] })
  (base:Nat) (e:TypeId) (he:e=3) (hinf:(P.info? e).map (fun i=>(i.zero,i.size,i.bytes))=some (some (.int .i64 0),1,8)) (ht:P.underlying t=some (.slice e))
  (v:Value) (zs:List Int) (hs:a.eval s=v) (hown:OwnI W base v zs) (y:Int) (g:Nat) (hx:a.eval x=.slice (some ⟨g,0,none⟩) 1 1) (hnew:W.cell? ⟨g,0,none⟩=some (.int .i64 y))
  (hbytes:zs.length + 1≤1099511627776) (hbase:base≤W.heap.size)
  (h:∀ v' w',OwnI w' base v' (zs ++ [y])→W.grownBy w' v.ownBlock→(v'.ownBlock=v.ownBlock∨v'.ownBlock=some W.heap.size)→K (a.put op.dst v') w'):op.wp P a W K Q:=by
 obtain ⟨i0,hi,hz0,hz1,hz2⟩:=info_parts hinf
 subst he
 obtain ⟨v',w',hr,h2,h3,h4⟩:=run_append_blk (P:=P) W base t op.type 3 i0 _ 1 8 ht hi hz0 hz1 hz2 rfl (by decide) v zs.length (zs.map (Value.int .i64)) hown ⟨g,0,none⟩ 1 1 [.int .i64 y] rfl (fun j u hj=>by
  cases j with
  | zero=>simp only [List.getElem?_cons_zero,Option.some.injEq] at hj;subst hj;exact hnew
  | succ j=>simp at hj) (fun u hu=>by simp at hu;subst hu;rfl) (by unfold maxLen;omega) (by omega) hbase (by omega)
 unfold Oper.wp execOp
 simp only [ho,resolve,invoke,builtin,Sem.run_bind,Sem.run_pure,Result.andThen_ok,List.map_toArray,List.map_cons,List.map_nil,hs,hx,hr]
 refine h v' w' ?_ h3 h4
 unfold OwnI
 rw [List.length_append,List.map_append]
 exact h2
end
set_option maxHeartbeats 8000000 in
theorem Atoms_any (enc lim:Int) (L:List Int) (w:World) (t:Nat) (ps:List PG) (a b:Int) (h:Tx enc lim L w t ps):Calls Tryz.prog 46 #[.pointer (some ⟨t,0,none⟩),.int .i64 a,.int .i64 b] w fun e w'=>AtR ((btw enc ps (clp (sh enc ps).length a b).1 (clp (sh enc ps).length a b).2).map Prod.fst) w e w':=by
 obtain ⟨i0,hi,hz0,hz1,hz2⟩:=info_parts Tryz.info_i64
 have CL:=zh (clip_any enc lim L w t ps a b h)
 obtain ⟨hc1,hc2⟩:=clp_le (sh enc ps).length a b
 have hs:=h.sum.2.2
 generalize (clp (sh enc ps).length a b).1=f at *
 generalize (clp (sh enc ps).length a b).2=tz at *
 have HT:=zh h
 clear h
 obtain ⟨n,hn⟩:∃ n,n=tz - f:=⟨_,rfl⟩
 have hwn:IntKind.i64.wrap ((tz:Int) - (f:Int))=(n:Nat):=by rw [IntKind.wrap_i64];omega
 have HN:=zh hn
 have hnl:n≤65536:=by omega
 clear hn
 refine (callsIn_wide (n:=9)).1 ?_
 refine callsIn_of_wp_marks Tryz.func46 rfl trivial ?_ rfl
 simp only [Tryz.ntmps46,List.size_toArray,List.length_cons,List.length_nil,Nat.reduceAdd,Nat.reduceSub,Array.replicate_succ,Array.replicate_zero,List.push_toArray,List.append_toArray,List.nil_append,List.cons_append]
 refine wpIn_mono (Q:=calm _) ?_ (fun _ _ _ h=>calm_imp h)
 refine wpIn_wide.2 ?_
 go_upto_region 3 with (first
  | (go_at_call 70;refine CL.out.mono ?_;rintro e w1 ⟨rfl,hb1⟩;have HB1:=zh hb1;have HS1:=zh hb1.size;clear hb1;(try dsimp only))
  | (refine wpList_make_own w1 rfl _ _ 44 rfl w.heap.size 3 i0 (.int .i64 0) 1 Tryz.underlying44 hi hz0 hz1 .i64 .i64 _ n rfl rfl rfl (by rw [hz2];omega) (by unfold maxLen;omega) HS1.out ?_;intro w2 hO hg;have HO:=zh hO;have HG:=zh hg;clear hO hg))
 obtain ⟨w3,hw3,k3,hb3⟩:∃ w3,w3=w2.alloc (.cells #[.slice (some ⟨w1.heap.size,0,none⟩) 0 n] 44)∧w3.heap[w2.heap.size]?=some (.cells #[.slice (some ⟨w1.heap.size,0,none⟩) 0 n] 44 (0,0))∧Below w2.heap.size w2 w3:=⟨_,rfl,heap_alloc_new _ _,zxa (Below.refl _ _) _⟩
 rw [← hw3]
 clear hw3
 have HB2:=zh (Below.grown (Below.refl w1.heap.size w1) HG.out (Nat.le_refl _) (fun k e=>by cases e))
 have HB3:=zh (zxt (zxt HB1.out HB2.out) hb3)
 have HO3:Hid (OwnI w3 w.heap.size (.slice (some ⟨w1.heap.size,0,none⟩) 0 n) []):=World.ownsRow.kept (row:=none) HO.out ⟨hb3.os,hb3.tape,hb3.output,hb3.size,fun k hk _=>hb3.block k hk⟩ (by simp [Value.ownBlock])
 have HK3:=zh k3
 have BT:=zh (between_any t f tz w3)
 have hz1':w1.heap.size < w2.heap.size:=by
  have:=HO3.out.typ (k:=w1.heap.size) (by simp [Value.ownBlock])
  have h2:=HO.out.2
  rcases h2 with ⟨e,_⟩ | ⟨g,cap,cur,e,_,hg,_⟩
  ·cases e
  ·simp only [Value.slice.injEq,Option.some.injEq,Addr.mk.injEq] at e
   rw [e.1.1]
   exact (Array.getElem?_eq_some_iff.1 hg).1
 have hz2':w2.heap.size < w3.heap.size:=(Array.getElem?_eq_some_iff.1 k3).1
 clear k3 hb3 HO HG
 go_upto_block 0 with (go_at_call 71;refine BT.out.mono ?_;rintro e w4 ⟨rfl,hw4⟩;have HW4:=zh hw4;clear hw4;(try dsimp only))
 have HB4:Hid (Below w3.heap.size w3 w4):=by unfold Hid;rw [HW4.out];exact zxa (zxa (zxa (Below.refl _ _) _) _) _
 have hs4:w4.heap.size=w3.heap.size + 3:=by rw [HW4.out];simp
 have HK4:Hid (w4.heap[w3.heap.size]?=some (.cells #[.pointer (some ⟨t,0,none⟩)] 26 (0,0))∧w4.heap[w3.heap.size + 1]?=some (.cells #[.int .i64 f] 3 (0,0))∧w4.heap[w3.heap.size + 2]?=some (.cells #[.int .i64 tz] 3 (0,0))):=by
  unfold Hid
  rw [HW4.out]
  refine ⟨?_,?_,?_⟩
  ·exact (Below.heap_alloc _ _ _ (by simp;omega)).trans ((Below.heap_alloc _ _ _ (by simp)).trans (heap_alloc_new _ _))
  ·have e:w3.heap.size + 1=(w3.alloc (.cells #[.pointer (some ⟨t,0,none⟩)] 26)).heap.size:=by simp
   rw [e]
   exact (Below.heap_alloc _ _ _ (by simp)).trans (heap_alloc_new _ _)
  ·have e:w3.heap.size + 2=((w3.alloc (.cells #[.pointer (some ⟨t,0,none⟩)] 26)).alloc (.cells #[.int .i64 f] 3)).heap.size:=by simp
   rw [e]
   exact heap_alloc_new _ _
 have HBw4:=zh (zxt HB3.out HB4.out)
 have zw:=HS1.out
 have SQ:=zh (between_stops 8 enc lim L t ps f tz hc1 hc2 w HT.out w4 HBw4.out w3.heap.size (w3.heap.size + 1) (w3.heap.size + 2) (by omega) (by omega) (by omega) HK4.out.1 HK4.out.2.1 HK4.out.2.2)
 clear BT HW4
 refine (wpIn_wide (n:=9)).1 ?_
 gi_wp2_with fail
 refine range_x (σ:=Value) rfl (by omega) (gf:=105) (lb:=#[.pointer (some ⟨w3.heap.size,0,none⟩),.pointer (some ⟨w3.heap.size + 1,0,none⟩),.pointer (some ⟨w3.heap.size + 2,0,none⟩)]) rfl trivial (enters_of Tryz.func105 (by kernel_rfl) rfl) SQ.out (Kps.refl _ _) (fun _=>rfl)
  (atO w2.heap.size) (fun v pre W=>AtI w2.heap.size w.heap.size v (pre.map Prod.fst) W∧w.heap.size≤W.heap.size) (fun _ _ _ _=>False) (.slice (some ⟨w1.heap.size,0,none⟩) 0 n) ?rel (fun _=>False) (fun _ h=>h.elim) (fun _ _ _ _ h hz hk=>⟨h.1.same (fun k ho=>hk k (.inl ho)),Nat.le_trans h.2 hz⟩) (fun _ _ _ _ _ h _ _=>h) (fun _ _ _ h=>h.1.lives) ?h0
  (fun q a' W=>a'={ tmps:=#[.pointer (some ⟨t,0,none⟩),.int .i64 f,.int .i64 tz,undef,undef,undef,.slice none 0 0,.pointer (some ⟨w2.heap.size,0,none⟩),.int .i64 q.1,.tuple #[.int .i64 f,.int .i64 tz],.pointer (some ⟨t,0,none⟩),.int .i64 a,.int .i64 b,.tuple #[.int .i64 f,.int .i64 tz],.int .i64 f,.int .i64 tz,.int .i64 tz,.int .i64 f,.int .i64 n,.slice (some ⟨w1.heap.size,0,none⟩) 0 n,.pointer (some ⟨t,0,none⟩),.int .i64 f,.int .i64 tz,.func (.func 105) #[] #[.pointer (some ⟨w3.heap.size,0,none⟩),.pointer (some ⟨w3.heap.size + 1,0,none⟩),.pointer (some ⟨w3.heap.size + 2,0,none⟩)],.int .i64 q.1,.int .i64 q.2,undef,undef,undef,undef,undef],defers:=[] }) (fun _ _ _ _ h _ _=>h) ?assign ?body ?done ?stop
 case rel =>
  intro k hk
  have hng:atO w2.heap.size (.slice (some ⟨w1.heap.size,0,none⟩) 0 n) k→k=w2.heap.size∨k=w1.heap.size:=fun h=>by
   rcases h with h | h
   ·exact .inl h
   ·simp [Value.ownBlock] at h;exact .inr h.symm
  rcases hk with hk | rfl | rfl | rfl
  ·exact ⟨by omega,fun h=>by have:=hng h;omega⟩
  ·exact ⟨by omega,fun h=>by have:=hng h;omega⟩
  ·exact ⟨by omega,fun h=>by have:=hng h;omega⟩
  ·exact ⟨by omega,fun h=>by have:=hng h;omega⟩
 case h0 =>
  refine ⟨⟨(HB4.out.block _ hz2').trans HK3.out,?_⟩,HBw4.out.size⟩
  exact World.ownsRow.kept (row:=none) HO3.out ⟨HB4.out.os,HB4.out.tape,HB4.out.output,HB4.out.size,fun k hk _=>HB4.out.block k hk⟩ (by simp [Value.ownBlock])
 case assign =>
  intro l q W K hz hK
  gi_wp2_with fail
  exact hK _ _ (Below.refl _ _) rfl
 case body =>
  rintro l v pre q a' W ⟨hI,hwW⟩ rfl hSp hzW
  obtain ⟨ao,capo,hvo⟩:=hI.own.form
  rw [List.length_map] at hvo
  subst hvo
  have HI:=zh hI
  have cb:W.cell? ⟨w2.heap.size,0,none⟩=some (.slice ao pre.length capo):=by rw [cell_of_row W _ _ _ _ _ hI.bxx];rfl
  have hbl:=hI.lives _ (.inl rfl)
  have hpl:pre.length + 1≤1099511627776:=by
   have h1:=hSp.length_le
   rw [btw_len hc2] at h1
   simp at h1
   omega
  have HPL:=zh (show (pre.map Prod.fst).length + 1≤1099511627776 by rw [List.length_map];exact hpl)
  obtain ⟨z,hz⟩:∃ z,z=q.1:=⟨_,rfl⟩
  have HZ:=zh hz
  have NEW:Hid ((W.alloc (.cells #[.int .i64 z] 3)).cell? ⟨W.heap.size,0,none⟩=some (.int .i64 z)):=by unfold Hid;rw [cell_of_row _ _ _ _ _ _ (heap_alloc_new _ _)];rfl
  have HOW:Hid (OwnI (W.alloc (.cells #[.int .i64 z] 3)) w.heap.size (.slice ao pre.length capo) (pre.map Prod.fst)):=World.ownsRow.kept (row:=none) HI.out.own ⟨rfl,rfl,rfl,size_alloc_le _ _,fun k hk _=>Below.heap_alloc _ _ _ hk⟩ (by cases ao <;> simp [Value.ownBlock])
  have CGF:Hid (∀ w',(W.alloc (.cells #[.int .i64 z] 3)).grownBy w' (Value.ownBlock (.slice ao pre.length capo))→w'.cell? ⟨w2.heap.size,0,none⟩=some (.slice ao pre.length capo)∧(∀ i,w'.frozen? ⟨w2.heap.size,i,none⟩=false)):=fun w' hg=>by
   have e:w'.heap[w2.heap.size]?=W.heap[w2.heap.size]?:=(hg.block _ (by simp;omega) (fun e=>absurd ((HI.out.own.typ e.symm).uniq ⟨_,HI.out.bxx⟩) (by decide))).trans (Below.heap_alloc _ _ _ hbl)
   exact ⟨by rw [cell_same e];exact cb,fun i=>by simp [World.frozen?,e,HI.out.bxx]⟩
  rw [← hz]
  clear hz hI hSp
  refine wpIn_block ?_
  gi_wp2_with (gi_at_builtin;refine wpListIn_plain rfl fun K hK=>?_;refine oper_in (fun c hc=>by cases hc) (fun _ _ h=>h) ?_;refine wp_append_int (.tmp 26) (.tmp 28) 44 rfl w.heap.size 3 rfl Tryz.info_i64 Tryz.underlying44 _ (pre.map Prod.fst) rfl HOW.out z W.heap.size rfl NEW.out HPL.out (by simp;omega) ?_;intro v' w9 hown' hg' hk';obtain ⟨n',ao',cap',hv'⟩:∃ n' ao' cap',v'=.slice ao' n' cap':=(let ⟨a,b,c⟩:=hown'.form;⟨_,a,b,c⟩);subst hv';have PU:=zh (HI.out.push (zxa (Below.refl _ _) _) hown' hg' hk');obtain ⟨cg9,cf9⟩:=CGF.out w9 hg';refine hK _ _ ?_;clear hK hown' hg' hk' cb)
  refine ⟨_,⟨?_,Nat.le_trans hwW PU.out.2.1.size⟩,PU.out.2.1,PU.out.2.2⟩
  rw [List.map_append,List.map_cons,List.map_nil,← HZ.out]
  exact PU.out.1
 case done =>
  intro s xs W hk hnw hS ⟨hI,hwW⟩ hdf hno
  subst hS
  obtain ⟨ao,capo,hvo⟩:=hI.own.form
  rw [List.length_map] at hvo
  subst hvo
  have hob:=hI.bxx
  have hoc:W.cell? ⟨w2.heap.size,0,none⟩=some (.slice ao (btw enc ps f tz).length capo):=by rw [cell_of_row W _ _ _ _ _ hob];rfl
  gi_wp2
  go_wp2_with fail
  refine ⟨by simp,.inl ⟨_,_,rfl,run_takeDeferred hdf,?_⟩⟩
  refine ⟨_,results_tmp rfl _ _ _,?_⟩
  have zw4:=HBw4.out.size
  refine ⟨.slice ao (btw enc ps f tz).length capo,rfl,?_,?_⟩
  ·refine World.ownsRow.kept hI.own (grownBy_putObj' _ _ _) (.inr (fun e=>hno (.inr e)))
  ·refine HBw4.out.trans (Kps.below (o:=fun k=>w.heap.size≤k) ?_ zw4 (fun k hk=>hk))
   refine Kps.trans (hk.mono fun i _ hi=>?_) (Kps.put (o:=fun k=>w.heap.size≤k) _ zw4) (fun _ _ e=>e)
   rcases hi with rfl | hi
   ·omega
   ·simp [Value.ownBlock] at hi;omega
 case stop=>intro c s pre W _ _ _ h;exact h.elim
set_option maxHeartbeats 8000000 in
theorem Tags_any (enc lim:Int) (L:List Int) (w:World) (t:Nat) (ps:List PG) (a b:Int) (h:Tx enc lim L w t ps):Calls Tryz.prog 47 #[.pointer (some ⟨t,0,none⟩),.int .i64 a,.int .i64 b] w fun e w'=>AtR ((btw enc ps (clp (sh enc ps).length a b).1 (clp (sh enc ps).length a b).2).map Prod.snd) w e w':=by
 obtain ⟨i0,hi,hz0,hz1,hz2⟩:=info_parts Tryz.info_i64
 have CL:=zh (clip_any enc lim L w t ps a b h)
 obtain ⟨hc1,hc2⟩:=clp_le (sh enc ps).length a b
 have hs:=h.sum.2.2
 generalize (clp (sh enc ps).length a b).1=f at *
 generalize (clp (sh enc ps).length a b).2=tz at *
 have HT:=zh h
 clear h
 obtain ⟨n,hn⟩:∃ n,n=tz - f:=⟨_,rfl⟩
 have hwn:IntKind.i64.wrap ((tz:Int) - (f:Int))=(n:Nat):=by rw [IntKind.wrap_i64];omega
 have HN:=zh hn
 have hnl:n≤65536:=by omega
 clear hn
 refine (callsIn_wide (n:=9)).1 ?_
 refine callsIn_of_wp_marks Tryz.func47 rfl trivial ?_ rfl
 simp only [Tryz.ntmps47,List.size_toArray,List.length_cons,List.length_nil,Nat.reduceAdd,Nat.reduceSub,Array.replicate_succ,Array.replicate_zero,List.push_toArray,List.append_toArray,List.nil_append,List.cons_append]
 refine wpIn_mono (Q:=calm _) ?_ (fun _ _ _ h=>calm_imp h)
 refine wpIn_wide.2 ?_
 go_upto_region 3 with (first
  | (go_at_call 70;refine CL.out.mono ?_;rintro e w1 ⟨rfl,hb1⟩;have HB1:=zh hb1;have HS1:=zh hb1.size;clear hb1;(try dsimp only))
  | (refine wpList_make_own w1 rfl _ _ 44 rfl w.heap.size 3 i0 (.int .i64 0) 1 Tryz.underlying44 hi hz0 hz1 .i64 .i64 _ n rfl rfl rfl (by rw [hz2];omega) (by unfold maxLen;omega) HS1.out ?_;intro w2 hO hg;have HO:=zh hO;have HG:=zh hg;clear hO hg))
 obtain ⟨w3,hw3,k3,hb3⟩:∃ w3,w3=w2.alloc (.cells #[.slice (some ⟨w1.heap.size,0,none⟩) 0 n] 44)∧w3.heap[w2.heap.size]?=some (.cells #[.slice (some ⟨w1.heap.size,0,none⟩) 0 n] 44 (0,0))∧Below w2.heap.size w2 w3:=⟨_,rfl,heap_alloc_new _ _,zxa (Below.refl _ _) _⟩
 rw [← hw3]
 clear hw3
 have HB2:=zh (Below.grown (Below.refl w1.heap.size w1) HG.out (Nat.le_refl _) (fun k e=>by cases e))
 have HB3:=zh (zxt (zxt HB1.out HB2.out) hb3)
 have HO3:Hid (OwnI w3 w.heap.size (.slice (some ⟨w1.heap.size,0,none⟩) 0 n) []):=World.ownsRow.kept (row:=none) HO.out ⟨hb3.os,hb3.tape,hb3.output,hb3.size,fun k hk _=>hb3.block k hk⟩ (by simp [Value.ownBlock])
 have HK3:=zh k3
 have BT:=zh (between_any t f tz w3)
 have hz1':w1.heap.size < w2.heap.size:=by
  have:=HO3.out.typ (k:=w1.heap.size) (by simp [Value.ownBlock])
  have h2:=HO.out.2
  rcases h2 with ⟨e,_⟩ | ⟨g,cap,cur,e,_,hg,_⟩
  ·cases e
  ·simp only [Value.slice.injEq,Option.some.injEq,Addr.mk.injEq] at e
   rw [e.1.1]
   exact (Array.getElem?_eq_some_iff.1 hg).1
 have hz2':w2.heap.size < w3.heap.size:=(Array.getElem?_eq_some_iff.1 k3).1
 clear k3 hb3 HO HG
 go_upto_block 0 with (go_at_call 71;refine BT.out.mono ?_;rintro e w4 ⟨rfl,hw4⟩;have HW4:=zh hw4;clear hw4;(try dsimp only))
 have HB4:Hid (Below w3.heap.size w3 w4):=by unfold Hid;rw [HW4.out];exact zxa (zxa (zxa (Below.refl _ _) _) _) _
 have hs4:w4.heap.size=w3.heap.size + 3:=by rw [HW4.out];simp
 have HK4:Hid (w4.heap[w3.heap.size]?=some (.cells #[.pointer (some ⟨t,0,none⟩)] 26 (0,0))∧w4.heap[w3.heap.size + 1]?=some (.cells #[.int .i64 f] 3 (0,0))∧w4.heap[w3.heap.size + 2]?=some (.cells #[.int .i64 tz] 3 (0,0))):=by
  unfold Hid
  rw [HW4.out]
  refine ⟨?_,?_,?_⟩
  ·exact (Below.heap_alloc _ _ _ (by simp;omega)).trans ((Below.heap_alloc _ _ _ (by simp)).trans (heap_alloc_new _ _))
  ·have e:w3.heap.size + 1=(w3.alloc (.cells #[.pointer (some ⟨t,0,none⟩)] 26)).heap.size:=by simp
   rw [e]
   exact (Below.heap_alloc _ _ _ (by simp)).trans (heap_alloc_new _ _)
  ·have e:w3.heap.size + 2=((w3.alloc (.cells #[.pointer (some ⟨t,0,none⟩)] 26)).alloc (.cells #[.int .i64 f] 3)).heap.size:=by simp
   rw [e]
   exact heap_alloc_new _ _
 have HBw4:=zh (zxt HB3.out HB4.out)
 have zw:=HS1.out
 have SQ:=zh (between_stops 8 enc lim L t ps f tz hc1 hc2 w HT.out w4 HBw4.out w3.heap.size (w3.heap.size + 1) (w3.heap.size + 2) (by omega) (by omega) (by omega) HK4.out.1 HK4.out.2.1 HK4.out.2.2)
 clear BT HW4
 refine (wpIn_wide (n:=9)).1 ?_
 gi_wp2_with fail
 refine range_x (σ:=Value) rfl (by omega) (gf:=105) (lb:=#[.pointer (some ⟨w3.heap.size,0,none⟩),.pointer (some ⟨w3.heap.size + 1,0,none⟩),.pointer (some ⟨w3.heap.size + 2,0,none⟩)]) rfl trivial (enters_of Tryz.func105 (by kernel_rfl) rfl) SQ.out (Kps.refl _ _) (fun _=>rfl)
  (atO w2.heap.size) (fun v pre W=>AtI w2.heap.size w.heap.size v (pre.map Prod.snd) W∧w.heap.size≤W.heap.size) (fun _ _ _ _=>False) (.slice (some ⟨w1.heap.size,0,none⟩) 0 n) ?rel (fun _=>False) (fun _ h=>h.elim) (fun _ _ _ _ h hz hk=>⟨h.1.same (fun k ho=>hk k (.inl ho)),Nat.le_trans h.2 hz⟩) (fun _ _ _ _ _ h _ _=>h) (fun _ _ _ h=>h.1.lives) ?h0
  (fun q a' W=>a'={ tmps:=#[.pointer (some ⟨t,0,none⟩),.int .i64 f,.int .i64 tz,undef,undef,undef,.slice none 0 0,.pointer (some ⟨w2.heap.size,0,none⟩),undef,.int .i64 q.2,.tuple #[.int .i64 f,.int .i64 tz],.pointer (some ⟨t,0,none⟩),.int .i64 a,.int .i64 b,.tuple #[.int .i64 f,.int .i64 tz],.int .i64 f,.int .i64 tz,.int .i64 tz,.int .i64 f,.int .i64 n,.slice (some ⟨w1.heap.size,0,none⟩) 0 n,.pointer (some ⟨t,0,none⟩),.int .i64 f,.int .i64 tz,.func (.func 105) #[] #[.pointer (some ⟨w3.heap.size,0,none⟩),.pointer (some ⟨w3.heap.size + 1,0,none⟩),.pointer (some ⟨w3.heap.size + 2,0,none⟩)],.int .i64 q.1,.int .i64 q.2,undef,undef,undef,undef,undef],defers:=[] }) (fun _ _ _ _ h _ _=>h) ?assign ?body ?done ?stop
 case rel =>
  intro k hk
  have hng:atO w2.heap.size (.slice (some ⟨w1.heap.size,0,none⟩) 0 n) k→k=w2.heap.size∨k=w1.heap.size:=fun h=>by
   rcases h with h | h
   ·exact .inl h
   ·simp [Value.ownBlock] at h;exact .inr h.symm
  rcases hk with hk | rfl | rfl | rfl
  ·exact ⟨by omega,fun h=>by have:=hng h;omega⟩
  ·exact ⟨by omega,fun h=>by have:=hng h;omega⟩
  ·exact ⟨by omega,fun h=>by have:=hng h;omega⟩
  ·exact ⟨by omega,fun h=>by have:=hng h;omega⟩
 case h0 =>
  refine ⟨⟨(HB4.out.block _ hz2').trans HK3.out,?_⟩,HBw4.out.size⟩
  exact World.ownsRow.kept (row:=none) HO3.out ⟨HB4.out.os,HB4.out.tape,HB4.out.output,HB4.out.size,fun k hk _=>HB4.out.block k hk⟩ (by simp [Value.ownBlock])
 case assign =>
  intro l q W K hz hK
  gi_wp2_with fail
  exact hK _ _ (Below.refl _ _) rfl
 case body =>
  rintro l v pre q a' W ⟨hI,hwW⟩ rfl hSp hzW
  obtain ⟨ao,capo,hvo⟩:=hI.own.form
  rw [List.length_map] at hvo
  subst hvo
  have HI:=zh hI
  have cb:W.cell? ⟨w2.heap.size,0,none⟩=some (.slice ao pre.length capo):=by rw [cell_of_row W _ _ _ _ _ hI.bxx];rfl
  have hbl:=hI.lives _ (.inl rfl)
  have hpl:pre.length + 1≤1099511627776:=by
   have h1:=hSp.length_le
   rw [btw_len hc2] at h1
   simp at h1
   omega
  have HPL:=zh (show (pre.map Prod.snd).length + 1≤1099511627776 by rw [List.length_map];exact hpl)
  obtain ⟨z,hz⟩:∃ z,z=q.2:=⟨_,rfl⟩
  have HZ:=zh hz
  have NEW:Hid ((W.alloc (.cells #[.int .i64 z] 3)).cell? ⟨W.heap.size,0,none⟩=some (.int .i64 z)):=by unfold Hid;rw [cell_of_row _ _ _ _ _ _ (heap_alloc_new _ _)];rfl
  have HOW:Hid (OwnI (W.alloc (.cells #[.int .i64 z] 3)) w.heap.size (.slice ao pre.length capo) (pre.map Prod.snd)):=World.ownsRow.kept (row:=none) HI.out.own ⟨rfl,rfl,rfl,size_alloc_le _ _,fun k hk _=>Below.heap_alloc _ _ _ hk⟩ (by cases ao <;> simp [Value.ownBlock])
  have CGF:Hid (∀ w',(W.alloc (.cells #[.int .i64 z] 3)).grownBy w' (Value.ownBlock (.slice ao pre.length capo))→w'.cell? ⟨w2.heap.size,0,none⟩=some (.slice ao pre.length capo)∧(∀ i,w'.frozen? ⟨w2.heap.size,i,none⟩=false)):=fun w' hg=>by
   have e:w'.heap[w2.heap.size]?=W.heap[w2.heap.size]?:=(hg.block _ (by simp;omega) (fun e=>absurd ((HI.out.own.typ e.symm).uniq ⟨_,HI.out.bxx⟩) (by decide))).trans (Below.heap_alloc _ _ _ hbl)
   exact ⟨by rw [cell_same e];exact cb,fun i=>by simp [World.frozen?,e,HI.out.bxx]⟩
  rw [← hz]
  clear hz hI hSp
  refine wpIn_block ?_
  gi_wp2_with (gi_at_builtin;refine wpListIn_plain rfl fun K hK=>?_;refine oper_in (fun c hc=>by cases hc) (fun _ _ h=>h) ?_;refine wp_append_int (.tmp 27) (.tmp 29) 44 rfl w.heap.size 3 rfl Tryz.info_i64 Tryz.underlying44 _ (pre.map Prod.snd) rfl HOW.out z W.heap.size rfl NEW.out HPL.out (by simp;omega) ?_;intro v' w9 hown' hg' hk';obtain ⟨n',ao',cap',hv'⟩:∃ n' ao' cap',v'=.slice ao' n' cap':=(let ⟨a,b,c⟩:=hown'.form;⟨_,a,b,c⟩);subst hv';have PU:=zh (HI.out.push (zxa (Below.refl _ _) _) hown' hg' hk');obtain ⟨cg9,cf9⟩:=CGF.out w9 hg';refine hK _ _ ?_;clear hK hown' hg' hk' cb)
  refine ⟨_,⟨?_,Nat.le_trans hwW PU.out.2.1.size⟩,PU.out.2.1,PU.out.2.2⟩
  rw [List.map_append,List.map_cons,List.map_nil,← HZ.out]
  exact PU.out.1
 case done =>
  intro s xs W hk hnw hS ⟨hI,hwW⟩ hdf hno
  subst hS
  obtain ⟨ao,capo,hvo⟩:=hI.own.form
  rw [List.length_map] at hvo
  subst hvo
  have hob:=hI.bxx
  have hoc:W.cell? ⟨w2.heap.size,0,none⟩=some (.slice ao (btw enc ps f tz).length capo):=by rw [cell_of_row W _ _ _ _ _ hob];rfl
  gi_wp2
  go_wp2_with fail
  refine ⟨by simp,.inl ⟨_,_,rfl,run_takeDeferred hdf,?_⟩⟩
  refine ⟨_,results_tmp rfl _ _ _,?_⟩
  have zw4:=HBw4.out.size
  refine ⟨.slice ao (btw enc ps f tz).length capo,rfl,?_,?_⟩
  ·refine World.ownsRow.kept hI.own (grownBy_putObj' _ _ _) (.inr (fun e=>hno (.inr e)))
  ·refine HBw4.out.trans (Kps.below (o:=fun k=>w.heap.size≤k) ?_ zw4 (fun k hk=>hk))
   refine Kps.trans (hk.mono fun i _ hi=>?_) (Kps.put (o:=fun k=>w.heap.size≤k) _ zw4) (fun _ _ e=>e)
   rcases hi with rfl | hi
   ·omega
   ·simp [Value.ownBlock] at hi;omega
 case stop=>intro c s pre W _ _ _ h;exact h.elim
open Go.RowKit
theorem sameInts_any (v1 v2:Value) (zs:List Int) (w:World) (h1:Rd .i64 w v1 zs) (h2:Rd .i64 w v2 zs) :
  Calls Tryz.prog 45 #[v1,v2] w fun e w'=>e=.returned (.bool true)∧Below w.heap.size w w':=by
 have hlen:=h1.len
 obtain ⟨ao,cap,rfl,hl1,hc1,h1⟩:=h1
 obtain ⟨ao2,cap2,rfl,hl2,hc2,h2⟩:=h2
 by_cases hn:zs=[]
 ·subst hn
  clear h1 h2
  simp only [List.length_nil]
  go_enter Tryz.func45,Tryz.ntmps45
  go_wp2
  refine wp_loop_rounds 1 ?_
  rw [rounds_succ]
  go_wp2
  go_ret
  exact ⟨rfl,Below.refl _ _⟩
 ·obtain ⟨b,off,rfl,hb,hcl⟩:=h1 hn
  obtain ⟨b2,off2,rfl,hb2,hcl2⟩:=h2 hn
  have hq:((zs.length:Int) != (zs.length:Int))=false:=by simp
  clear h1 h2 hn
  go_enter Tryz.func45,Tryz.ntmps45
  go_wp2
  go_loopw [5] (fun i wr=>∃ k:Nat,k≤zs.length∧i=.int .i64 k∧Below w.heap.size w wr) (fun i _=>zs.length - (intOf i).toNat)
  case atStart=>exact ⟨0,Nat.zero_le _,rfl,Below.refl _ _⟩
  case round =>
   obtain ⟨k,hk,rfl,hbw⟩:=hrel
   by_cases hlt:k < zs.length
   ·have c1:wr.cell? ⟨b,off + k,none⟩=some (.int .i64 (zs[k]?.getD 0)):=(hbw.cell (p:=⟨b,off + k,none⟩) hb).trans (hcl _ hlt)
    have c2:wr.cell? ⟨b2,off2 + k,none⟩=some (.int .i64 (zs[k]?.getD 0)):=(hbw.cell (p:=⟨b2,off2 + k,none⟩) hb2).trans (hcl2 _ hlt)
    have hi1:(k:Int) < (zs.length:Int):=by omega
    generalize zs[k]?.getD 0=x at *
    clear hcl hcl2
    go_wp2
    go_quiet (fail)
    go_wp2
    go_roundw
    case rel=>exact ⟨k + 1,by omega,by go_num,below_drewN hbw _⟩
    case measure=>simp [intOf];omega
   ·clear hcl hcl2
    go_wp2
    go_ret
    exact ⟨rfl,hbw⟩
theorem sameBytes_eq (v1 v2:Value) (zs:List Int) (w:World) (h1:Rd .u8 w v1 zs) (h2:Rd .u8 w v2 zs) :
  Calls Tryz.prog 19 #[v1,v2] w fun e w'=>e=.returned (.bool true)∧Below w.heap.size w w':=by
 have hlen:=h1.len
 obtain ⟨ao,cap,rfl,hl1,hc1,h1⟩:=h1
 obtain ⟨ao2,cap2,rfl,hl2,hc2,h2⟩:=h2
 by_cases hn:zs=[]
 ·subst hn
  clear h1 h2
  simp only [List.length_nil]
  go_enter Tryz.func19,Tryz.ntmps19
  go_wp2
  refine wp_loop_rounds 1 ?_
  rw [rounds_succ]
  go_wp2
  go_ret
  exact ⟨rfl,Below.refl _ _⟩
 ·obtain ⟨b,off,rfl,hb,hcl⟩:=h1 hn
  obtain ⟨b2,off2,rfl,hb2,hcl2⟩:=h2 hn
  have hq:((zs.length:Int) != (zs.length:Int))=false:=by simp
  clear h1 h2 hn
  go_enter Tryz.func19,Tryz.ntmps19
  go_wp2
  go_loopw [5] (fun i wr=>∃ k:Nat,k≤zs.length∧i=.int .i64 k∧Below w.heap.size w wr) (fun i _=>zs.length - (intOf i).toNat)
  case atStart=>exact ⟨0,Nat.zero_le _,rfl,Below.refl _ _⟩
  case round =>
   obtain ⟨k,hk,rfl,hbw⟩:=hrel
   by_cases hlt:k < zs.length
   ·have c1:wr.cell? ⟨b,off + k,none⟩=some (.int .u8 (zs[k]?.getD 0)):=(hbw.cell (p:=⟨b,off + k,none⟩) hb).trans (hcl _ hlt)
    have c2:wr.cell? ⟨b2,off2 + k,none⟩=some (.int .u8 (zs[k]?.getD 0)):=(hbw.cell (p:=⟨b2,off2 + k,none⟩) hb2).trans (hcl2 _ hlt)
    have hi1:(k:Int) < (zs.length:Int):=by omega
    generalize zs[k]?.getD 0=x at *
    clear hcl hcl2
    go_wp2
    go_quiet (fail)
    go_wp2
    go_roundw
    case rel=>exact ⟨k + 1,by omega,by go_num,below_drewN hbw _⟩
    case measure=>simp [intOf];omega
   ·clear hcl hcl2
    go_wp2
    go_ret
    exact ⟨rfl,hbw⟩
theorem clp_all (n:Nat):clp n 0 n=(0,n):=by
 unfold clp
 split
 ·have:n=0:=by omega
  subst this;rfl
 ·simp
theorem btw_all (enc:Int) (ps:List PG):btw enc ps 0 (sh enc ps).length=sh enc ps:=by unfold btw;rw [List.drop_zero,Nat.sub_zero,List.take_length]
theorem OwnI.ext {w w':World} {base:Nat} {v:Value} {zs:List Int} (h:OwnI w base v zs) (hb:Below w.heap.size w w'):OwnI w' base v zs:=World.ownsRow.kept (row:=none) h ⟨hb.os,hb.tape,hb.output,hb.size,fun k hk _=>hb.block k hk⟩ (by cases v.ownBlock <;> simp)
open Go.RowKit
def mrk (m r:Nat):List Int:=(List.range r).map fun k=>771 + ((m + k:Nat):Int)
structure HE where
 e:Ed
 b:Nat
 pv:Value
def HE.row (r:Nat) (h:HE):List Int:=h.e.2.2 ++ mrk h.e.2.2.length r
def HE.sl (r:Nat) (h:HE):Value:=.slice (some ⟨h.b,0,none⟩) (h.e.2.2.length + r) (h.e.2.2.length + r)
def HE.cs (h:HE):List Value:=[.int .i64 h.e.1,.int .i64 h.e.2.1,h.pv]
def RoI (w:World) (b:Nat) (zs:List Int):Prop:=w.heap[b]?=some (.cells (zs.map (Value.int .i64)).toArray 3 (0,0))
structure HEok (w:World) (base r:Nat) (h:HE):Prop where
 ge:base≤h.b
 row:RoI w h.b (h.row r)
 pv:(h.pv=.slice none 0 0∧h.e.2.2=[])∨h.pv=.slice (some ⟨h.b,0,none⟩) h.e.2.2.length (h.e.2.2.length + r)
 ln:h.e.2.2.length + r≤9223372036854775807
structure Hd (w:World) (base r g n:Nat) (vp:Value) (hs:List HE) (xs:List Value):Prop where
 each:∀ h ∈ hs,HEok w base r h
 puts:w.ownsRow base 44 1 vp hs.length (hs.map (HE.sl r))
 all:w.ownsRow base 87 3 (.slice (some ⟨g,0,none⟩) n n) n xs
 pre:xs.take (hs.length * 3)=hs.flatMap HE.cs
open Go.RowKit
open Go.RowKit
open Go.RowKit
structure Spl (w:World) (base r g n:Nat) (vp:Value) (hs:List HE):Prop where
 each:∀ h ∈ hs,∃ ys,w.ownsRow base 3 1 (h.sl r) (h.e.2.2.length + r) ys
 puts:w.ownsRow base 44 1 vp hs.length (hs.map (HE.sl r))
 all:∃ xs,w.ownsRow base 87 3 (.slice (some ⟨g,0,none⟩) n n) n xs
open Go.RowKit
open Go.RowKit
theorem Tx.same {enc lim:Int} {L:List Int} {w w':World} {t:Nat} {ps:List PG} (h:Tx enc lim L w t ps) (h1:∀ b,Typ 5 w b→w'.heap[b]?=w.heap[b]?) (h2:∀ b,Typ 163 w b→w'.heap[b]?=w.heap[b]?) (h3:∀ b,Typ 92 w b→w'.heap[b]?=w.heap[b]?):Tx enc lim L w' t ps:=by
 obtain ⟨lv,u,k1,k2,k3⟩:=h.ex
 exact ⟨⟨lv,u,(h3 t ⟨_,k1⟩).trans k1,k2.same h1,k3.same h2⟩,h.pc.same h1,h.en,h.by',h.ll,h.l0,h.lm,h.sz⟩
structure Bnd (es:List Ed):Prop where
 each:∀ e ∈ es,e.2.2.length * 8≤140737488351232
 len:es.length * 40≤140737488351232
open Go.RowKit
open Go.RowKit
section
variable {P:Program} {W:World} {ops:Array Oper} {rest:List Oper} {o:Oper} {a:Act} {Q:Exit→Act→World→Prop}
end
end Go.Proofs.YtdhciadajendnaaGreat.P
