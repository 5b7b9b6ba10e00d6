import Derived.Test.YtdkpkncolpapoaaGreatJ00
import Derived.Test.YtdkpkncolpapoaaGreatJ23
import Derived.Test.YtdkpkncolpapoaaGreatJ24
namespace Go.Proofs.YtdkpkncolpapoaaGreat.P
open Go.RowKit Go.Shelf
attribute [local go_sem] Oper.semAt_some
def OwnI (w:World) (base:Nat) (v:Value) (zs:List Int):Prop:=w.ownsRow base 3 1 v zs.length (zs.map (Value.int .i64))
theorem OwnI.typ {w:World} {base:Nat} {v:Value} {zs:List Int} (h:OwnI w base v zs) {k:Nat} (hk:v.ownBlock=some k):Typ 3 w k:=by
 rcases h.2 with ⟨rfl,_⟩ | ⟨g,cap,cur,rfl,hb,hg,_⟩
 ·simp [Value.ownBlock] at hk
 ·simp [Value.ownBlock] at hk
  subst hk
  exact ⟨_,hg⟩
theorem OwnI.form {w:World} {base:Nat} {v:Value} {zs:List Int} (h:OwnI w base v zs):∃ ao cap,v=.slice ao zs.length cap:=by
 rcases h.2 with ⟨rfl,h2⟩ | ⟨g,cap,cur,rfl,_⟩
 ·exact ⟨none,0,by rw [h2]⟩
 ·exact ⟨_,cap,rfl⟩
theorem OwnI.rd {w:World} {base:Nat} {v:Value} {zs:List Int} (h:OwnI w base v zs):Rd .i64 w v zs:=Rd.of_own h
def AtR (zs:List Int) (w:World) (e:Ending) (w':World):Prop:=∃ v,e=.returned v∧OwnI w' w.heap.size v zs∧Below w.heap.size w w'
structure AtI (bx base:Nat) (v:Value) (zs:List Int) (W:World):Prop where
 bxx:W.heap[bx]?=some (.cells #[v] 22 (0,0))
 own:OwnI W base v zs
def atO (bx:Nat) (v:Value) (k:Nat):Prop:=k=bx∨v.ownBlock=some k
theorem AtI.same {bx base:Nat} {v:Value} {zs:List Int} {W W':World} (h:AtI bx base v zs W) (hk:∀ k,atO bx v k→W'.heap[k]?=W.heap[k]?):AtI bx base v zs W':=by
 refine ⟨by rw [hk bx (.inl rfl)];exact h.bxx,?_⟩
 obtain ⟨h1,h2⟩:=h.own
 refine ⟨h1,?_⟩
 rcases h2 with h2 | ⟨k,cap,cur,rfl,hb,hg,r⟩
 ·exact .inl h2
 ·exact .inr ⟨k,cap,cur,rfl,hb,by rw [hk k (.inr (by simp [Value.ownBlock]))];exact hg,r⟩
theorem AtI.lives {bx base:Nat} {v:Value} {zs:List Int} {W:World} (h:AtI bx base v zs W) (k:Nat) (hk:atO bx v k):k < W.heap.size:=by
 rcases hk with rfl | hk
 ·exact (Array.getElem?_eq_some_iff.1 h.bxx).1
 ·exact (h.own.typ hk).lt
theorem AtI.push {bx base:Nat} {v v':Value} {zs:List Int} {W W1 w':World} {z:Int} (h:AtI bx base v zs W) (hb1:Below W.heap.size W W1) (ho:OwnI w' base v' (zs ++ [z])) (hg:W1.grownBy w' v.ownBlock) (hk:v'.ownBlock=v.ownBlock∨v'.ownBlock=some W1.heap.size) :
  AtI bx base v' (zs ++ [z]) (w'.setCell ⟨bx,0,none⟩ v')∧Kps (atO bx v) W (w'.setCell ⟨bx,0,none⟩ v')∧Newer (atO bx) v v' W:=by
 have hbl:=h.lives bx (.inl rfl)
 have z1:=hb1.size
 have bne:∀ k,v.ownBlock=some k→k≠bx:=fun k e he=>by subst he;exact absurd ((h.own.typ e).uniq ⟨_,h.bxx⟩) (by decide)
 have hbx':w'.heap[bx]?=some (.cells #[v] 22 (0,0)):=(hg.block bx (by omega) (fun e=>bne bx e.symm rfl)).trans ((hb1.block bx hbl).trans h.bxx)
 obtain ⟨p1,p2⟩:=set1 hbx' 0 v'
 have vg:v'.ownBlock≠some bx:=fun e=>by
  rcases hk with hk | hk
  ·rw [hk] at e;exact bne bx e rfl
  ·rw [hk] at e;simp only [Option.some.injEq] at e;omega
 have kk:Kps (atO bx v) W1 w':=Kps.grown hg fun j e _=>.inr e
 refine ⟨⟨p1,World.ownsRow.kept ho p2 (.inr vg)⟩,?_,?_⟩
 ·refine ((Kps.of_below (atO bx v) hb1).trans kk fun _ _ e=>e).trans (Kps.grown p2 fun j e _=>?_) fun _ _ e=>e
  simp only [Option.some.injEq] at e
  exact .inl e.symm
 ·rintro k (e | e)
  ·exact .inl (.inl e)
  ·rcases hk with hk | hk
   ·rw [hk] at e;exact .inl (.inr e)
   ·rw [hk] at e;simp only [Option.some.injEq] at e;exact .inr (by omega)
section
variable {P:Program} {W:World}
theorem wp_append_int {op:Oper} {a:Act} {K:Act→World→Prop} {Q:Exit→Act→World→Prop} (s x:Operand) (t:TypeId) (ho:op.op=.call { callee:=.builtin .append,args:=#[s,x],argTypes:=#[t,t] })
  (base:Nat) (e:TypeId) (he:e=3) (hinf:(P.info? e).map (fun i=>(i.zero,i.size,i.bytes))=some (some (.int .i64 0),1,8)) (ht:P.underlying t=some (.slice e))
  (v:Value) (zs:List Int) (hs:a.eval s=v) (hown:OwnI W base v zs) (y:Int) (g:Nat) (hx:a.eval x=.slice (some ⟨g,0,none⟩) 1 1) (hnew:W.cell? ⟨g,0,none⟩=some (.int .i64 y))
  (hbytes:zs.length + 1≤1099511627776) (hbase:base≤W.heap.size)
  (h:∀ v' w',OwnI w' base v' (zs ++ [y])→W.grownBy w' v.ownBlock→(v'.ownBlock=v.ownBlock∨v'.ownBlock=some W.heap.size)→K (a.put op.dst v') w'):op.wp P a W K Q:=by
 obtain ⟨i0,hi,hz0,hz1,hz2⟩:=info_parts hinf
 subst he
 obtain ⟨v',w',hr,h2,h3,h4⟩:=run_append_blk (P:=P) W base t op.type 3 i0 _ 1 8 ht hi hz0 hz1 hz2 rfl (by decide) v zs.length (zs.map (Value.int .i64)) hown ⟨g,0,none⟩ 1 1 [.int .i64 y] rfl (fun j u hj=>by
  cases j with
  | zero=>simp only [List.getElem?_cons_zero,Option.some.injEq] at hj;subst hj;exact hnew
  | succ j=>simp at hj) (fun u hu=>by simp at hu;subst hu;rfl) (by unfold maxLen;omega) (by omega) hbase (by omega)
 unfold Oper.wp execOp
 simp only [ho,resolve,invoke,builtin,Sem.run_bind,Sem.run_pure,Result.andThen_ok,List.map_toArray,List.map_cons,List.map_nil,hs,hx,hr]
 refine h v' w' ?_ h3 h4
 unfold OwnI
 rw [List.length_append,List.map_append]
 exact h2
end
set_option maxRecDepth 100000 in
set_option maxHeartbeats 8000000 in
theorem Atoms_any (enc lim:Int) (L:List Int) (w:World) (t:Nat) (ps:List PG) (a b:Int) (h:Tx enc lim L w t ps):Calls Tryz.prog 33 #[.pointer (some ⟨t,0,none⟩),.int .i64 a,.int .i64 b] w fun e w'=>AtR ((btw enc ps (clp (sh enc ps).length a b).1 (clp (sh enc ps).length a b).2).map Prod.fst) w e w':=by
 obtain ⟨i0,hi,hz0,hz1,hz2⟩:=info_parts Tryz.info_i64
 have CL:=hidIt (clip_any enc lim L w t ps a b h)
 obtain ⟨hc1,hc2⟩:=clp_le (sh enc ps).length a b
 have hs:=h.sum.2.2
 generalize (clp (sh enc ps).length a b).1=f at *
 generalize (clp (sh enc ps).length a b).2=tz at *
 have HT:=hidIt h
 clear h
 obtain ⟨n,hn⟩:∃ n,n=tz - f:=⟨_,rfl⟩
 have hwn:IntKind.i64.wrap ((tz:Int) - (f:Int))=(n:Nat):=by rw [IntKind.wrap_i64];omega
 have HN:=hidIt hn
 have hnl:n≤65536:=by omega
 clear hn
 refine (callsIn_wide (n:=9)).1 ?_
 refine callsIn_of_wp_marks Tryz.func33 rfl trivial ?_ rfl
 simp only [Tryz.ntmps33,List.size_toArray,List.length_cons,List.length_nil,Nat.reduceAdd,Nat.reduceSub,Array.replicate_succ,Array.replicate_zero,List.push_toArray,List.append_toArray,List.nil_append,List.cons_append]
 refine wpIn_mono (Q:=calm _) ?_ (fun _ _ _ h=>calm_imp h)
 refine wpIn_wide.2 ?_
 go_upto_region 3 with (first
  | (go_at_call 63;refine CL.out.mono ?_;rintro e w1 ⟨rfl,hb1⟩;have HB1:=hidIt hb1;have HS1:=hidIt hb1.size;clear hb1;(try dsimp only))
  | (refine wpList_make_own w1 rfl _ _ 22 rfl w.heap.size 3 i0 (.int .i64 0) 1 Tryz.underlying22 hi hz0 hz1 .i64 .i64 _ n rfl rfl rfl (by rw [hz2];omega) (by unfold maxLen;omega) HS1.out ?_;intro w2 hO hg;have HO:=hidIt hO;have HG:=hidIt hg;clear hO hg))
 obtain ⟨w3,hw3,k3,hb3⟩:∃ w3,w3=w2.alloc (.cells #[.slice (some ⟨w1.heap.size,0,none⟩) 0 n] 22)∧w3.heap[w2.heap.size]?=some (.cells #[.slice (some ⟨w1.heap.size,0,none⟩) 0 n] 22 (0,0))∧Below w2.heap.size w2 w3:=⟨_,rfl,heap_alloc_new _ _,ext_alloc (Below.refl _ _) _⟩
 rw [← hw3]
 clear hw3
 have HB2:=hidIt (Below.grown (Below.refl w1.heap.size w1) HG.out (Nat.le_refl _) (fun k e=>by cases e))
 have HB3:=hidIt (ext_trans (ext_trans HB1.out HB2.out) hb3)
 have HO3:Hid (OwnI w3 w.heap.size (.slice (some ⟨w1.heap.size,0,none⟩) 0 n) []):=World.ownsRow.kept (row:=none) HO.out ⟨hb3.os,hb3.tape,hb3.output,hb3.size,fun k hk _=>hb3.block k hk⟩ (by simp [Value.ownBlock])
 have HK3:=hidIt k3
 have BT:=hidIt (between_any t f tz w3)
 have hz1':w1.heap.size < w2.heap.size:=by
  have:=HO3.out.typ (k:=w1.heap.size) (by simp [Value.ownBlock])
  have h2:=HO.out.2
  rcases h2 with ⟨e,_⟩ | ⟨g,cap,cur,e,_,hg,_⟩
  ·cases e
  ·simp only [Value.slice.injEq,Option.some.injEq,Addr.mk.injEq] at e
   rw [e.1.1]
   exact (Array.getElem?_eq_some_iff.1 hg).1
 have hz2':w2.heap.size < w3.heap.size:=(Array.getElem?_eq_some_iff.1 k3).1
 clear k3 hb3 HO HG
 go_upto_block 0 with (go_at_call 64;refine BT.out.mono ?_;rintro e w4 ⟨rfl,hw4⟩;have HW4:=hidIt hw4;clear hw4;(try dsimp only))
 have HB4:Hid (Below w3.heap.size w3 w4):=by unfold Hid;rw [HW4.out];exact ext_alloc (ext_alloc (ext_alloc (Below.refl _ _) _) _) _
 have hs4:w4.heap.size=w3.heap.size + 3:=by rw [HW4.out];simp
 have HK4:Hid (w4.heap[w3.heap.size]?=some (.cells #[.pointer (some ⟨t,0,none⟩)] 24 (0,0))∧w4.heap[w3.heap.size + 1]?=some (.cells #[.int .i64 f] 3 (0,0))∧w4.heap[w3.heap.size + 2]?=some (.cells #[.int .i64 tz] 3 (0,0))):=by
  unfold Hid
  rw [HW4.out]
  refine ⟨?_,?_,?_⟩
  ·exact (Below.heap_alloc _ _ _ (by simp;omega)).trans ((Below.heap_alloc _ _ _ (by simp)).trans (heap_alloc_new _ _))
  ·have e:w3.heap.size + 1=(w3.alloc (.cells #[.pointer (some ⟨t,0,none⟩)] 24)).heap.size:=by simp
   rw [e]
   exact (Below.heap_alloc _ _ _ (by simp)).trans (heap_alloc_new _ _)
  ·have e:w3.heap.size + 2=((w3.alloc (.cells #[.pointer (some ⟨t,0,none⟩)] 24)).alloc (.cells #[.int .i64 f] 3)).heap.size:=by simp
   rw [e]
   exact heap_alloc_new _ _
 have HBw4:=hidIt (ext_trans HB3.out HB4.out)
 have zw:=HS1.out
 have SQ:=hidIt (between_stops 8 enc lim L t ps f tz hc1 hc2 w HT.out w4 HBw4.out w3.heap.size (w3.heap.size + 1) (w3.heap.size + 2) (by omega) (by omega) (by omega) HK4.out.1 HK4.out.2.1 HK4.out.2.2)
 clear BT HW4
 refine (wpIn_wide (n:=9)).1 ?_
 gi_wp2_with fail
 refine range_x (σ:=Value) rfl (by omega) (gf:=99) (lb:=#[.pointer (some ⟨w3.heap.size,0,none⟩),.pointer (some ⟨w3.heap.size + 1,0,none⟩),.pointer (some ⟨w3.heap.size + 2,0,none⟩)]) rfl trivial (enters_of Tryz.func99 (by kernel_rfl) rfl) SQ.out (Kps.refl _ _) (fun _=>rfl)
  (atO w2.heap.size) (fun v pre W=>AtI w2.heap.size w.heap.size v (pre.map Prod.fst) W∧w.heap.size≤W.heap.size) (fun _ _ _ _=>False) (.slice (some ⟨w1.heap.size,0,none⟩) 0 n) ?rel (fun _=>False) (fun _ h=>h.elim) (fun _ _ _ _ h hz hk=>⟨h.1.same (fun k ho=>hk k (.inl ho)),Nat.le_trans h.2 hz⟩) (fun _ _ _ _ _ h _ _=>h) (fun _ _ _ h=>h.1.lives) ?h0
  (fun q a' W=>a'={ tmps:=#[.pointer (some ⟨t,0,none⟩),.int .i64 f,.int .i64 tz,undef,undef,undef,.slice none 0 0,.pointer (some ⟨w2.heap.size,0,none⟩),.int .i64 q.1,.tuple #[.int .i64 f,.int .i64 tz],.pointer (some ⟨t,0,none⟩),.int .i64 a,.int .i64 b,.tuple #[.int .i64 f,.int .i64 tz],.int .i64 f,.int .i64 tz,.int .i64 tz,.int .i64 f,.int .i64 n,.slice (some ⟨w1.heap.size,0,none⟩) 0 n,.pointer (some ⟨t,0,none⟩),.int .i64 f,.int .i64 tz,.func (.func 99) #[] #[.pointer (some ⟨w3.heap.size,0,none⟩),.pointer (some ⟨w3.heap.size + 1,0,none⟩),.pointer (some ⟨w3.heap.size + 2,0,none⟩)],.int .i64 q.1,.int .i64 q.2,undef,undef,undef,undef,undef],defers:=[] }) (fun _ _ _ _ h _ _=>h) ?assign ?body ?done ?stop
 case rel =>
  intro k hk
  have hng:atO w2.heap.size (.slice (some ⟨w1.heap.size,0,none⟩) 0 n) k→k=w2.heap.size∨k=w1.heap.size:=fun h=>by
   rcases h with h | h
   ·exact .inl h
   ·simp [Value.ownBlock] at h;exact .inr h.symm
  rcases hk with hk | rfl | rfl | rfl
  ·exact ⟨by omega,fun h=>by have:=hng h;omega⟩
  ·exact ⟨by omega,fun h=>by have:=hng h;omega⟩
  ·exact ⟨by omega,fun h=>by have:=hng h;omega⟩
  ·exact ⟨by omega,fun h=>by have:=hng h;omega⟩
 case h0 =>
  refine ⟨⟨(HB4.out.block _ hz2').trans HK3.out,?_⟩,HBw4.out.size⟩
  exact World.ownsRow.kept (row:=none) HO3.out ⟨HB4.out.os,HB4.out.tape,HB4.out.output,HB4.out.size,fun k hk _=>HB4.out.block k hk⟩ (by simp [Value.ownBlock])
 case assign =>
  intro l q W K hz hK
  gi_wp2_with fail
  exact hK _ _ (Below.refl _ _) rfl
 case body =>
  rintro l v pre q a' W ⟨hI,hwW⟩ rfl hSp hzW
  obtain ⟨ao,capo,hvo⟩:=hI.own.form
  rw [List.length_map] at hvo
  subst hvo
  have HI:=hidIt hI
  have cb:W.cell? ⟨w2.heap.size,0,none⟩=some (.slice ao pre.length capo):=by rw [cell_of_row W _ _ _ _ _ hI.bxx];rfl
  have hbl:=hI.lives _ (.inl rfl)
  have hpl:pre.length + 1≤1099511627776:=by
   have h1:=hSp.length_le
   rw [btw_len hc2] at h1
   simp at h1
   omega
  have HPL:=hidIt (show (pre.map Prod.fst).length + 1≤1099511627776 by rw [List.length_map];exact hpl)
  obtain ⟨z,hz⟩:∃ z,z=q.1:=⟨_,rfl⟩
  have HZ:=hidIt hz
  have NEW:Hid ((W.alloc (.cells #[.int .i64 z] 3)).cell? ⟨W.heap.size,0,none⟩=some (.int .i64 z)):=by unfold Hid;rw [cell_of_row _ _ _ _ _ _ (heap_alloc_new _ _)];rfl
  have HOW:Hid (OwnI (W.alloc (.cells #[.int .i64 z] 3)) w.heap.size (.slice ao pre.length capo) (pre.map Prod.fst)):=World.ownsRow.kept (row:=none) HI.out.own ⟨rfl,rfl,rfl,size_alloc_le _ _,fun k hk _=>Below.heap_alloc _ _ _ hk⟩ (by cases ao <;> simp [Value.ownBlock])
  have CGF:Hid (∀ w',(W.alloc (.cells #[.int .i64 z] 3)).grownBy w' (Value.ownBlock (.slice ao pre.length capo))→w'.cell? ⟨w2.heap.size,0,none⟩=some (.slice ao pre.length capo)∧(∀ i,w'.frozen? ⟨w2.heap.size,i,none⟩=false)):=fun w' hg=>by
   have e:w'.heap[w2.heap.size]?=W.heap[w2.heap.size]?:=(hg.block _ (by simp;omega) (fun e=>absurd ((HI.out.own.typ e.symm).uniq ⟨_,HI.out.bxx⟩) (by decide))).trans (Below.heap_alloc _ _ _ hbl)
   exact ⟨by rw [cell_same e];exact cb,fun i=>by simp [World.frozen?,e,HI.out.bxx]⟩
  rw [← hz]
  clear hz hI hSp
  refine wpIn_block ?_
  gi_wp2_with (gi_at_builtin;refine wpListIn_plain rfl fun K hK=>?_;refine oper_in (fun c hc=>by cases hc) (fun _ _ h=>h) ?_;refine wp_append_int (.tmp 26) (.tmp 28) 22 rfl w.heap.size 3 rfl Tryz.info_i64 Tryz.underlying22 _ (pre.map Prod.fst) rfl HOW.out z W.heap.size rfl NEW.out HPL.out (by simp;omega) ?_;intro v' w9 hown' hg' hk';obtain ⟨n',ao',cap',hv'⟩:∃ n' ao' cap',v'=.slice ao' n' cap':=(let ⟨a,b,c⟩:=hown'.form;⟨_,a,b,c⟩);subst hv';have PU:=hidIt (HI.out.push (ext_alloc (Below.refl _ _) _) hown' hg' hk');obtain ⟨cg9,cf9⟩:=CGF.out w9 hg';refine hK _ _ ?_;clear hK hown' hg' hk' cb)
  refine ⟨_,⟨?_,Nat.le_trans hwW PU.out.2.1.size⟩,PU.out.2.1,PU.out.2.2⟩
  rw [List.map_append,List.map_cons,List.map_nil,← HZ.out]
  exact PU.out.1
 case done =>
  intro s xs W hk hnw hS ⟨hI,hwW⟩ hdf hno
  subst hS
  obtain ⟨ao,capo,hvo⟩:=hI.own.form
  rw [List.length_map] at hvo
  subst hvo
  have hob:=hI.bxx
  have hoc:W.cell? ⟨w2.heap.size,0,none⟩=some (.slice ao (btw enc ps f tz).length capo):=by rw [cell_of_row W _ _ _ _ _ hob];rfl
  gi_wp2
  go_wp2_with fail
  refine ⟨by simp,.inl ⟨_,_,rfl,run_takeDeferred hdf,?_⟩⟩
  refine ⟨_,results_tmp rfl _ _ _,?_⟩
  have zw4:=HBw4.out.size
  refine ⟨.slice ao (btw enc ps f tz).length capo,rfl,?_,?_⟩
  ·refine World.ownsRow.kept hI.own (grownBy_putObj' _ _ _) (.inr (fun e=>hno (.inr e)))
  ·refine HBw4.out.trans (Kps.below (o:=fun k=>w.heap.size≤k) ?_ zw4 (fun k hk=>hk))
   refine Kps.trans (hk.mono fun i _ hi=>?_) (Kps.put (o:=fun k=>w.heap.size≤k) _ zw4) (fun _ _ e=>e)
   rcases hi with rfl | hi
   ·omega
   ·simp [Value.ownBlock] at hi;omega
 case stop=>intro c s pre W _ _ _ h;exact h.elim
set_option maxRecDepth 100000 in
set_option maxHeartbeats 8000000 in
theorem Tags_any (enc lim:Int) (L:List Int) (w:World) (t:Nat) (ps:List PG) (a b:Int) (h:Tx enc lim L w t ps):Calls Tryz.prog 58 #[.pointer (some ⟨t,0,none⟩),.int .i64 a,.int .i64 b] w fun e w'=>AtR ((btw enc ps (clp (sh enc ps).length a b).1 (clp (sh enc ps).length a b).2).map Prod.snd) w e w':=by
 obtain ⟨i0,hi,hz0,hz1,hz2⟩:=info_parts Tryz.info_i64
 have CL:=hidIt (clip_any enc lim L w t ps a b h)
 obtain ⟨hc1,hc2⟩:=clp_le (sh enc ps).length a b
 have hs:=h.sum.2.2
 generalize (clp (sh enc ps).length a b).1=f at *
 generalize (clp (sh enc ps).length a b).2=tz at *
 have HT:=hidIt h
 clear h
 obtain ⟨n,hn⟩:∃ n,n=tz - f:=⟨_,rfl⟩
 have hwn:IntKind.i64.wrap ((tz:Int) - (f:Int))=(n:Nat):=by rw [IntKind.wrap_i64];omega
 have HN:=hidIt hn
 have hnl:n≤65536:=by omega
 clear hn
 refine (callsIn_wide (n:=9)).1 ?_
 refine callsIn_of_wp_marks Tryz.func58 rfl trivial ?_ rfl
 simp only [Tryz.ntmps58,List.size_toArray,List.length_cons,List.length_nil,Nat.reduceAdd,Nat.reduceSub,Array.replicate_succ,Array.replicate_zero,List.push_toArray,List.append_toArray,List.nil_append,List.cons_append]
 refine wpIn_mono (Q:=calm _) ?_ (fun _ _ _ h=>calm_imp h)
 refine wpIn_wide.2 ?_
 go_upto_region 3 with (first
  | (go_at_call 63;refine CL.out.mono ?_;rintro e w1 ⟨rfl,hb1⟩;have HB1:=hidIt hb1;have HS1:=hidIt hb1.size;clear hb1;(try dsimp only))
  | (refine wpList_make_own w1 rfl _ _ 22 rfl w.heap.size 3 i0 (.int .i64 0) 1 Tryz.underlying22 hi hz0 hz1 .i64 .i64 _ n rfl rfl rfl (by rw [hz2];omega) (by unfold maxLen;omega) HS1.out ?_;intro w2 hO hg;have HO:=hidIt hO;have HG:=hidIt hg;clear hO hg))
 obtain ⟨w3,hw3,k3,hb3⟩:∃ w3,w3=w2.alloc (.cells #[.slice (some ⟨w1.heap.size,0,none⟩) 0 n] 22)∧w3.heap[w2.heap.size]?=some (.cells #[.slice (some ⟨w1.heap.size,0,none⟩) 0 n] 22 (0,0))∧Below w2.heap.size w2 w3:=⟨_,rfl,heap_alloc_new _ _,ext_alloc (Below.refl _ _) _⟩
 rw [← hw3]
 clear hw3
 have HB2:=hidIt (Below.grown (Below.refl w1.heap.size w1) HG.out (Nat.le_refl _) (fun k e=>by cases e))
 have HB3:=hidIt (ext_trans (ext_trans HB1.out HB2.out) hb3)
 have HO3:Hid (OwnI w3 w.heap.size (.slice (some ⟨w1.heap.size,0,none⟩) 0 n) []):=World.ownsRow.kept (row:=none) HO.out ⟨hb3.os,hb3.tape,hb3.output,hb3.size,fun k hk _=>hb3.block k hk⟩ (by simp [Value.ownBlock])
 have HK3:=hidIt k3
 have BT:=hidIt (between_any t f tz w3)
 have hz1':w1.heap.size < w2.heap.size:=by
  have:=HO3.out.typ (k:=w1.heap.size) (by simp [Value.ownBlock])
  have h2:=HO.out.2
  rcases h2 with ⟨e,_⟩ | ⟨g,cap,cur,e,_,hg,_⟩
  ·cases e
  ·simp only [Value.slice.injEq,Option.some.injEq,Addr.mk.injEq] at e
   rw [e.1.1]
   exact (Array.getElem?_eq_some_iff.1 hg).1
 have hz2':w2.heap.size < w3.heap.size:=(Array.getElem?_eq_some_iff.1 k3).1
 clear k3 hb3 HO HG
 go_upto_block 0 with (go_at_call 64;refine BT.out.mono ?_;rintro e w4 ⟨rfl,hw4⟩;have HW4:=hidIt hw4;clear hw4;(try dsimp only))
 have HB4:Hid (Below w3.heap.size w3 w4):=by unfold Hid;rw [HW4.out];exact ext_alloc (ext_alloc (ext_alloc (Below.refl _ _) _) _) _
 have hs4:w4.heap.size=w3.heap.size + 3:=by rw [HW4.out];simp
 have HK4:Hid (w4.heap[w3.heap.size]?=some (.cells #[.pointer (some ⟨t,0,none⟩)] 24 (0,0))∧w4.heap[w3.heap.size + 1]?=some (.cells #[.int .i64 f] 3 (0,0))∧w4.heap[w3.heap.size + 2]?=some (.cells #[.int .i64 tz] 3 (0,0))):=by
  unfold Hid
  rw [HW4.out]
  refine ⟨?_,?_,?_⟩
  ·exact (Below.heap_alloc _ _ _ (by simp;omega)).trans ((Below.heap_alloc _ _ _ (by simp)).trans (heap_alloc_new _ _))
  ·have e:w3.heap.size + 1=(w3.alloc (.cells #[.pointer (some ⟨t,0,none⟩)] 24)).heap.size:=by simp
   rw [e]
   exact (Below.heap_alloc _ _ _ (by simp)).trans (heap_alloc_new _ _)
  ·have e:w3.heap.size + 2=((w3.alloc (.cells #[.pointer (some ⟨t,0,none⟩)] 24)).alloc (.cells #[.int .i64 f] 3)).heap.size:=by simp
   rw [e]
   exact heap_alloc_new _ _
 have HBw4:=hidIt (ext_trans HB3.out HB4.out)
 have zw:=HS1.out
 have SQ:=hidIt (between_stops 8 enc lim L t ps f tz hc1 hc2 w HT.out w4 HBw4.out w3.heap.size (w3.heap.size + 1) (w3.heap.size + 2) (by omega) (by omega) (by omega) HK4.out.1 HK4.out.2.1 HK4.out.2.2)
 clear BT HW4
 refine (wpIn_wide (n:=9)).1 ?_
 gi_wp2_with fail
 refine range_x (σ:=Value) rfl (by omega) (gf:=99) (lb:=#[.pointer (some ⟨w3.heap.size,0,none⟩),.pointer (some ⟨w3.heap.size + 1,0,none⟩),.pointer (some ⟨w3.heap.size + 2,0,none⟩)]) rfl trivial (enters_of Tryz.func99 (by kernel_rfl) rfl) SQ.out (Kps.refl _ _) (fun _=>rfl)
  (atO w2.heap.size) (fun v pre W=>AtI w2.heap.size w.heap.size v (pre.map Prod.snd) W∧w.heap.size≤W.heap.size) (fun _ _ _ _=>False) (.slice (some ⟨w1.heap.size,0,none⟩) 0 n) ?rel (fun _=>False) (fun _ h=>h.elim) (fun _ _ _ _ h hz hk=>⟨h.1.same (fun k ho=>hk k (.inl ho)),Nat.le_trans h.2 hz⟩) (fun _ _ _ _ _ h _ _=>h) (fun _ _ _ h=>h.1.lives) ?h0
  (fun q a' W=>a'={ tmps:=#[.pointer (some ⟨t,0,none⟩),.int .i64 f,.int .i64 tz,undef,undef,undef,.slice none 0 0,.pointer (some ⟨w2.heap.size,0,none⟩),undef,.int .i64 q.2,.tuple #[.int .i64 f,.int .i64 tz],.pointer (some ⟨t,0,none⟩),.int .i64 a,.int .i64 b,.tuple #[.int .i64 f,.int .i64 tz],.int .i64 f,.int .i64 tz,.int .i64 tz,.int .i64 f,.int .i64 n,.slice (some ⟨w1.heap.size,0,none⟩) 0 n,.pointer (some ⟨t,0,none⟩),.int .i64 f,.int .i64 tz,.func (.func 99) #[] #[.pointer (some ⟨w3.heap.size,0,none⟩),.pointer (some ⟨w3.heap.size + 1,0,none⟩),.pointer (some ⟨w3.heap.size + 2,0,none⟩)],.int .i64 q.1,.int .i64 q.2,undef,undef,undef,undef,undef],defers:=[] }) (fun _ _ _ _ h _ _=>h) ?assign ?body ?done ?stop
 case rel =>
  intro k hk
  have hng:atO w2.heap.size (.slice (some ⟨w1.heap.size,0,none⟩) 0 n) k→k=w2.heap.size∨k=w1.heap.size:=fun h=>by
   rcases h with h | h
   ·exact .inl h
   ·simp [Value.ownBlock] at h;exact .inr h.symm
  rcases hk with hk | rfl | rfl | rfl
  ·exact ⟨by omega,fun h=>by have:=hng h;omega⟩
  ·exact ⟨by omega,fun h=>by have:=hng h;omega⟩
  ·exact ⟨by omega,fun h=>by have:=hng h;omega⟩
  ·exact ⟨by omega,fun h=>by have:=hng h;omega⟩
 case h0 =>
  refine ⟨⟨(HB4.out.block _ hz2').trans HK3.out,?_⟩,HBw4.out.size⟩
  exact World.ownsRow.kept (row:=none) HO3.out ⟨HB4.out.os,HB4.out.tape,HB4.out.output,HB4.out.size,fun k hk _=>HB4.out.block k hk⟩ (by simp [Value.ownBlock])
 case assign =>
  intro l q W K hz hK
  gi_wp2_with fail
  exact hK _ _ (Below.refl _ _) rfl
 case body =>
  rintro l v pre q a' W ⟨hI,hwW⟩ rfl hSp hzW
  obtain ⟨ao,capo,hvo⟩:=hI.own.form
  rw [List.length_map] at hvo
  subst hvo
  have HI:=hidIt hI
  have cb:W.cell? ⟨w2.heap.size,0,none⟩=some (.slice ao pre.length capo):=by rw [cell_of_row W _ _ _ _ _ hI.bxx];rfl
  have hbl:=hI.lives _ (.inl rfl)
  have hpl:pre.length + 1≤1099511627776:=by
   have h1:=hSp.length_le
   rw [btw_len hc2] at h1
   simp at h1
   omega
  have HPL:=hidIt (show (pre.map Prod.snd).length + 1≤1099511627776 by rw [List.length_map];exact hpl)
  obtain ⟨z,hz⟩:∃ z,z=q.2:=⟨_,rfl⟩
  have HZ:=hidIt hz
  have NEW:Hid ((W.alloc (.cells #[.int .i64 z] 3)).cell? ⟨W.heap.size,0,none⟩=some (.int .i64 z)):=by unfold Hid;rw [cell_of_row _ _ _ _ _ _ (heap_alloc_new _ _)];rfl
  have HOW:Hid (OwnI (W.alloc (.cells #[.int .i64 z] 3)) w.heap.size (.slice ao pre.length capo) (pre.map Prod.snd)):=World.ownsRow.kept (row:=none) HI.out.own ⟨rfl,rfl,rfl,size_alloc_le _ _,fun k hk _=>Below.heap_alloc _ _ _ hk⟩ (by cases ao <;> simp [Value.ownBlock])
  have CGF:Hid (∀ w',(W.alloc (.cells #[.int .i64 z] 3)).grownBy w' (Value.ownBlock (.slice ao pre.length capo))→w'.cell? ⟨w2.heap.size,0,none⟩=some (.slice ao pre.length capo)∧(∀ i,w'.frozen? ⟨w2.heap.size,i,none⟩=false)):=fun w' hg=>by
   have e:w'.heap[w2.heap.size]?=W.heap[w2.heap.size]?:=(hg.block _ (by simp;omega) (fun e=>absurd ((HI.out.own.typ e.symm).uniq ⟨_,HI.out.bxx⟩) (by decide))).trans (Below.heap_alloc _ _ _ hbl)
   exact ⟨by rw [cell_same e];exact cb,fun i=>by simp [World.frozen?,e,HI.out.bxx]⟩
  rw [← hz]
  clear hz hI hSp
  refine wpIn_block ?_
  gi_wp2_with (gi_at_builtin;refine wpListIn_plain rfl fun K hK=>?_;refine oper_in (fun c hc=>by cases hc) (fun _ _ h=>h) ?_;refine wp_append_int (.tmp 27) (.tmp 29) 22 rfl w.heap.size 3 rfl Tryz.info_i64 Tryz.underlying22 _ (pre.map Prod.snd) rfl HOW.out z W.heap.size rfl NEW.out HPL.out (by simp;omega) ?_;intro v' w9 hown' hg' hk';obtain ⟨n',ao',cap',hv'⟩:∃ n' ao' cap',v'=.slice ao' n' cap':=(let ⟨a,b,c⟩:=hown'.form;⟨_,a,b,c⟩);subst hv';have PU:=hidIt (HI.out.push (ext_alloc (Below.refl _ _) _) hown' hg' hk');obtain ⟨cg9,cf9⟩:=CGF.out w9 hg';refine hK _ _ ?_;clear hK hown' hg' hk' cb)
  refine ⟨_,⟨?_,Nat.le_trans hwW PU.out.2.1.size⟩,PU.out.2.1,PU.out.2.2⟩
  rw [List.map_append,List.map_cons,List.map_nil,← HZ.out]
  exact PU.out.1
 case done =>
  intro s xs W hk hnw hS ⟨hI,hwW⟩ hdf hno
  subst hS
  obtain ⟨ao,capo,hvo⟩:=hI.own.form
  rw [List.length_map] at hvo
  subst hvo
  have hob:=hI.bxx
  have hoc:W.cell? ⟨w2.heap.size,0,none⟩=some (.slice ao (btw enc ps f tz).length capo):=by rw [cell_of_row W _ _ _ _ _ hob];rfl
  gi_wp2
  go_wp2_with fail
  refine ⟨by simp,.inl ⟨_,_,rfl,run_takeDeferred hdf,?_⟩⟩
  refine ⟨_,results_tmp rfl _ _ _,?_⟩
  have zw4:=HBw4.out.size
  refine ⟨.slice ao (btw enc ps f tz).length capo,rfl,?_,?_⟩
  ·refine World.ownsRow.kept hI.own (grownBy_putObj' _ _ _) (.inr (fun e=>hno (.inr e)))
  ·refine HBw4.out.trans (Kps.below (o:=fun k=>w.heap.size≤k) ?_ zw4 (fun k hk=>hk))
   refine Kps.trans (hk.mono fun i _ hi=>?_) (Kps.put (o:=fun k=>w.heap.size≤k) _ zw4) (fun _ _ e=>e)
   rcases hi with rfl | hi
   ·omega
   ·simp [Value.ownBlock] at hi;omega
 case stop=>intro c s pre W _ _ _ h;exact h.elim
end Go.Proofs.YtdkpkncolpapoaaGreat.P

namespace Go.Proofs.YtdkpkncolpapoaaGreat.P
open Go.RowKit
set_option maxRecDepth 100000 in
theorem sameInts_any (v1 v2:Value) (zs:List Int) (w:World) (h1:Rd .i64 w v1 zs) (h2:Rd .i64 w v2 zs) :
  Calls Tryz.prog 22 #[v1,v2] w fun e w'=>e=.returned (.bool true)∧Below w.heap.size w w':=by
 have hlen:=h1.len
 obtain ⟨ao,cap,rfl,hl1,hc1,h1⟩:=h1
 obtain ⟨ao2,cap2,rfl,hl2,hc2,h2⟩:=h2
 by_cases hn:zs=[]
 ·subst hn
  clear h1 h2
  simp only [List.length_nil]
  go_enter Tryz.func22,Tryz.ntmps22
  go_wp2
  refine wp_loop_rounds 1 ?_
  rw [rounds_succ]
  go_wp2
  go_ret
  exact ⟨rfl,Below.refl _ _⟩
 ·obtain ⟨b,off,rfl,hb,hcl⟩:=h1 hn
  obtain ⟨b2,off2,rfl,hb2,hcl2⟩:=h2 hn
  have hq:((zs.length:Int) != (zs.length:Int))=false:=by simp
  clear h1 h2 hn
  go_enter Tryz.func22,Tryz.ntmps22
  go_wp2
  go_loopw [5] (fun i wr=>∃ k:Nat,k≤zs.length∧i=.int .i64 k∧Below w.heap.size w wr) (fun i _=>zs.length - (intOf i).toNat)
  case atStart=>exact ⟨0,Nat.zero_le _,rfl,Below.refl _ _⟩
  case round =>
   obtain ⟨k,hk,rfl,hbw⟩:=hrel
   by_cases hlt:k < zs.length
   ·have c1:wr.cell? ⟨b,off + k,none⟩=some (.int .i64 (zs[k]?.getD 0)):=(hbw.cell (p:=⟨b,off + k,none⟩) hb).trans (hcl _ hlt)
    have c2:wr.cell? ⟨b2,off2 + k,none⟩=some (.int .i64 (zs[k]?.getD 0)):=(hbw.cell (p:=⟨b2,off2 + k,none⟩) hb2).trans (hcl2 _ hlt)
    have hi1:(k:Int) < (zs.length:Int):=by omega
    generalize zs[k]?.getD 0=x at *
    clear hcl hcl2
    go_wp2
    go_quiet (fail)
    go_wp2
    go_roundw
    case rel=>exact ⟨k + 1,by omega,by go_num,below_drewN hbw _⟩
    case measure=>simp [intOf];omega
   ·clear hcl hcl2
    go_wp2
    go_ret
    exact ⟨rfl,hbw⟩
set_option maxRecDepth 100000 in
theorem sameBytes_eq (v1 v2:Value) (zs:List Int) (w:World) (h1:Rd .u8 w v1 zs) (h2:Rd .u8 w v2 zs) :
  Calls Tryz.prog 23 #[v1,v2] w fun e w'=>e=.returned (.bool true)∧Below w.heap.size w w':=by
 have hlen:=h1.len
 obtain ⟨ao,cap,rfl,hl1,hc1,h1⟩:=h1
 obtain ⟨ao2,cap2,rfl,hl2,hc2,h2⟩:=h2
 by_cases hn:zs=[]
 ·subst hn
  clear h1 h2
  simp only [List.length_nil]
  go_enter Tryz.func23,Tryz.ntmps23
  go_wp2
  refine wp_loop_rounds 1 ?_
  rw [rounds_succ]
  go_wp2
  go_ret
  exact ⟨rfl,Below.refl _ _⟩
 ·obtain ⟨b,off,rfl,hb,hcl⟩:=h1 hn
  obtain ⟨b2,off2,rfl,hb2,hcl2⟩:=h2 hn
  have hq:((zs.length:Int) != (zs.length:Int))=false:=by simp
  clear h1 h2 hn
  go_enter Tryz.func23,Tryz.ntmps23
  go_wp2
  go_loopw [5] (fun i wr=>∃ k:Nat,k≤zs.length∧i=.int .i64 k∧Below w.heap.size w wr) (fun i _=>zs.length - (intOf i).toNat)
  case atStart=>exact ⟨0,Nat.zero_le _,rfl,Below.refl _ _⟩
  case round =>
   obtain ⟨k,hk,rfl,hbw⟩:=hrel
   by_cases hlt:k < zs.length
   ·have c1:wr.cell? ⟨b,off + k,none⟩=some (.int .u8 (zs[k]?.getD 0)):=(hbw.cell (p:=⟨b,off + k,none⟩) hb).trans (hcl _ hlt)
    have c2:wr.cell? ⟨b2,off2 + k,none⟩=some (.int .u8 (zs[k]?.getD 0)):=(hbw.cell (p:=⟨b2,off2 + k,none⟩) hb2).trans (hcl2 _ hlt)
    have hi1:(k:Int) < (zs.length:Int):=by omega
    generalize zs[k]?.getD 0=x at *
    clear hcl hcl2
    go_wp2
    go_quiet (fail)
    go_wp2
    go_roundw
    case rel=>exact ⟨k + 1,by omega,by go_num,below_drewN hbw _⟩
    case measure=>simp [intOf];omega
   ·clear hcl hcl2
    go_wp2
    go_ret
    exact ⟨rfl,hbw⟩
def SeR (enc:Int) (ps:List PG) (w:World) (e:Ending) (w':World):Prop:=∃ va vt vb,e=.returned (.agg #[va,vt,vb])∧(OwnI w' w.heap.size va (asOf ps)∧OwnI w' w.heap.size vt ((sh enc ps).map Prod.snd)∧∃ b,vb=.slice (some ⟨b,0,none⟩) (Cx.encB enc (asOf ps)).length (Cx.encB enc (asOf ps)).length∧RwU w' b 0 (Cx.encB enc (asOf ps)))∧Below w.heap.size w w'
theorem clp_all (n:Nat):clp n 0 n=(0,n):=by
 unfold clp
 split
 ·have:n=0:=by omega
  subst this;rfl
 ·simp
theorem btw_all (enc:Int) (ps:List PG):btw enc ps 0 (sh enc ps).length=sh enc ps:=by unfold btw;rw [List.drop_zero,Nat.sub_zero,List.take_length]
theorem OwnI.ext {w w':World} {base:Nat} {v:Value} {zs:List Int} (h:OwnI w base v zs) (hb:Below w.heap.size w w'):OwnI w' base v zs:=World.ownsRow.kept (row:=none) h ⟨hb.os,hb.tape,hb.output,hb.size,fun k hk _=>hb.block k hk⟩ (by cases v.ownBlock <;> simp)
theorem OwnI.kps {w w':World} {base g:Nat} {v:Value} {zs:List Int} (h:OwnI w base v zs) (hk:Kps (fun k=>k=g) w w') (hg:g < base):OwnI w' base v zs:=by
 obtain ⟨h1,h2⟩:=h
 refine ⟨h1,?_⟩
 rcases h2 with h2 | ⟨k,cap,cur,hv,hb,hgg,r⟩
 ·exact .inl h2
 ·exact .inr ⟨k,cap,cur,hv,hb,(hk.same k (Array.getElem?_eq_some_iff.1 hgg).1 (fun e=>by omega)).trans hgg,r⟩
theorem put3 {T:TypeId} {w:World} {g:Nat} {a0 a1 a2:Value} (h:w.heap[g]?=some (.cells #[a0,a1,a2] T (0,0))) (x0 x1 x2:Value) :
  (((w.setCell ⟨g,0,none⟩ x0).setCell ⟨g,1,none⟩ x1).setCell ⟨g,2,none⟩ x2).heap[g]?=some (.cells #[x0,x1,x2] T (0,0))∧Kps (fun k=>k=g) w (((w.setCell ⟨g,0,none⟩ x0).setCell ⟨g,1,none⟩ x1).setCell ⟨g,2,none⟩ x2):=by
 obtain ⟨p0,q0⟩:=set1 h 0 x0
 obtain ⟨p1,q1⟩:=set1 p0 1 x1
 obtain ⟨p2,q2⟩:=set1 p1 2 x2
 have k:∀ {A B:World},A.grownBy B (some g)→Kps (fun k=>k=g) A B:=fun h=>Kps.grown h fun j e _=>(Option.some.inj e).symm
 exact ⟨p2,((k q0).trans (k q1) fun _ _ e=>e).trans (k q2) fun _ _ e=>e⟩
theorem OwnI.mono {w:World} {base base':Nat} {v:Value} {zs:List Int} (h:OwnI w base v zs) (hb:base'≤base):OwnI w base' v zs:=by
 obtain ⟨h1,h2⟩:=h
 refine ⟨h1,?_⟩
 rcases h2 with h2 | ⟨g,cap,cur,hv,hg,r⟩
 ·exact .inl h2
 ·exact .inr ⟨g,cap,cur,hv,by omega,r⟩
set_option maxRecDepth 100000 in
set_option maxHeartbeats 4000000 in
theorem see_any (enc lim:Int) (L:List Int) (w:World) (t:Nat) (ps:List PG) (h:Tx enc lim L w t ps):Calls Tryz.prog 21 #[.pointer (some ⟨t,0,none⟩)] w fun e w'=>SeR enc ps w e w':=by
 have LN:Hid (∀ w',Below w.heap.size w w'→Calls Tryz.prog 34 #[.pointer (some ⟨t,0,none⟩)] w' fun e w''=>e=.returned (.int .i64 (sh enc ps).length)∧Below w'.heap.size w' w''):=fun w' hb=>Len_any enc lim L w' t ps (h.ext hb)
 have AT:Hid (∀ w',Below w.heap.size w w'→Calls Tryz.prog 33 #[.pointer (some ⟨t,0,none⟩),.int .i64 0,.int .i64 (sh enc ps).length] w' fun e w''=>AtR (asOf ps) w' e w''):=fun w' hb=>by
  have:=Atoms_any enc lim L w' t ps 0 (sh enc ps).length (h.ext hb)
  rwa [clp_all,btw_all,sh_fst] at this
 have TG:Hid (∀ w',Below w.heap.size w w'→Calls Tryz.prog 58 #[.pointer (some ⟨t,0,none⟩),.int .i64 0,.int .i64 (sh enc ps).length] w' fun e w''=>AtR ((sh enc ps).map Prod.snd) w' e w''):=fun w' hb=>by
  have:=Tags_any enc lim L w' t ps 0 (sh enc ps).length (h.ext hb)
  rwa [clp_all,btw_all] at this
 have BY:Hid (∀ w',Below w.heap.size w w'→Calls Tryz.prog 31 #[.pointer (some ⟨t,0,none⟩)] w' fun e w''=>ByR (Cx.encB enc (asOf ps)) w' e w''):=fun w' hb=>Bytes_any enc lim L w' t ps (h.ext hb)
 have hbz:(Cx.encB enc (asOf ps)).length≤65536:=h.sz
 generalize (sh enc ps).length=ll at *
 clear h
 obtain ⟨w0,hw0,k2,hb0⟩:∃ w0,w0=w.alloc (.cells #[.slice none 0 0,.slice none 0 0,.slice none 0 0] 36)∧w0.heap[w.heap.size]?=some (.cells #[.slice none 0 0,.slice none 0 0,.slice none 0 0] 36 (0,0))∧Below w.heap.size w w0:=⟨_,rfl,heap_alloc_new _ _,ext_alloc (Below.refl _ _) _⟩
 have HK2:=hidIt k2
 have HB0:=hidIt hb0
 have hlt:w.heap.size < w0.heap.size:=(Array.getElem?_eq_some_iff.1 k2).1
 clear k2 hb0
 go_enter Tryz.func21,Tryz.ntmps21
 go_upto_region 1 with fail
 rw [← hw0]
 clear hw0
 go_upto_region 2 with (go_at_call 34;refine (LN.out w0 HB0.out).mono ?_;rintro e w1 ⟨rfl,hb1⟩;have HB1:=hidIt hb1;clear hb1;(try dsimp only))
 have HA1:=hidIt (AT.out w1 (ext_trans HB0.out HB1.out))
 go_wp2_with (first
  | (go_at_call 33;refine HA1.out.mono ?_;rintro e w2 ⟨va,rfl,ha,hb2⟩;obtain ⟨aa,ca,hva⟩:=ha.form;subst hva;have HVA:=hidIt ha;have HB2:=hidIt (ext_trans HB1.out hb2);have HZ1:=hidIt (Nat.lt_of_lt_of_le hlt HB1.out.size);have HZ2:=hidIt (Nat.lt_of_lt_of_le hlt (ext_trans HB1.out hb2).size);have HT2:=hidIt (TG.out w2 (ext_trans HB0.out (ext_trans HB1.out hb2)));clear ha hb2;(try dsimp only))
  | (go_at_call 58;refine HT2.out.mono ?_;rintro e w3 ⟨vt,rfl,ht,hb3⟩;obtain ⟨at',ct,hvt⟩:=ht.form;rw [List.length_map] at hvt;subst hvt;have HVT:=hidIt ht;have HVA3:=hidIt (HVA.out.ext hb3);have HB3:=hidIt (ext_trans HB2.out hb3);have HY3:=hidIt (BY.out w3 (ext_trans HB0.out (ext_trans HB2.out hb3)));clear ht hb3;(try dsimp only))
  | (go_at_call 31;refine HY3.out.mono ?_;rintro e w4 ⟨b,rfl,hr,hbb,hb4⟩;have HBB:=hidIt (Nat.lt_of_lt_of_le hlt (Nat.le_trans HB3.out.size hbb));have HVA4:=hidIt (HVA3.out.ext hb4);have HVT4:=hidIt (HVT.out.ext hb4);have HR4:=hidIt hr;have HB4:=hidIt (ext_trans HB3.out hb4);have hbl:=(hb4.block _ (Nat.lt_of_lt_of_le hlt HB3.out.size) |>.trans ((HB3.out.block _ hlt).trans HK2.out));have HBL:=hidIt hbl;have c2:w4.cell? ⟨w.heap.size,0,none⟩=some (.slice none 0 0)∧w4.cell? ⟨w.heap.size,1,none⟩=some (.slice none 0 0)∧w4.cell? ⟨w.heap.size,2,none⟩=some (.slice none 0 0):=(by refine ⟨?_,?_,?_⟩ <;> (rw [cell_of_row w4 _ _ _ _ _ hbl];rfl));have f2:∀ i,w4.frozen? ⟨w.heap.size,i,none⟩=false:=(fun i=>by simp [World.frozen?,hbl]);clear hr hbb hb4 hbl;(try dsimp only)))
 obtain ⟨p1,p2⟩:=put3 HBL.out (.slice aa (asOf ps).length ca) (.slice at' (sh enc ps).length ct) (.slice (some ⟨b,0,none⟩) (Cx.encB enc (asOf ps)).length (Cx.encB enc (asOf ps)).length)
 generalize hwz:World.setCell (World.setCell (World.setCell w4 _ _) _ _) _ _=z at *
 have r0:z.cell? ⟨w.heap.size,0,none⟩=some (.slice aa (asOf ps).length ca)∧z.cell? ⟨w.heap.size,1,none⟩=some (.slice at' (sh enc ps).length ct)∧z.cell? ⟨w.heap.size,2,none⟩=some (.slice (some ⟨b,0,none⟩) (Cx.encB enc (asOf ps)).length (Cx.encB enc (asOf ps)).length):=by refine ⟨?_,?_,?_⟩ <;> (rw [cell_of_row z _ _ _ _ _ p1];rfl)
 have F:Hid (SeR enc ps w (.returned (.agg #[.slice aa (asOf ps).length ca,.slice at' (sh enc ps).length ct,.slice (some ⟨b,0,none⟩) (Cx.encB enc (asOf ps)).length (Cx.encB enc (asOf ps)).length])) z):=by
  refine ⟨_,_,_,rfl,⟨(HVA4.out.kps p2 HZ1.out).mono (Nat.le_of_lt HZ1.out),(HVT4.out.kps p2 HZ2.out).mono (Nat.le_of_lt HZ2.out),?_⟩,?_⟩
  ·exact ⟨b,rfl,HR4.out.same (p2.same b HR4.out.lt (fun e=>by have:=HBB.out;omega))⟩
  ·have h4:=ext_trans HB0.out HB4.out
   exact h4.trans (p2.below h4.size (fun k hk=>Nat.le_of_eq hk.symm))
 exact bodyPost_ret (v:=.agg #[.slice aa (asOf ps).length ca,.slice at' (sh enc ps).length ct,.slice (some ⟨b,0,none⟩) (Cx.encB enc (asOf ps)).length (Cx.encB enc (asOf ps)).length]) (by simp [results,Tryz.results21,go_sem,r0]) rfl F.out
end Go.Proofs.YtdkpkncolpapoaaGreat.P

namespace Go.Proofs.YtdkpkncolpapoaaGreat.P
open Go.RowKit
end Go.Proofs.YtdkpkncolpapoaaGreat.P

namespace Go.Proofs.YtdkpkncolpapoaaGreat.P
open Go.RowKit
def OwnB (w:World) (base:Nat) (v:Value) (zs:List Int):Prop:=w.ownsRow base 5 1 v zs.length (zs.map (Value.int .u8))
section
variable {P:Program} {W:World} {ops:Array Oper} {rest:List Oper} {o:Oper} {a:Act} {Q:Exit→Act→World→Prop}
theorem wpl_bytes (hgd:o.guard=none) (s x:Operand) (t:TypeId) (ho:o.op=.call { callee:=.builtin .append,args:=#[s,x],argTypes:=#[t,t] })
  (base:Nat) (hinf:(P.info? 5).map (fun i=>(i.zero,i.size,i.bytes))=some (some (.int .u8 0),1,1)) (ht:P.underlying t=some (.slice 5))
  (v:Value) (zs:List Int) (hs:a.eval s=v) (hown:OwnB W base v zs) (ys:List Int) (ao:Option Addr) (m c:Nat) (hx:a.eval x=.slice ao m c) (hm:m=ys.length)
  (hys:(ao=none∧c=0∧ys=[])∨∃ ad,ao=some ad∧∀ j u,(ys.map (Value.int .u8))[j]?=some u→W.cell? (ad.add j)=some u) (hl:zs.length + ys.length≤1099511627776) (hbase:base≤W.heap.size)
  (h:∀ v' w',OwnB w' base v' (zs ++ ys)→Below base W w'→wpList P ops Q rest (a.put o.dst v') w'):wpList P ops Q (o :: rest) a W:=by
 obtain ⟨i0,hi,hz0,hz1,hz2⟩:=info_parts hinf
 subst hm
 rcases hys with ⟨rfl,rfl,rfl⟩ | ⟨ad,rfl,hc⟩
 ·refine wpList_append_own_none hgd s x t ho base 5 i0 1 ht hi v zs.length (zs.map (Value.int .u8)) hs hown hx ?_
  exact h v W (by rw [List.append_nil];exact hown) (Below.refl _ _)
 ·refine wpList_append_own W hgd s x t ho base 5 i0 (.int .u8 0) 1 1 ht hi hz0 hz1 hz2 rfl (by decide) v zs.length (zs.map (Value.int .u8)) hs hown ad ys.length c (ys.map (Value.int .u8)) hx (by simp) hc (fun u hu=>by rw [List.mem_map] at hu;obtain ⟨_,_,rfl⟩:=hu;rfl) (by unfold maxLen;omega) (by omega) hbase ?_
  intro v' w' h1 h2 _
  refine h v' w' ?_ ((Below.refl _ _).grown h2 hbase (fun k hk=>(World.ownsRow.lt hown k hk).1))
  unfold OwnB
  rw [List.length_append,List.map_append]
  exact h1
end
end Go.Proofs.YtdkpkncolpapoaaGreat.P

namespace Go.Proofs.YtdkpkncolpapoaaGreat.P
open Go.RowKit
def SnR (w:World) (va vt vb:Value) (az ts bs:List Int):Prop:=Rd .i64 w va az∧Rd .i64 w vt ts∧Rd .u8 w vb bs
theorem SnR.ext {w w':World} {va vt vb:Value} {az ts bs:List Int} (h:SnR w va vt vb az ts bs) (hb:Below w.heap.size w w'):SnR w' va vt vb az ts bs:=⟨h.1.ext hb,h.2.1.ext hb,h.2.2.ext hb⟩
set_option maxRecDepth 100000 in
set_option maxHeartbeats 4000000 in
theorem same_any (va vt vb ua ut ub:Value) (az ts bs:List Int) (w:World) (h:SnR w va vt vb az ts bs) (k:SnR w ua ut ub az ts bs) :
  Calls Tryz.prog 39 #[.agg #[va,vt,vb],.agg #[ua,ut,ub]] w fun e w'=>e=.returned (.bool true)∧Below w.heap.size w w':=by
 obtain ⟨a0,c0,rfl,_⟩:=id h.1
 obtain ⟨a1,c1,rfl,_⟩:=id h.2.1
 obtain ⟨a2,c2,rfl,_⟩:=id h.2.2
 obtain ⟨b0,d0,rfl,_⟩:=id k.1
 obtain ⟨b1,d1,rfl,_⟩:=id k.2.1
 obtain ⟨b2,d2,rfl,_⟩:=id k.2.2
 obtain ⟨w0,hw0⟩:∃ w0,w0=(w.alloc (.cells #[.slice a0 az.length c0,.slice a1 ts.length c1,.slice a2 bs.length c2] 36)).alloc (.cells #[.slice b0 az.length d0,.slice b1 ts.length d1,.slice b2 bs.length d2] 36):=⟨_,rfl⟩
 have hb0:Below w.heap.size w w0:=by rw [hw0];exact ext_alloc (ext_alloc (Below.refl _ _) _) _
 have e2:w0.heap[w.heap.size]?=some (.cells #[.slice a0 az.length c0,.slice a1 ts.length c1,.slice a2 bs.length c2] 36 (0,0)):=by rw [hw0];exact (Below.heap_alloc _ _ _ (by simp)).trans (heap_alloc_new _ _)
 have e3:w0.heap[w.heap.size + 1]?=some (.cells #[.slice b0 az.length d0,.slice b1 ts.length d1,.slice b2 bs.length d2] 36 (0,0)):=by
  have e:w.heap.size + 1=(w.alloc (.cells #[.slice a0 az.length c0,.slice a1 ts.length c1,.slice a2 bs.length c2] 36)).heap.size:=by simp
  rw [hw0,e]
  exact heap_alloc_new _ _
 have HC:Hid (∀ w',Below w0.heap.size w0 w'→(w'.cell? ⟨w.heap.size,0,none⟩=some (.slice a0 az.length c0)∧w'.cell? ⟨w.heap.size,1,none⟩=some (.slice a1 ts.length c1)∧w'.cell? ⟨w.heap.size,2,none⟩=some (.slice a2 bs.length c2))∧w'.cell? ⟨w.heap.size + 1,0,none⟩=some (.slice b0 az.length d0)∧w'.cell? ⟨w.heap.size + 1,1,none⟩=some (.slice b1 ts.length d1)∧w'.cell? ⟨w.heap.size + 1,2,none⟩=some (.slice b2 bs.length d2)):=fun w' hb=>by
  have q2:=(hb.block _ (Array.getElem?_eq_some_iff.1 e2).1).trans e2
  have q3:=(hb.block _ (Array.getElem?_eq_some_iff.1 e3).1).trans e3
  refine ⟨⟨?_,?_,?_⟩,?_,?_,?_⟩
  all_goals first | (rw [cell_of_row w' _ _ _ _ _ q2];rfl) | (rw [cell_of_row w' _ _ _ _ _ q3];rfl)
 have HB0:=hidIt hb0
 have S1:Hid (∀ w',Below w0.heap.size w0 w'→Calls Tryz.prog 22 #[.slice a0 az.length c0,.slice b0 az.length d0] w' fun e w''=>e=.returned (.bool true)∧Below w'.heap.size w' w''):=fun w' hb=>sameInts_any _ _ az w' (h.1.ext (ext_trans hb0 hb)) (k.1.ext (ext_trans hb0 hb))
 have S2:Hid (∀ w',Below w0.heap.size w0 w'→Calls Tryz.prog 22 #[.slice a1 ts.length c1,.slice b1 ts.length d1] w' fun e w''=>e=.returned (.bool true)∧Below w'.heap.size w' w''):=fun w' hb=>sameInts_any _ _ ts w' (h.2.1.ext (ext_trans hb0 hb)) (k.2.1.ext (ext_trans hb0 hb))
 have S3:Hid (∀ w',Below w0.heap.size w0 w'→Calls Tryz.prog 23 #[.slice a2 bs.length c2,.slice b2 bs.length d2] w' fun e w''=>e=.returned (.bool true)∧Below w'.heap.size w' w''):=fun w' hb=>sameBytes_eq _ _ bs w' (h.2.2.ext (ext_trans hb0 hb)) (k.2.2.ext (ext_trans hb0 hb))
 obtain ⟨x,y⟩:=HC.out w0 (Below.refl _ _)
 have HS1:=hidIt (S1.out w0 (Below.refl _ _))
 clear hb0 e2 e3 h k S1
 go_enter Tryz.func39,Tryz.ntmps39
 go_upto_region 1 with fail
 rw [← hw0]
 clear hw0
 go_wp2_with (first
  | (go_at_call 22;refine HS1.out.mono ?_;clear x y HS1;rintro e w1 ⟨rfl,hb1⟩;have HB1:=hidIt hb1;have HS2:=hidIt (S2.out w1 hb1);obtain ⟨x,y⟩:=HC.out w1 hb1;clear hb1;(try dsimp only))
  | (go_at_call 22;refine HS2.out.mono ?_;clear x y HS2;rintro e w2 ⟨rfl,hb2⟩;have HB2:=hidIt (ext_trans HB1.out hb2);have HS3:=hidIt (S3.out w2 (ext_trans HB1.out hb2));obtain ⟨x,y⟩:=HC.out w2 (ext_trans HB1.out hb2);clear hb2;(try dsimp only))
  | (go_at_call 23;refine HS3.out.mono ?_;clear x y HS3;rintro e w3 ⟨rfl,hb3⟩;have HB3:=hidIt (ext_trans HB2.out hb3);clear hb3;(try dsimp only)))
 go_ret
 exact ⟨rfl,ext_trans HB0.out HB3.out⟩
end Go.Proofs.YtdkpkncolpapoaaGreat.P
