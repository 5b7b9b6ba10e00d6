import Derived.Test.YtdhciadajendnaaGreatK23
set_option maxRecDepth 100000
namespace Go.Proofs.YtdhciadajendnaaGreat.P
open Go.RowKit
section
variable {P:Program} {W:World}
theorem wp_append_pieceB {op:Oper} {a:Act} {K:Act→World→Prop} {Q:Exit→Act→World→Prop} (s x:Operand) (t:TypeId)
  (ho:op.op=.call { callee:=.builtin .append,args:=#[s,x],argTypes:=#[t,t] })
  (base:Nat) (e:TypeId) (hinf:(P.info? e).map (fun i=>(i.zero,i.size,i.bytes))=some (some (.agg #[.slice It.zero.p It.zero.n It.zero.c,.int .i64 It.zero.pl,.int .i64 It.zero.sp.a,.int .i64 It.zero.sp.s,.int .i64 It.zero.sp.b,.bool It.zero.sp.lf,.bool It.zero.sp.cr]),7,64)) (ht:P.underlying t=some (.slice e))
  (v:Value) (xs:List It) (hs:a.eval s=v) (hown:OwnR W base e v xs) (y:It) (g:Nat) (hx:a.eval x=.slice (some ⟨g,0,none⟩) 1 1) (hnew:∀ j u,(pcs y)[j]?=some u→W.cell? ((⟨g,0,none⟩:Addr).add j)=some u)
  (hbytes:xs.length + 1≤1099511627776) (hbase:base≤W.heap.size)
  (h:∀ v' w',OwnR w' base e v' (xs ++ [y])→W.grownBy w' v.ownBlock→(v'.ownBlock=v.ownBlock∨v'.ownBlock=some W.heap.size)→K (a.put op.dst v') w'):op.wp P a W K Q:=by
 obtain ⟨i0,hi,hz0,hz1,hz2⟩:=info_parts hinf
 obtain ⟨v',w',hr,h2,h3,h4⟩:=run_append_blk (P:=P) W base t op.type e i0 _ 7 64 ht hi hz0 hz1 hz2 rfl (by decide) v xs.length (flat xs) hown ⟨g,0,none⟩ 1 1 (pcs y) rfl hnew (pcs_one y) (by unfold maxLen;omega) (by omega) hbase (by omega)
 unfold Oper.wp execOp
 simp only [ho,resolve,invoke,builtin,Sem.run_bind,Sem.run_pure,Result.andThen_ok,List.map_toArray,List.map_cons,List.map_nil,hs,hx,hr]
 refine h v' w' ?_ h3 h4
 unfold OwnR
 rw [List.length_append,flat_app,show flat [y]=pcs y by simp [flat]]
 exact h2
end
theorem cell_same {w w':World} {b:Nat} (h:w'.heap[b]?=w.heap[b]?) (i:Nat):w'.cell? ⟨b,i,none⟩=w.cell? ⟨b,i,none⟩:=by unfold World.cell?;simp only [h]
theorem froz_same {w w':World} {b:Nat} (h:w'.heap[b]?=w.heap[b]?) (i:Nat):w'.frozen? ⟨b,i,none⟩=w.frozen? ⟨b,i,none⟩:=by unfold World.frozen?;simp only [h]
theorem BlkI.same9 {w w':World} {g:Nat} {x:It} (h:BlkI w g x) (hb:w'.heap[g]?=w.heap[g]?):BlkI w' g x:=by unfold BlkI;rw [hb];exact h
def AdR (enc:Int) (L:List Int) (g bo:Nat) (w:World) (lv vo vm:Value) (os ms:List PG) (x:It) (gx:List Int) (e:Ending) (w':World):Prop :=
 ∃ v vm' ms',e=.returned v∧Wr enc L g bo w' lv vo vm' os ms'∧sh enc ms'=sh enc ms ++ ctn enc x.pl gx∧ms'.length≤ms.length + 1∧Kps (ow g bo vm) w w'∧(vm'.ownBlock=vm.ownBlock∨∃ k,vm'.ownBlock=some k∧w.heap.size≤k)
theorem AdR.drew {enc:Int} {L:List Int} {g bo:Nat} {w w':World} {lv vo vm:Value} {os ms:List PG} {x:It} {gx:List Int} {e:Ending} (h:AdR enc L g bo w lv vo vm os ms x gx e w'):AdR enc L g bo w lv vo vm os ms x gx e w'.drew:=by
 obtain ⟨v,vm',ms',h1,h2,h3,h4,h5,h6⟩:=h
 have hb:Below w'.heap.size w' w'.drew:=(Below.refl _ _).drew
 exact ⟨v,vm',ms',h1,h2.ext hb,h3,h4,h5.trans (Kps.of_below _ hb) fun _ _ e=>e,h6⟩
theorem ad_push {enc:Int} {L:List Int} {g bo:Nat} {w W w1:World} {lv vo vm vm':Value} {os ms:List PG} {x:It} {gx:List Int} (v:Value) (h:Wr enc L g bo w lv vo vm os ms) (hb:Below w.heap.size w W) (hx:Pc enc L w x gx) (hown:OwnR w1 0 97 vm' (xsOf ms ++ [x])) (hg:W.grownBy w1 vm.ownBlock) (hk:vm'.ownBlock=vm.ownBlock∨vm'.ownBlock=some W.heap.size) :
  AdR enc L g bo w lv vo vm os ms x gx (.returned v) (w1.setCell ⟨g,3,none⟩ vm'):=by
 obtain ⟨p1,p2⟩:=(h.ext hb).push (hx.ext hb) hown hg hk
 exact ⟨v,vm',ms ++ [(x,gx)],rfl,p1,by rw [sh_app,sh_one],by simp,(Kps.of_below _ hb).trans p2 fun _ _ e=>e,hk.imp id fun e=>⟨_,e,hb.size⟩⟩
set_option maxHeartbeats 8000000 in
theorem add_any (enc:Int) (he:Cx.En enc) (L:List Int) (hL:Byt L) (hLl:L.length≤1073741824) (g bo:Nat) (lv vo vm:Value) (x:It) (gx:List Int) (os ms:List PG) (w:World) (hW:Wr enc L g bo w lv vo vm os ms) (hx:Pc enc L w x gx) (hl:ln enc (asOf ms) + ln enc gx≤1073741824) :
  Calls Tryz.prog 99 #[.pointer (some ⟨g,0,none⟩),.agg #[.slice x.p x.n x.c,.int .i64 x.pl,.int .i64 x.sp.a,.int .i64 x.sp.s,.int .i64 x.sp.b,.bool x.sp.lf,.bool x.sp.cr]] w fun e w'=>AdR enc L g bo w lv vo vm os ms x gx e w':=by
 have hml:=hW.pm.len
 have hml2:=ln_ge enc (asOf ms)
 obtain ⟨ao,cap,hvm⟩:=hW.made.form1
 rw [xsOf_len] at hvm
 have HML:=zh (show (xsOf ms).length + 1≤1099511627776 by rw [xsOf_len];omega)
 obtain ⟨w1,hw1,kx,hb1⟩:∃ w1,w1=w.alloc (.cells #[.slice x.p x.n x.c,.int .i64 x.pl,.int .i64 x.sp.a,.int .i64 x.sp.s,.int .i64 x.sp.b,.bool x.sp.lf,.bool x.sp.cr] 97)∧BlkI w1 w.heap.size x∧Below w.heap.size w w1:=⟨_,rfl,heap_alloc_new _ _,zxa (Below.refl _ _) _⟩
 have HKX:=zh kx
 have HB1:=zh hb1
 have HW0:=zh hW
 have HXX:=zh hx
 have HEN:=zh he
 have HLB:=zh hL
 have hgl:=hW.lt
 have NOX:=zh (show vm.ownBlock≠some w.heap.size from fun e=>by have:=hW.own_lt (.inr (.inr e));omega)
 have hng:¬ g=w.heap.size:=by omega
 have hng':¬ w.heap.size=g:=by omega
 have HP:Hid (∀ w',Below w1.heap.size w1 w'→C7s w' w.heap.size x∧(w'.cell? ⟨g,3,none⟩=some vm∧∀ i,w'.frozen? ⟨g,i,none⟩=false)∧g < w'.heap.size):=fun w' hb=>⟨(kx.ext hb).cells.1,⟨((hW.ext hb1).ext hb).cells.1.2.2.2,((hW.ext hb1).ext hb).cells.2⟩,((hW.ext hb1).ext hb).lt⟩
 have PUSH:Hid (∀ W vm' w2 v,Below w1.heap.size w1 W→OwnR w2 0 97 vm' (xsOf ms ++ [x])→W.grownBy w2 vm.ownBlock→(vm'.ownBlock=vm.ownBlock∨vm'.ownBlock=some W.heap.size)→AdR enc L g bo w lv vo vm os ms x gx (.returned v) (w2.setCell ⟨g,3,none⟩ vm')):=fun W vm' w2 v hb h1 h2 h3=>ad_push v hW (zxt hb1 hb) hx h1 h2 h3
 have HOWN:Hid (∀ W,Below w1.heap.size w1 W→OwnR W 0 97 vm (xsOf ms)):=fun W hb=>(hW.ext (zxt hb1 hb)).made
 clear hW hx he hL kx hb1
 subst hvm
 by_cases h0:ms=[]
 ·subst h0
  simp only [List.length_nil] at *
  go_enter Tryz.func99,Tryz.ntmps99
  go_upto_region 1 with fail
  rw [← hw1]
  clear hw1
  obtain ⟨d0,⟨c3,cf⟩,cl⟩:=HP.out w1 (Below.refl _ _)
  go_upto_region 6 with fail
  have HBW:=zh (Below.refl w1.heap.size w1)
  refine wp_region_held_drew (S:=fun w''=>(w''.cell? ⟨w.heap.size,0,none⟩=some (.slice x.p x.n x.c)∧w''.cell? ⟨w.heap.size,1,none⟩=some (.int .i64 x.pl)∧w''.cell? ⟨w.heap.size,2,none⟩=some (.int .i64 x.sp.a)∧w''.cell? ⟨w.heap.size,3,none⟩=some (.int .i64 x.sp.s)∧w''.cell? ⟨w.heap.size,4,none⟩=some (.int .i64 x.sp.b)∧w''.cell? ⟨w.heap.size,5,none⟩=some (.bool x.sp.lf)∧w''.cell? ⟨w.heap.size,6,none⟩=some (.bool x.sp.cr))) (by kernel_rfl) (d0) (fun _=>?_)
  refine tkH 0 rfl ?_
  refine tkH 1 rfl ?_
  refine tkH 2 rfl ?_
  refine tkH 3 rfl ?_
  refine tkH 5 rfl ?_
  refine wpAnyH_ready (rs:=[4,6]) (by kernel_rfl) (by simp) ?_
  refine (AllReadyH.cons (o:=_) rfl (fun K hK=>?_) (AllReadyH.cons (o:=_) rfl (fun K hK=>?_) AllReadyH.nil))
  ·skip
   go_simp
   refine hK.out _ _ ?_ (fun _=>?_)
   ·(try simp only [World.cell?_drew]);exact d0
   clear hK K
   try simp only [Act.put,tS]
   refine rdH 6 rfl fun K hK=>?_
   go_simp
   generalize hwN:World.alloc _ _=v1;have NEW:Hid (∀ j u,(pcs x)[j]?=some u→v1.drew.cell? ((⟨w1.heap.size,0,none⟩:Addr).add j)=some u):=(fun j u hj=>by rw [World.cell?_drew,← hwN];exact cell7_new w1 97 x j u hj);have HB2:Hid (Below w1.heap.size w1 v1):=(by unfold Hid;rw [← hwN];exact zxa HBW.out _);clear hwN d0 c3 cf cl;obtain ⟨d0,⟨c3,cf⟩,cl⟩:=HP.out v1 HB2.out
   refine hK.out _ _ ?_ (fun _=>?_)
   ·(try simp only [World.cell?_drew]);exact d0
   clear hK K
   try simp only [Act.put,tS]
   refine rdH 7 rfl fun K hK=>?_
   rw [if_pos (by rfl)]
   refine wp_append_pieceB _ _ 112 (by rfl) 0 97 Tryz.info_piece Tryz.underlying112 (.slice ao 0 cap) (xsOf []) (by rfl) (HOWN.out _ HB2.out.drew) x w1.heap.size (by rfl) NEW.out HML.out (Nat.zero_le _) ?_;intro v' w9 hown' hg' hk';obtain ⟨n',ao',cap',hv'⟩:∃ n' ao' cap',v'=.slice ao' n' cap':=(let ⟨a,b,c⟩:=hown'.form1;⟨_,a,b,c⟩);subst hv';have AD:=zh (PUSH.out _ _ _ (.tuple #[]) HB2.out.drew hown' hg' hk');have gl:g < w9.heap.size:=Nat.lt_of_lt_of_le cl hg'.size;have gb:=hg'.block g cl (fun e=>(HW0.out.ext (zxt HB1.out HB2.out)).ng e.symm);have d9:(w9.cell? ⟨w.heap.size,0,none⟩=some (.slice x.p x.n x.c)∧w9.cell? ⟨w.heap.size,1,none⟩=some (.int .i64 x.pl)∧w9.cell? ⟨w.heap.size,2,none⟩=some (.int .i64 x.sp.a)∧w9.cell? ⟨w.heap.size,3,none⟩=some (.int .i64 x.sp.s)∧w9.cell? ⟨w.heap.size,4,none⟩=some (.int .i64 x.sp.b)∧w9.cell? ⟨w.heap.size,5,none⟩=some (.bool x.sp.lf)∧w9.cell? ⟨w.heap.size,6,none⟩=some (.bool x.sp.cr)):=((HKX.out.ext HB2.out).same9 (hg'.block w.heap.size (HKX.out.ext HB2.out).lt (fun e=>NOX.out e.symm))).cells.1;have c9:w9.cell? ⟨g,3,none⟩=some (.slice ao 0 cap):=(cell_same gb _).trans c3;have f9:∀ i,w9.frozen? ⟨g,i,none⟩=false:=(fun i=>(froz_same gb _).trans (cf i));clear d0 c3 cf cl;change K (Act.put _ (some 44) _) w9
   refine hK.out _ _ ?_ (fun _=>?_)
   ·exact d9
   clear hK K
   try simp only [Act.put,tS]
   refine tkH 8 rfl ?_
   refine tkH 9 rfl ?_
   refine rdH 10 rfl fun K hK=>?_
   go_simp
   generalize hwN:World.setCell _ _ _=w10;rw [hwN] at AD;have d10:(w10.cell? ⟨w.heap.size,0,none⟩=some (.slice x.p x.n x.c)∧w10.cell? ⟨w.heap.size,1,none⟩=some (.int .i64 x.pl)∧w10.cell? ⟨w.heap.size,2,none⟩=some (.int .i64 x.sp.a)∧w10.cell? ⟨w.heap.size,3,none⟩=some (.int .i64 x.sp.s)∧w10.cell? ⟨w.heap.size,4,none⟩=some (.int .i64 x.sp.b)∧w10.cell? ⟨w.heap.size,5,none⟩=some (.bool x.sp.lf)∧w10.cell? ⟨w.heap.size,6,none⟩=some (.bool x.sp.cr)):=(by rw [← hwN];simp only [zcs hng'];exact d9);clear hwN
   refine hK.out _ _ ?_ (fun _=>?_)
   ·(try simp only [World.cell?_drew]);exact d10
   clear hK K
   try simp only [Act.put,tS]
   refine dnH ?_
   go_wp2_with fail
   exact bodyPost_ret (v:=.tuple #[]) (by simp [results,Tryz.results99,go_sem]) rfl AD.out
  ·skip
   go_simp
   generalize hwN:World.alloc _ _=v1;have NEW:Hid (∀ j u,(pcs x)[j]?=some u→v1.drew.cell? ((⟨w1.heap.size,0,none⟩:Addr).add j)=some u):=(fun j u hj=>by rw [World.cell?_drew,← hwN];exact cell7_new w1 97 x j u hj);have HB2:Hid (Below w1.heap.size w1 v1):=(by unfold Hid;rw [← hwN];exact zxa HBW.out _);clear hwN d0 c3 cf cl;obtain ⟨d0,⟨c3,cf⟩,cl⟩:=HP.out v1 HB2.out
   refine hK.out _ _ ?_ (fun _=>?_)
   ·(try simp only [World.cell?_drew]);exact d0
   clear hK K
   try simp only [Act.put,tS]
   refine rdH 4 rfl fun K hK=>?_
   go_simp
   refine hK.out _ _ ?_ (fun _=>?_)
   ·(try simp only [World.cell?_drew]);exact d0
   clear hK K
   try simp only [Act.put,tS]
   refine rdH 7 rfl fun K hK=>?_
   rw [if_pos (by rfl)]
   refine wp_append_pieceB _ _ 112 (by rfl) 0 97 Tryz.info_piece Tryz.underlying112 (.slice ao 0 cap) (xsOf []) (by rfl) (HOWN.out _ HB2.out.drew) x w1.heap.size (by rfl) NEW.out HML.out (Nat.zero_le _) ?_;intro v' w9 hown' hg' hk';obtain ⟨n',ao',cap',hv'⟩:∃ n' ao' cap',v'=.slice ao' n' cap':=(let ⟨a,b,c⟩:=hown'.form1;⟨_,a,b,c⟩);subst hv';have AD:=zh (PUSH.out _ _ _ (.tuple #[]) HB2.out.drew hown' hg' hk');have gl:g < w9.heap.size:=Nat.lt_of_lt_of_le cl hg'.size;have gb:=hg'.block g cl (fun e=>(HW0.out.ext (zxt HB1.out HB2.out)).ng e.symm);have d9:(w9.cell? ⟨w.heap.size,0,none⟩=some (.slice x.p x.n x.c)∧w9.cell? ⟨w.heap.size,1,none⟩=some (.int .i64 x.pl)∧w9.cell? ⟨w.heap.size,2,none⟩=some (.int .i64 x.sp.a)∧w9.cell? ⟨w.heap.size,3,none⟩=some (.int .i64 x.sp.s)∧w9.cell? ⟨w.heap.size,4,none⟩=some (.int .i64 x.sp.b)∧w9.cell? ⟨w.heap.size,5,none⟩=some (.bool x.sp.lf)∧w9.cell? ⟨w.heap.size,6,none⟩=some (.bool x.sp.cr)):=((HKX.out.ext HB2.out).same9 (hg'.block w.heap.size (HKX.out.ext HB2.out).lt (fun e=>NOX.out e.symm))).cells.1;have c9:w9.cell? ⟨g,3,none⟩=some (.slice ao 0 cap):=(cell_same gb _).trans c3;have f9:∀ i,w9.frozen? ⟨g,i,none⟩=false:=(fun i=>(froz_same gb _).trans (cf i));clear d0 c3 cf cl;change K (Act.put _ (some 44) _) w9
   refine hK.out _ _ ?_ (fun _=>?_)
   ·exact d9
   clear hK K
   try simp only [Act.put,tS]
   refine tkH 8 rfl ?_
   refine tkH 9 rfl ?_
   refine rdH 10 rfl fun K hK=>?_
   go_simp
   generalize hwN:World.setCell _ _ _=w10;rw [hwN] at AD;have d10:(w10.cell? ⟨w.heap.size,0,none⟩=some (.slice x.p x.n x.c)∧w10.cell? ⟨w.heap.size,1,none⟩=some (.int .i64 x.pl)∧w10.cell? ⟨w.heap.size,2,none⟩=some (.int .i64 x.sp.a)∧w10.cell? ⟨w.heap.size,3,none⟩=some (.int .i64 x.sp.s)∧w10.cell? ⟨w.heap.size,4,none⟩=some (.int .i64 x.sp.b)∧w10.cell? ⟨w.heap.size,5,none⟩=some (.bool x.sp.lf)∧w10.cell? ⟨w.heap.size,6,none⟩=some (.bool x.sp.cr)):=(by rw [← hwN];simp only [zcs hng'];exact d9);clear hwN
   refine hK.out _ _ ?_ (fun _=>?_)
   ·(try simp only [World.cell?_drew]);exact d10
   clear hK K
   try simp only [Act.put,tS]
   refine dnH ?_
   go_wp2_with fail
   exact bodyPost_ret (v:=.tuple #[]) (by simp [results,Tryz.results99,go_sem]) rfl AD.out
 ·obtain ⟨ms0,q,rfl⟩:∃ ms0 q,ms=ms0 ++ [q]:=⟨ms.dropLast,ms.getLast h0,(List.dropLast_concat_getLast h0).symm⟩
  obtain ⟨xq,gq⟩:=q
  obtain ⟨k,cp,hv,_,hk1,hk2,hk3,hrow⟩:=(HOWN.out w1 (Below.refl _ _)).row (by rw [xsOf_len];simp)
  simp only [Value.slice.injEq] at hv
  obtain ⟨hao,hx1,hcp⟩:=hv
  clear hx1
  subst hao
  subst hcp
  rw [xsOf_len] at hk2
  have HROW:=zh hrow
  have HQ:Hid (∀ w',Below w.heap.size w w'→Pc enc L w' xq gq):=fun w' hb=>(HW0.out.pm (xq,gq) (by simp)).ext hb
  have HLQ:Hid (ln enc gq + ln enc gx≤1073741824):=by
   unfold Hid
   have e:asOf (ms0 ++ [(xq,gq)])=asOf ms0 ++ gq:=by rw [asOf_app];simp [asOf]
   rw [e,ln_app] at hl
   omega
  have HP2:Hid (∀ w',Below w1.heap.size w1 w'→(w'.cell? ⟨g,3,none⟩=some (.slice (some ⟨k,0,none⟩) (ms0 ++ [(xq,gq)]).length cap)∧(w'.cell? ⟨k,ms0.length * 7,none⟩=some (.slice xq.p xq.n xq.c)∧w'.cell? ⟨k,ms0.length * 7 + 1,none⟩=some (.int .i64 xq.pl)∧w'.cell? ⟨k,ms0.length * 7 + 2,none⟩=some (.int .i64 xq.sp.a)∧w'.cell? ⟨k,ms0.length * 7 + 3,none⟩=some (.int .i64 xq.sp.s)∧w'.cell? ⟨k,ms0.length * 7 + 4,none⟩=some (.int .i64 xq.sp.b)∧w'.cell? ⟨k,ms0.length * 7 + 5,none⟩=some (.bool xq.sp.lf)∧w'.cell? ⟨k,ms0.length * 7 + 6,none⟩=some (.bool xq.sp.cr)))∧C7s w' w.heap.size x):=fun w' hb=>by
   obtain ⟨d0,⟨c3,_⟩,_⟩:=HP.out w' hb
   have r:=(HROW.out.ext hb).cell ms0.length (by rw [xsOf_len];simp)
   have e:(xsOf (ms0 ++ [(xq,gq)]))[ms0.length]?.getD It.zero=xq:=by
    rw [xsOf_app,List.getElem?_append_right (by rw [xsOf_len];exact Nat.le_refl _),xsOf_len,Nat.sub_self]
    rfl
   rw [e,Nat.zero_add] at r
   exact ⟨⟨c3,r⟩,d0⟩
  have UN:Hid (∀ w',Below w1.heap.size w1 w'→Calls Tryz.prog 125 #[.pointer (some ⟨g,0,none⟩),.agg #[.slice xq.p xq.n xq.c,.int .i64 xq.pl,.int .i64 xq.sp.a,.int .i64 xq.sp.s,.int .i64 xq.sp.b,.bool xq.sp.lf,.bool xq.sp.cr],.agg #[.slice x.p x.n x.c,.int .i64 x.pl,.int .i64 x.sp.a,.int .i64 x.sp.s,.int .i64 x.sp.b,.bool x.sp.lf,.bool x.sp.cr]] w' fun e w''=>∃ (z:It) (ok:Bool),e=.returned (.tuple #[.agg #[.slice z.p z.n z.c,.int .i64 z.pl,.int .i64 z.sp.a,.int .i64 z.sp.s,.int .i64 z.sp.b,.bool z.sp.lf,.bool z.sp.cr],.bool ok])∧Hid (ok=true→Pc enc L w'' z (gq ++ gx)∧ctn enc z.pl (gq ++ gx)=ctn enc xq.pl gq ++ ctn enc x.pl gx)∧Below w'.heap.size w' w''):=fun w' hb=>by
   have hb':=zxt HB1.out hb
   have hw':=HW0.out.ext hb'
   exact unite_any enc HEN.out L HLB.out hLl g lv xq x gq gx w' ⟨hw'.cells.1.1,hw'.cells.1.2.1⟩ hw'.lt hw'.ld (HQ.out w' hb') (HXX.out.ext hb') HLQ.out
  have LAST:Hid (∀ W z,Below w1.heap.size w1 W→Pc enc L W z (gq ++ gx)→ctn enc z.pl (gq ++ gx)=ctn enc xq.pl gq ++ ctn enc x.pl gx→AdR enc L g bo w lv vo (.slice (some ⟨k,0,none⟩) (ms0 ++ [(xq,gq)]).length cap) os (ms0 ++ [(xq,gq)]) x gx (.returned (.tuple #[])) (((((((W.setCell ⟨k,ms0.length * 7,none⟩ (.slice z.p z.n z.c)).setCell ⟨k,ms0.length * 7 + 1,none⟩ (.int .i64 z.pl)).setCell ⟨k,ms0.length * 7 + 2,none⟩ (.int .i64 z.sp.a)).setCell ⟨k,ms0.length * 7 + 3,none⟩ (.int .i64 z.sp.s)).setCell ⟨k,ms0.length * 7 + 4,none⟩ (.int .i64 z.sp.b)).setCell ⟨k,ms0.length * 7 + 5,none⟩ (.bool z.sp.lf)).setCell ⟨k,ms0.length * 7 + 6,none⟩ (.bool z.sp.cr))):=fun W z hb hz hc=>by
   have hb':=zxt HB1.out hb
   have R:=(HW0.out.ext hb').last z (gq ++ gx) hz
   simp only [Nat.zero_add] at R
   exact ⟨_,_,ms0 ++ [(z,gq ++ gx)],rfl,R.1,by rw [sh_app,sh_app,sh_one,sh_one,hc,List.append_assoc],by simp,(Kps.of_below _ hb').trans R.2 fun _ _ e=>e,.inl rfl⟩
  have hbk:¬ w.heap.size=k:=fun e=>NOX.out (by rw [e];rfl)
  have hgk:¬ g=k:=fun e=>HW0.out.ng (by rw [e];rfl)
  clear hrow h0 hml hml2 hl
  generalize hnn:(ms0 ++ [(xq,gq)]).length=nn at *
  have hn1:nn=ms0.length + 1:=by rw [← hnn];simp
  have HNN:=zh hnn
  subst hn1
  clear hnn
  generalize hn0:ms0.length=n0 at *
  clear hn0
  have hn2:n0≤1099511627776:=by have:=HML.out;rw [xsOf_len,HNN.out] at this;omega
  have hwr:IntKind.i64.wrap (n0:Int)=(n0:Int):=by first | (simp [IntKind.wrap,IntKind.signed,IntKind.bits];omega) | (unfold IntKind.wrap;simp;omega) | go_num
  have hlt1:(n0:Int) < (n0:Int) + 1:=by omega
  go_enter Tryz.func99,Tryz.ntmps99
  go_upto_region 1 with fail
  rw [← hw1]
  clear hw1
  obtain ⟨⟨c3,e0⟩,d0⟩:=HP2.out w1 (Below.refl _ _)
  go_upto_region 3 with fail
  have HBc:=zh (Below.refl w1.heap.size w1)
  go_cut [5,6] from 14 to 27 (fun p q wF=>∃ (b5:Nat) (z:It) (ok:Bool),p=.pointer (some ⟨b5,0,none⟩)∧q=.bool ok∧Hid (ok=true→Pc enc L wF z (gq ++ gx)∧ctn enc z.pl (gq ++ gx)=ctn enc xq.pl gq ++ ctn enc x.pl gx)∧BlkI wF b5 z∧w1.heap.size≤b5∧Below w1.heap.size w1 wF)
  case first =>
   refine wp_region_held_drew (S:=fun w''=>(w''.cell? ⟨g,3,none⟩=some (.slice (some ⟨k,0,none⟩) (n0 + 1) cap)∧(w''.cell? ⟨k,n0 * 7,none⟩=some (.slice xq.p xq.n xq.c)∧w''.cell? ⟨k,n0 * 7 + 1,none⟩=some (.int .i64 xq.pl)∧w''.cell? ⟨k,n0 * 7 + 2,none⟩=some (.int .i64 xq.sp.a)∧w''.cell? ⟨k,n0 * 7 + 3,none⟩=some (.int .i64 xq.sp.s)∧w''.cell? ⟨k,n0 * 7 + 4,none⟩=some (.int .i64 xq.sp.b)∧w''.cell? ⟨k,n0 * 7 + 5,none⟩=some (.bool xq.sp.lf)∧w''.cell? ⟨k,n0 * 7 + 6,none⟩=some (.bool xq.sp.cr)))∧(w''.cell? ⟨w.heap.size,0,none⟩=some (.slice x.p x.n x.c)∧w''.cell? ⟨w.heap.size,1,none⟩=some (.int .i64 x.pl)∧w''.cell? ⟨w.heap.size,2,none⟩=some (.int .i64 x.sp.a)∧w''.cell? ⟨w.heap.size,3,none⟩=some (.int .i64 x.sp.s)∧w''.cell? ⟨w.heap.size,4,none⟩=some (.int .i64 x.sp.b)∧w''.cell? ⟨w.heap.size,5,none⟩=some (.bool x.sp.lf)∧w''.cell? ⟨w.heap.size,6,none⟩=some (.bool x.sp.cr))) (by kernel_rfl) (⟨⟨c3,e0⟩,d0⟩) (fun _=>?_)
   refine tkH 0 rfl ?_
   refine tkH 1 rfl ?_
   refine tkH 2 rfl ?_
   refine tkH 3 rfl ?_
   refine tkH 4 rfl ?_
   refine tkH 5 rfl ?_
   refine tkH 6 rfl ?_
   refine tkH 7 rfl ?_
   refine tkH 8 rfl ?_
   refine tkH 9 rfl ?_
   refine wpAnyH_ready (rs:=[10,14]) (by kernel_rfl) (by simp) ?_
   refine (AllReadyH.cons (o:=_) rfl (fun K hK=>?_) (AllReadyH.cons (o:=_) rfl (fun K hK=>?_) AllReadyH.nil))
   ·skip
    go_simp
    refine (UN.out _ HBc.out.drew).mono ?_;(try clear z5 zf5 zl5);clear c3 e0 d0;rintro e v1 ⟨z,ok,rfl,HU,hb⟩;have hst:Below w1.heap.size w1 v1:=zxt (Below.drew (Below.refl _ _)) hb;clear hb;have HBn:=zh (zxt HBc.out hst);clear HBc;have HBc:=HBn;clear HBn;obtain ⟨⟨c3,e0⟩,d0⟩:=HP2.out v1 HBc.out;have sz1:=hst.size;clear hst;try dsimp only
    refine hK.out _ _ ?_ (fun _=>?_)
    ·(try simp only [World.cell?_drew]);exact HP2.out v1 HBc.out
    clear hK K
    try simp only [Act.put,tS]
    refine tkH 11 rfl ?_
    refine tkH 12 rfl ?_
    refine tkH 13 rfl ?_
    refine rdH 14 rfl fun K hK=>?_
    go_simp
    generalize hwN:World.alloc _ _=v2;have hst:Below v1.heap.size v1 v2:=(by rw [← hwN];exact zxa (Below.refl _ _) _);clear c3 e0 d0;have HUn:Hid (ok=true→Pc enc L v2 z (gq ++ gx)∧ctn enc z.pl (gq ++ gx)=ctn enc xq.pl gq ++ ctn enc x.pl gx):=(fun h=>⟨(HU.out h).1.ext hst,(HU.out h).2⟩);clear HU;have HU:=HUn;clear HUn;have HBn:=zh (zxt HBc.out hst);clear HBc;have HBc:=HBn;clear HBn;have H5:Hid (BlkI v2 v1.heap.size It.zero):=(by unfold Hid;rw [← hwN];exact heap_alloc_new _ _);obtain ⟨z5,_,zf5⟩:=H5.out.cells;have zl5:=H5.out.lt;have lb5:w1.heap.size≤v1.heap.size:=(by omega);have sz2:=H5.out.lt;obtain ⟨⟨c3,e0⟩,d0⟩:=HP2.out v2 HBc.out;clear hwN hst
    refine hK.out _ _ ?_ (fun _=>?_)
    ·(try simp only [World.cell?_drew]);exact HP2.out v2 HBc.out
    clear hK K
    try simp only [Act.put,tS]
    refine rdH 15 rfl fun K hK=>?_
    go_simp
    generalize hwN:World.setCell _ _ _=v3;have q0:=H5.out;have q2:v2.grownBy v3 (some v1.heap.size):=(by rw [← hwN];exact (H5.out.put z).2);have q1:BlkI v3 v1.heap.size z:=(by rw [← hwN];exact (H5.out.put z).1);clear z5 zf5 zl5 c3 e0 d0;have HBn:=zh (zbp HBc.out HBc.out.size q2 (by omega));clear HBc;have HBc:=HBn;clear HBn;clear H5;have H5:=zh q1;have HUn:Hid (ok=true→Pc enc L v3 z (gq ++ gx)∧ctn enc z.pl (gq ++ gx)=ctn enc xq.pl gq ++ ctn enc x.pl gx):=(fun h=>⟨(HU.out h).1.same (u8_put q2 q0),(HU.out h).2⟩);clear HU;have HU:=HUn;clear HUn;obtain ⟨⟨c3,e0⟩,d0⟩:=HP2.out v3 HBc.out;clear hwN q0 q1 q2
    refine hK.out _ _ ?_ (fun _=>?_)
    ·(try simp only [World.cell?_drew]);exact HP2.out v3 HBc.out
    clear hK K
    try simp only [Act.put,tS]
    refine rdH 16 rfl fun K hK=>?_
    go_simp
    refine hK.out _ _ ?_ (fun _=>?_)
    ·(try simp only [World.cell?_drew]);exact HP2.out v3 HBc.out
    clear hK K
    try simp only [Act.put,tS]
    refine dnH ?_
    go_wp2_with fail
    go_meet
    case rel=>exact ⟨v1.heap.size,z,ok,rfl,rfl,HU,H5.out,by omega,HBc.out⟩
   ·skip
    go_simp
    generalize hwN:World.alloc _ _=v1;have hst:Below w1.heap.size w1 v1:=(by rw [← hwN];exact zxa (Below.refl _ _) _);clear c3 e0 d0;have HBn:=zh (zxt HBc.out hst);clear HBc;have HBc:=HBn;clear HBn;have H5:Hid (BlkI v1 w1.heap.size It.zero):=(by unfold Hid;rw [← hwN];exact heap_alloc_new _ _);obtain ⟨z5,_,zf5⟩:=H5.out.cells;have zl5:=H5.out.lt;have lb5:w1.heap.size≤w1.heap.size:=(by exact Nat.le_refl _);have sz1:=H5.out.lt;obtain ⟨⟨c3,e0⟩,d0⟩:=HP2.out v1 HBc.out;clear hwN hst
    refine hK.out _ _ ?_ (fun _=>?_)
    ·(try simp only [World.cell?_drew]);exact HP2.out v1 HBc.out
    clear hK K
    try simp only [Act.put,tS]
    refine rdH 10 rfl fun K hK=>?_
    go_simp
    refine (UN.out _ HBc.out.drew).mono ?_;(try clear z5 zf5 zl5);clear c3 e0 d0;rintro e v2 ⟨z,ok,rfl,HU,hb⟩;have hst:Below v1.heap.size v1 v2:=zxt (Below.drew (Below.refl _ _)) hb;clear hb;have HBn:=zh (zxt HBc.out hst);clear HBc;have HBc:=HBn;clear HBn;have Hn:=zh (H5.out.ext hst);clear H5;have H5:=Hn;clear Hn;obtain ⟨z5,_,zf5⟩:=H5.out.cells;have zl5:=H5.out.lt;obtain ⟨⟨c3,e0⟩,d0⟩:=HP2.out v2 HBc.out;have sz2:=hst.size;clear hst;try dsimp only
    refine hK.out _ _ ?_ (fun _=>?_)
    ·(try simp only [World.cell?_drew]);exact HP2.out v2 HBc.out
    clear hK K
    try simp only [Act.put,tS]
    refine tkH 11 rfl ?_
    refine tkH 12 rfl ?_
    refine tkH 13 rfl ?_
    refine rdH 15 rfl fun K hK=>?_
    go_simp
    generalize hwN:World.setCell _ _ _=v3;have q0:=H5.out;have q2:v2.grownBy v3 (some w1.heap.size):=(by rw [← hwN];exact (H5.out.put z).2);have q1:BlkI v3 w1.heap.size z:=(by rw [← hwN];exact (H5.out.put z).1);clear z5 zf5 zl5 c3 e0 d0;have HBn:=zh (zbp HBc.out HBc.out.size q2 (by omega));clear HBc;have HBc:=HBn;clear HBn;clear H5;have H5:=zh q1;have HUn:Hid (ok=true→Pc enc L v3 z (gq ++ gx)∧ctn enc z.pl (gq ++ gx)=ctn enc xq.pl gq ++ ctn enc x.pl gx):=(fun h=>⟨(HU.out h).1.same (u8_put q2 q0),(HU.out h).2⟩);clear HU;have HU:=HUn;clear HUn;obtain ⟨⟨c3,e0⟩,d0⟩:=HP2.out v3 HBc.out;clear hwN q0 q1 q2
    refine hK.out _ _ ?_ (fun _=>?_)
    ·(try simp only [World.cell?_drew]);exact HP2.out v3 HBc.out
    clear hK K
    try simp only [Act.put,tS]
    refine rdH 16 rfl fun K hK=>?_
    go_simp
    refine hK.out _ _ ?_ (fun _=>?_)
    ·(try simp only [World.cell?_drew]);exact HP2.out v3 HBc.out
    clear hK K
    try simp only [Act.put,tS]
    refine dnH ?_
    go_wp2_with fail
    go_meet
    case rel=>exact ⟨w1.heap.size,z,ok,rfl,rfl,HU,H5.out,by omega,HBc.out⟩
  obtain ⟨b5,z,ok,rfl,rfl,HU,h5,l5,hbw⟩:=hcut
  generalize hwc:wc=w2 at *
  clear hwc c3 e0 d0 UN
  cases ok
  case false =>
   obtain ⟨d0,⟨c3,cf⟩,cl⟩:=HP.out w2 hbw
   have HBW:=zh hbw
   clear LAST h5 hbw HU
   go_upto_region 6 with fail
   refine wp_region_held_drew (S:=fun w''=>(w''.cell? ⟨w.heap.size,0,none⟩=some (.slice x.p x.n x.c)∧w''.cell? ⟨w.heap.size,1,none⟩=some (.int .i64 x.pl)∧w''.cell? ⟨w.heap.size,2,none⟩=some (.int .i64 x.sp.a)∧w''.cell? ⟨w.heap.size,3,none⟩=some (.int .i64 x.sp.s)∧w''.cell? ⟨w.heap.size,4,none⟩=some (.int .i64 x.sp.b)∧w''.cell? ⟨w.heap.size,5,none⟩=some (.bool x.sp.lf)∧w''.cell? ⟨w.heap.size,6,none⟩=some (.bool x.sp.cr))) (by kernel_rfl) (d0) (fun _=>?_)
   refine tkH 0 rfl ?_
   refine tkH 1 rfl ?_
   refine tkH 2 rfl ?_
   refine tkH 3 rfl ?_
   refine tkH 5 rfl ?_
   refine wpAnyH_ready (rs:=[4,6]) (by kernel_rfl) (by simp) ?_
   refine (AllReadyH.cons (o:=_) rfl (fun K hK=>?_) (AllReadyH.cons (o:=_) rfl (fun K hK=>?_) AllReadyH.nil))
   ·skip
    go_simp
    refine hK.out _ _ ?_ (fun _=>?_)
    ·(try simp only [World.cell?_drew]);exact d0
    clear hK K
    try simp only [Act.put,tS]
    refine rdH 6 rfl fun K hK=>?_
    go_simp
    generalize hwN:World.alloc _ _=v1;have NEW:Hid (∀ j u,(pcs x)[j]?=some u→v1.drew.cell? ((⟨w2.heap.size,0,none⟩:Addr).add j)=some u):=(fun j u hj=>by rw [World.cell?_drew,← hwN];exact cell7_new w2 97 x j u hj);have HB2:Hid (Below w1.heap.size w1 v1):=(by unfold Hid;rw [← hwN];exact zxa HBW.out _);clear hwN d0 c3 cf cl;obtain ⟨d0,⟨c3,cf⟩,cl⟩:=HP.out v1 HB2.out
    refine hK.out _ _ ?_ (fun _=>?_)
    ·(try simp only [World.cell?_drew]);exact d0
    clear hK K
    try simp only [Act.put,tS]
    refine rdH 7 rfl fun K hK=>?_
    rw [if_pos (by rfl)]
    refine wp_append_pieceB _ _ 112 (by rfl) 0 97 Tryz.info_piece Tryz.underlying112 (.slice (some ⟨k,0,none⟩) (n0 + 1) cap) (xsOf (ms0 ++ [(xq,gq)])) (by rfl) (HOWN.out _ HB2.out.drew) x w2.heap.size (by rfl) NEW.out HML.out (Nat.zero_le _) ?_;intro v' w9 hown' hg' hk';obtain ⟨n',ao',cap',hv'⟩:∃ n' ao' cap',v'=.slice ao' n' cap':=(let ⟨a,b,c⟩:=hown'.form1;⟨_,a,b,c⟩);subst hv';have AD:=zh (PUSH.out _ _ _ (.tuple #[]) HB2.out.drew hown' hg' hk');have gl:g < w9.heap.size:=Nat.lt_of_lt_of_le cl hg'.size;have gb:=hg'.block g cl (fun e=>(HW0.out.ext (zxt HB1.out HB2.out)).ng e.symm);have d9:(w9.cell? ⟨w.heap.size,0,none⟩=some (.slice x.p x.n x.c)∧w9.cell? ⟨w.heap.size,1,none⟩=some (.int .i64 x.pl)∧w9.cell? ⟨w.heap.size,2,none⟩=some (.int .i64 x.sp.a)∧w9.cell? ⟨w.heap.size,3,none⟩=some (.int .i64 x.sp.s)∧w9.cell? ⟨w.heap.size,4,none⟩=some (.int .i64 x.sp.b)∧w9.cell? ⟨w.heap.size,5,none⟩=some (.bool x.sp.lf)∧w9.cell? ⟨w.heap.size,6,none⟩=some (.bool x.sp.cr)):=((HKX.out.ext HB2.out).same9 (hg'.block w.heap.size (HKX.out.ext HB2.out).lt (fun e=>NOX.out e.symm))).cells.1;have c9:w9.cell? ⟨g,3,none⟩=some (.slice (some ⟨k,0,none⟩) (n0 + 1) cap):=(cell_same gb _).trans c3;have f9:∀ i,w9.frozen? ⟨g,i,none⟩=false:=(fun i=>(froz_same gb _).trans (cf i));clear d0 c3 cf cl;change K (Act.put _ (some 44) _) w9
    refine hK.out _ _ ?_ (fun _=>?_)
    ·exact d9
    clear hK K
    try simp only [Act.put,tS]
    refine tkH 8 rfl ?_
    refine tkH 9 rfl ?_
    refine rdH 10 rfl fun K hK=>?_
    go_simp
    generalize hwN:World.setCell _ _ _=w10;rw [hwN] at AD;have d10:(w10.cell? ⟨w.heap.size,0,none⟩=some (.slice x.p x.n x.c)∧w10.cell? ⟨w.heap.size,1,none⟩=some (.int .i64 x.pl)∧w10.cell? ⟨w.heap.size,2,none⟩=some (.int .i64 x.sp.a)∧w10.cell? ⟨w.heap.size,3,none⟩=some (.int .i64 x.sp.s)∧w10.cell? ⟨w.heap.size,4,none⟩=some (.int .i64 x.sp.b)∧w10.cell? ⟨w.heap.size,5,none⟩=some (.bool x.sp.lf)∧w10.cell? ⟨w.heap.size,6,none⟩=some (.bool x.sp.cr)):=(by rw [← hwN];simp only [zcs hng'];exact d9);clear hwN
    refine hK.out _ _ ?_ (fun _=>?_)
    ·(try simp only [World.cell?_drew]);exact d10
    clear hK K
    try simp only [Act.put,tS]
    refine dnH ?_
    go_wp2_with fail
    exact bodyPost_ret (v:=.tuple #[]) (by simp [results,Tryz.results99,go_sem]) rfl AD.out
   ·skip
    go_simp
    generalize hwN:World.alloc _ _=v1;have NEW:Hid (∀ j u,(pcs x)[j]?=some u→v1.drew.cell? ((⟨w2.heap.size,0,none⟩:Addr).add j)=some u):=(fun j u hj=>by rw [World.cell?_drew,← hwN];exact cell7_new w2 97 x j u hj);have HB2:Hid (Below w1.heap.size w1 v1):=(by unfold Hid;rw [← hwN];exact zxa HBW.out _);clear hwN d0 c3 cf cl;obtain ⟨d0,⟨c3,cf⟩,cl⟩:=HP.out v1 HB2.out
    refine hK.out _ _ ?_ (fun _=>?_)
    ·(try simp only [World.cell?_drew]);exact d0
    clear hK K
    try simp only [Act.put,tS]
    refine rdH 4 rfl fun K hK=>?_
    go_simp
    refine hK.out _ _ ?_ (fun _=>?_)
    ·(try simp only [World.cell?_drew]);exact d0
    clear hK K
    try simp only [Act.put,tS]
    refine rdH 7 rfl fun K hK=>?_
    rw [if_pos (by rfl)]
    refine wp_append_pieceB _ _ 112 (by rfl) 0 97 Tryz.info_piece Tryz.underlying112 (.slice (some ⟨k,0,none⟩) (n0 + 1) cap) (xsOf (ms0 ++ [(xq,gq)])) (by rfl) (HOWN.out _ HB2.out.drew) x w2.heap.size (by rfl) NEW.out HML.out (Nat.zero_le _) ?_;intro v' w9 hown' hg' hk';obtain ⟨n',ao',cap',hv'⟩:∃ n' ao' cap',v'=.slice ao' n' cap':=(let ⟨a,b,c⟩:=hown'.form1;⟨_,a,b,c⟩);subst hv';have AD:=zh (PUSH.out _ _ _ (.tuple #[]) HB2.out.drew hown' hg' hk');have gl:g < w9.heap.size:=Nat.lt_of_lt_of_le cl hg'.size;have gb:=hg'.block g cl (fun e=>(HW0.out.ext (zxt HB1.out HB2.out)).ng e.symm);have d9:(w9.cell? ⟨w.heap.size,0,none⟩=some (.slice x.p x.n x.c)∧w9.cell? ⟨w.heap.size,1,none⟩=some (.int .i64 x.pl)∧w9.cell? ⟨w.heap.size,2,none⟩=some (.int .i64 x.sp.a)∧w9.cell? ⟨w.heap.size,3,none⟩=some (.int .i64 x.sp.s)∧w9.cell? ⟨w.heap.size,4,none⟩=some (.int .i64 x.sp.b)∧w9.cell? ⟨w.heap.size,5,none⟩=some (.bool x.sp.lf)∧w9.cell? ⟨w.heap.size,6,none⟩=some (.bool x.sp.cr)):=((HKX.out.ext HB2.out).same9 (hg'.block w.heap.size (HKX.out.ext HB2.out).lt (fun e=>NOX.out e.symm))).cells.1;have c9:w9.cell? ⟨g,3,none⟩=some (.slice (some ⟨k,0,none⟩) (n0 + 1) cap):=(cell_same gb _).trans c3;have f9:∀ i,w9.frozen? ⟨g,i,none⟩=false:=(fun i=>(froz_same gb _).trans (cf i));clear d0 c3 cf cl;change K (Act.put _ (some 44) _) w9
    refine hK.out _ _ ?_ (fun _=>?_)
    ·exact d9
    clear hK K
    try simp only [Act.put,tS]
    refine tkH 8 rfl ?_
    refine tkH 9 rfl ?_
    refine rdH 10 rfl fun K hK=>?_
    go_simp
    generalize hwN:World.setCell _ _ _=w10;rw [hwN] at AD;have d10:(w10.cell? ⟨w.heap.size,0,none⟩=some (.slice x.p x.n x.c)∧w10.cell? ⟨w.heap.size,1,none⟩=some (.int .i64 x.pl)∧w10.cell? ⟨w.heap.size,2,none⟩=some (.int .i64 x.sp.a)∧w10.cell? ⟨w.heap.size,3,none⟩=some (.int .i64 x.sp.s)∧w10.cell? ⟨w.heap.size,4,none⟩=some (.int .i64 x.sp.b)∧w10.cell? ⟨w.heap.size,5,none⟩=some (.bool x.sp.lf)∧w10.cell? ⟨w.heap.size,6,none⟩=some (.bool x.sp.cr)):=(by rw [← hwN];simp only [zcs hng'];exact d9);clear hwN
    refine hK.out _ _ ?_ (fun _=>?_)
    ·(try simp only [World.cell?_drew]);exact d10
    clear hK K
    try simp only [Act.put,tS]
    refine dnH ?_
    go_wp2_with fail
    exact bodyPost_ret (v:=.tuple #[]) (by simp [results,Tryz.results99,go_sem]) rfl AD.out
  case true =>
   obtain ⟨⟨c3,e0⟩,_⟩:=HP2.out w2 hbw
   obtain ⟨z5,_,_⟩:=h5.cells
   have hbk5:¬ b5=k:=by omega
   have hfk:∀ i,w2.frozen? ⟨k,i,none⟩=false:=by
    obtain ⟨cs,hcs,_⟩:=HROW.out.ext hbw
    intro i
    simp [World.frozen?,hcs]
   have hkl:k < w2.heap.size:=Nat.lt_of_lt_of_le hk1 hbw.size
   have LA:=zh (LAST.out w2 z hbw (HU.out (by first | rfl | trivial)).1 (HU.out (by first | rfl | trivial)).2)
   clear LAST HU h5
   go_upto_region 5 with fail
   refine wp_region_held_drew (S:=fun w''=>w''.cell? ⟨g,3,none⟩=some (.slice (some ⟨k,0,none⟩) (n0 + 1) cap)∧(w''.cell? ⟨b5,0,none⟩=some (.slice z.p z.n z.c)∧w''.cell? ⟨b5,1,none⟩=some (.int .i64 z.pl)∧w''.cell? ⟨b5,2,none⟩=some (.int .i64 z.sp.a)∧w''.cell? ⟨b5,3,none⟩=some (.int .i64 z.sp.s)∧w''.cell? ⟨b5,4,none⟩=some (.int .i64 z.sp.b)∧w''.cell? ⟨b5,5,none⟩=some (.bool z.sp.lf)∧w''.cell? ⟨b5,6,none⟩=some (.bool z.sp.cr))) (by kernel_rfl) (⟨c3,z5⟩) (fun _=>?_)
   refine tkH 0 rfl ?_
   refine tkH 1 rfl ?_
   refine tkH 2 rfl ?_
   refine tkH 3 rfl ?_
   refine tkH 4 rfl ?_
   refine tkH 5 rfl ?_
   refine tkH 6 rfl ?_
   refine rdH 7 rfl fun K hK=>?_
   go_simp
   refine hK.out _ _ ?_ (fun _=>?_)
   ·(try simp only [World.cell?_drew]);exact ⟨c3,z5⟩
   clear hK K
   try simp only [Act.put,tS]
   refine rdH 8 rfl fun K hK=>?_
   go_simp
   generalize hwN:World.setCell _ _ _=w3;rw [hwN] at LA;have s3:w3.cell? ⟨g,3,none⟩=some (.slice (some ⟨k,0,none⟩) (n0 + 1) cap)∧(w3.cell? ⟨b5,0,none⟩=some (.slice z.p z.n z.c)∧w3.cell? ⟨b5,1,none⟩=some (.int .i64 z.pl)∧w3.cell? ⟨b5,2,none⟩=some (.int .i64 z.sp.a)∧w3.cell? ⟨b5,3,none⟩=some (.int .i64 z.sp.s)∧w3.cell? ⟨b5,4,none⟩=some (.int .i64 z.sp.b)∧w3.cell? ⟨b5,5,none⟩=some (.bool z.sp.lf)∧w3.cell? ⟨b5,6,none⟩=some (.bool z.sp.cr)):=(by rw [← hwN];simp only [zcs hgk,zcs hbk5];exact ⟨c3,z5⟩);clear hwN
   refine hK.out _ _ ?_ (fun _=>?_)
   ·(try simp only [World.cell?_drew]);exact s3
   clear hK K
   try simp only [Act.put,tS]
   refine dnH ?_
   go_wp2_with fail
   exact bodyPost_ret (v:=.tuple #[]) (by simp [results,Tryz.results99,go_sem]) rfl (AdR.drew LA.out)
end Go.Proofs.YtdhciadajendnaaGreat.P
