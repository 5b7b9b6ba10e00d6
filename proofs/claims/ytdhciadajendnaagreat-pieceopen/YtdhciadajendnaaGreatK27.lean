import Derived.Test.YtdhciadajendnaaGreatK26
set_option maxRecDepth 100000
namespace Go.Proofs.YtdhciadajendnaaGreat.P
open Go.RowKit
def chA (enc lim:Int) (l:List (Int × Int)) (es:List Ed):Int:=if ckA enc lim l.length es=0 then (if lim < (ln enc ((apE l 0 es).map Prod.fst):Int) then 50 else 0) else ckA enc lim l.length es
def chT (enc lim:Int) (l:List (Int × Int)) (es:List Ed):List (Int × Int):=if chA enc lim l es=0 then apE l 0 es else l
def ChR (enc lim:Int) (L:List Int) (t:Nat) (ps:List PG) (es:List Ed) (w:World) (e:Ending) (w':World):Prop :=
 e=.returned (.int .i64 (chA enc lim (sh enc ps) es))∧∃ ps',Tx enc lim L w' t ps'∧sh enc ps'=chT enc lim (sh enc ps) es∧Kps (fun k=>k=t) w w'
theorem ck_zero {enc lim:Int} {n:Nat} {es:List Ed} (h:ckA enc lim n es=0):es.length≤70000∧rg n 0 es=true∧(∀ a ∈ puts es,Cx.fits enc a=true)∧(ln enc (puts es):Int)≤lim:=by
 unfold ckA at h
 split at h
 ·cases h
 ·split at h
  ·unfold cpA at h
   split at h
   ·split at h
    ·cases h
    ·exact ⟨by omega,by assumption,by assumption,by omega⟩
   ·cases h
  ·cases h
def ChJ (enc:Int) (L:List Int) (l:List (Int × Int)) (es:List Ed) (b:Nat) (w:World) (k:Nat) (wr:World):Prop :=
 ∃ u qs,wr.heap[b]?=some (.cells #[.pointer u] 90 (0,0))∧TT wr (.agg #[.pointer u]) (xsOf qs)∧Pcs enc L wr qs∧sh enc qs=apE l 0 (es.drop k)∧Below w.heap.size w wr
theorem ChJ.bd {enc:Int} {l:List (Int × Int)} {es:List Ed} {k:Nat} {qs:List PG} (h:sh enc qs=apE l 0 (es.drop k)) (hr:rg l.length 0 es=true):ln enc (asOf qs)≤ln enc (l.map Prod.fst) + ln enc (puts (es.drop k)):=by
 have hr':rg l.length 0 (es.drop k)=true:=rg_tail (es.take k) 0 (by rw [List.take_append_drop];exact hr)
 have:=ap_ln0 enc l (es.drop k) hr'
 rw [← h,sh_fst] at this
 exact this
theorem puts_drop (enc:Int) (es:List Ed) (s k:Nat) (h:s≤k):ln enc (puts ((es.drop s).take (k - s))) + ln enc (puts (es.drop k))≤ln enc (puts es)∧es.drop s=(es.drop s).take (k - s) ++ es.drop k:=by
 have e1:es.drop s=(es.drop s).take (k - s) ++ es.drop k:=by
  conv=>lhs;rw [← List.take_append_drop (k - s) (es.drop s)]
  rw [List.drop_drop,Nat.add_sub_cancel' h]
 refine ⟨?_,e1⟩
 have e:puts es=puts (es.take s) ++ (puts ((es.drop s).take (k - s)) ++ puts (es.drop k)):=by
  unfold puts
  rw [← List.flatMap_append,← List.flatMap_append,← e1,List.take_append_drop]
 rw [e,ln_app,ln_app]
 omega
theorem ChJ.next {enc:Int} {l:List (Int × Int)} {es:List Ed} {s k:Nat} {qs:List PG} (h:sh enc qs=apE l 0 (es.drop k)) (hr:rg l.length 0 es=true) (hsk:s≤k) :
  rg (sh enc qs).length 0 ((es.drop s).take (k - s))=true∧apE (sh enc qs) 0 ((es.drop s).take (k - s))=apE l 0 (es.drop s):=by
 have e1:=(puts_drop enc es s k hsk).2
 have hr':rg l.length 0 (es.drop s)=true:=rg_tail (es.take s) 0 (by rw [List.take_append_drop];exact hr)
 rw [e1] at hr'
 rw [h]
 exact ⟨rg_two l _ _ hr',by rw [ap_two l (es.drop k) ((es.drop s).take (k - s)) 0 (Nat.zero_le _) hr',← e1]⟩
set_option maxHeartbeats 4000000 in
theorem Change_of (enc lim:Int) (L:List Int) (w:World) (t:Nat) (ps:List PG) (v:Value) (es:List Ed) (h:Tx enc lim L w t ps) (hE:EdR w v es) (hl:es.length≤70000→(puts es).length≤2305843009213693951) (RW:RwOk enc lim L t ps) :
  Calls Tryz.prog 35 #[.pointer (some ⟨t,0,none⟩),v] w fun e w'=>ChR enc lim L t ps es w e w':=by
 have CK:=zh (check_any enc lim L w t ps v es h hE hl)
 have HT:=zh h
 obtain ⟨ao,cap,rfl,h1,h2,h3⟩:=id hE
 have HE:=zh hE
 have HRW:=zh RW
 clear RW hE h3 h
 obtain ⟨c,hc⟩:∃ c,c=ckA enc lim (sh enc ps).length es:=⟨_,rfl⟩
 rw [← hc] at CK
 by_cases hc0:c=0
 ·subst hc0
  have HCK:=zh (ck_zero hc.symm)
  have HC:=zh hc.symm
  clear hc
  go_enter Tryz.func35,Tryz.ntmps35
  go_upto_block 0 with (go_at_call 63;refine CK.out.mono ?_;rintro e w1 ⟨rfl,hb1⟩;have HB1:=zh hb1;clear hb1;obtain ⟨lv,u,⟨_,_,_,c3⟩,_,htt,htl⟩:=(HT.out.ext HB1.out).cells;have HTT:=zh htt;clear htt;(try dsimp only))
  obtain ⟨w2,hw2,kb,hb2⟩:∃ w2,w2=w1.alloc (.cells #[.pointer u] 90)∧w2.heap[w1.heap.size]?=some (.cells #[.pointer u] 90 (0,0))∧Below w1.heap.size w1 w2:=⟨_,rfl,heap_alloc_new _ _,zxa (Below.refl _ _) _⟩
  rw [← hw2]
  clear hw2 c3
  have HB2:=zh (zxt HB1.out hb2)
  have hlen:es.length≤70000:=HCK.out.1
  have HRG:=zh HCK.out.2.1
  obtain ⟨b,hb⟩:∃ b,b=w1.heap.size:=⟨_,rfl⟩
  have HWB:=zh (show w.heap.size≤b by rw [hb];exact HB1.out.size)
  rw [← hb] at kb ⊢
  have HJ0:Hid (ChJ enc L (sh enc ps) es b w es.length w2):=⟨u,ps,kb,HTT.out.ext hb2,HT.out.pc.ext HB2.out,by rw [List.drop_length,apE,List.drop_zero],HB2.out⟩
  clear kb hb2 hb HTT HB1
  go_wp2_with fail
  go_loopg [7] es.length (fun gk p wr=>p=.int .i64 (gk:Nat)∧gk≤es.length∧Hid (ChJ enc L (sh enc ps) es b w gk wr))
  case atStart=>exact ⟨rfl,Nat.le_refl _,HJ0.out⟩
  case round =>
   obtain ⟨rfl,hgn,HI⟩:=hrel
   obtain ⟨wo,rfl⟩:∃ wo,wo=wr:=⟨_,rfl⟩
   obtain ⟨u1,qs,kb,htt,hpc,hsh,hbw⟩:=HI.out
   have HKB:=zh kb
   have HTQ:=zh htt
   have HPQ:=zh hpc
   have HSQ:=zh hsh
   have HBW:=zh hbw
   have HCB:Hid (∀ w',Below wo.heap.size wo w'→w'.cell? ⟨b,0,none⟩=some (.pointer u1)∧(∀ i,w'.frozen? ⟨b,i,none⟩=false)∧w'.heap[b]?=some (.cells #[.pointer u1] 90 (0,0))):=fun w' hb=>by
    have e:=(hb.block b (Array.getElem?_eq_some_iff.1 HKB.out).1).trans HKB.out
    exact ⟨by rw [cell_of_row w' _ _ _ _ _ e];rfl,fun i=>by simp [World.frozen?,e],e⟩
   clear kb htt hpc hsh hbw HI
   by_cases h0:0 < gk
   ·have h0':(0:Int) < (gk:Int):=by omega
    obtain ⟨k,rfl⟩:∃ k,gk=k + 1:=⟨gk - 1,by omega⟩
    have hwk:IntKind.i64.wrap (k:Int)=(k:Int):=by rw [IntKind.wrap_i64];omega
    obtain ⟨eb,eo,rfl,HEP⟩:∃ eb eo,ao=some ⟨eb,eo,none⟩∧Hid (∀ s,s < k + 1→EdR w (.slice (some ⟨eb,eo + s * 3,none⟩) (k + 1 - s) (cap - s)) ((es.drop s).take (k + 1 - s))):=by
     obtain ⟨eb,eo,e1,_⟩:=HE.out.part k (k + 1) (by omega) hgn
     refine ⟨eb,eo,e1,fun s hs=>?_⟩
     obtain ⟨eb',eo',e2,e3⟩:=HE.out.part s (k + 1) hs hgn
     rw [e1] at e2
     cases e2
     exact e3
    go_upto_block 2 with fail
    go_cut [8] from 25 to 43 (fun p wF=>∃ s:Nat,p=.int .i64 (s:Nat)∧s≤k∧Hid (Below wo.heap.size wo wF))
    case first =>
     go_wp2_with fail
     go_loopg [8] k (fun s p wr2=>p=.int .i64 (s:Nat)∧s≤k∧Hid (Below wo.heap.size wo wr2))
     case atStart=>exact ⟨rfl,Nat.le_refl _,Below.refl _ _⟩
     case round =>
      obtain ⟨rfl,hs,HBi⟩:=hrel
      by_cases hs0:0 < gk
      ·obtain ⟨m,rfl⟩:∃ m,gk=m + 1:=⟨gk - 1,by omega⟩
       obtain ⟨e0,he0⟩:∃ e,es[m + 1]?=some e:=⟨_,List.getElem?_eq_getElem (by omega)⟩
       obtain ⟨e1,he1⟩:∃ e,es[m]?=some e:=⟨_,List.getElem?_eq_getElem (by omega)⟩
       have hBw:=zxt HBW.out HBi.out
       obtain ⟨d0,d1⟩:wr.cell? ⟨eb,eo + (m + 1) * 3,none⟩=some (.int .i64 e0.1)∧wr.cell? ⟨eb,eo + m * 3 + 1,none⟩=some (.int .i64 e1.2.1):=by
        obtain ⟨ao',cap',q1,_,_,q5⟩:=HE.out
        simp only [Value.slice.injEq] at q1
        obtain ⟨rfl,_,_⟩:=q1
        obtain ⟨b',o',k1,k2,k3⟩:=q5 (by intro hn;subst hn;simp at he0)
        cases k1
        exact ⟨(hBw.cell (p:=⟨eb,_,none⟩) k2).trans (k3 _ _ he0).1,(hBw.cell (p:=⟨eb,_,none⟩) k2).trans (k3 _ _ he1).2.1⟩
       obtain ⟨a,ha⟩:∃ a,a=e0.1:=⟨_,rfl⟩
       obtain ⟨c,hc⟩:∃ c,c=e1.2.1:=⟨_,rfl⟩
       rw [← ha] at d0
       rw [← hc] at d1
       clear ha hc he0 he1 hBw
       have hwm:IntKind.i64.wrap (m:Int)=(m:Int):=by rw [IntKind.wrap_i64];omega
       have hm1:(m:Int) < (es.length:Int):=by omega
       have hm2:(m:Int) + 1 < (es.length:Int):=by omega
       have hm3:(0:Int) < (m:Int) + 1:=by omega
       have hm4:(0:Int)≤(m:Int) + 1:=by omega
       go_upto_region 8 with fail
       by_cases hfar:IntKind.i64.wrap (a - c)≤1024
       ·skip
        refine wp_region_held_drew (S:=fun w''=>w''.cell? ⟨eb,eo + (m + 1) * 3,none⟩=some (.int .i64 a)∧w''.cell? ⟨eb,eo + m * 3 + 1,none⟩=some (.int .i64 c)) (by kernel_rfl) (⟨d0,d1⟩) (fun _=>?_)
        refine tkH 0 rfl ?_
        refine tkH 1 rfl ?_
        refine tkH 2 rfl ?_
        refine tkH 3 rfl ?_
        refine tkH 4 rfl ?_
        refine tkH 5 rfl ?_
        refine tkH 6 rfl ?_
        refine tkH 7 rfl ?_
        refine tkH 8 rfl ?_
        refine tkH 9 rfl ?_
        refine tkH 10 rfl ?_
        refine tkH 11 rfl ?_
        refine tkH 12 rfl ?_
        refine tkH 13 rfl ?_
        refine tkH 14 rfl ?_
        refine tkH 15 rfl ?_
        refine tkH 16 rfl ?_
        refine dnH ?_
        go_wp2_with fail
        go_roundg m
        case rel=>exact ⟨by go_num,by omega,HBi.out.drew⟩
        case measure=>omega
       ·skip
        refine wp_region_held_drew (S:=fun w''=>w''.cell? ⟨eb,eo + (m + 1) * 3,none⟩=some (.int .i64 a)∧w''.cell? ⟨eb,eo + m * 3 + 1,none⟩=some (.int .i64 c)) (by kernel_rfl) (⟨d0,d1⟩) (fun _=>?_)
        refine tkH 0 rfl ?_
        refine tkH 1 rfl ?_
        refine tkH 2 rfl ?_
        refine tkH 3 rfl ?_
        refine tkH 4 rfl ?_
        refine tkH 5 rfl ?_
        refine tkH 6 rfl ?_
        refine tkH 7 rfl ?_
        refine tkH 8 rfl ?_
        refine tkH 9 rfl ?_
        refine tkH 10 rfl ?_
        refine tkH 11 rfl ?_
        refine tkH 12 rfl ?_
        refine tkH 13 rfl ?_
        refine tkH 14 rfl ?_
        refine tkH 15 rfl ?_
        refine tkH 16 rfl ?_
        refine dnH ?_
        go_wp2_with fail
        go_meet
        case rel=>exact ⟨m + 1,by first | rfl | go_num,by omega,HBi.out.drew⟩
      ·obtain rfl:gk=0:=by omega
       go_upto_region 8 with fail
       refine wp_region_held_drew (S:=fun _=>True) (by kernel_rfl) (trivial) (fun _=>?_)
       refine tkH 0 rfl ?_
       refine tkH 1 rfl ?_
       refine tkH 2 rfl ?_
       refine tuH 3 rfl ?_
       refine tuH 4 rfl ?_
       refine tuH 5 rfl ?_
       refine tuH 6 rfl ?_
       refine tuH 7 rfl ?_
       refine tuH 8 rfl ?_
       refine tuH 9 rfl ?_
       refine tuH 10 rfl ?_
       refine tuH 11 rfl ?_
       refine tuH 12 rfl ?_
       refine tuH 13 rfl ?_
       refine tuH 14 rfl ?_
       refine tuH 15 rfl ?_
       refine tkH 16 rfl ?_
       refine dnH ?_
       go_wp2_with fail
       go_meet
       case rel=>exact ⟨0,by first | rfl | go_num,by omega,HBi.out.drew⟩
    obtain ⟨s,rfl,hsk,HBc⟩:=hcut
    obtain ⟨v1,rfl⟩:∃ v1,v1=wc:=⟨_,rfl⟩
    have hNX:=ChJ.next HSQ.out HRG.out (show s≤k + 1 by omega)
    have hpd:=(puts_drop enc es s (k + 1) (by omega)).1
    have hfit:∀ a ∈ puts ((es.drop s).take (k + 1 - s)),Cx.fits enc a=true:=fun a ha=>HCK.out.2.2.1 a (by
     unfold puts at ha ⊢
     rw [List.mem_flatMap] at ha ⊢
     obtain ⟨e,he,h2⟩:=ha
     exact ⟨e,List.mem_of_mem_drop (List.mem_of_mem_take he),h2⟩)
    have hlq:ln enc (asOf qs) + ln enc (puts ((es.drop s).take (k + 1 - s)))≤1000000:=by
     have h1:=ChJ.bd HSQ.out HRG.out
     have h2:=HT.out.sz
     have h3:=HT.out.lm
     have h4:=HCK.out.2.2.2
     rw [ln_fst] at h1
     omega
    have RWC:Hid (∀ w',Below wo.heap.size wo w'→Calls Tryz.prog 64 #[.pointer (some ⟨t,0,none⟩),.agg #[.pointer u1],.slice (some ⟨eb,eo + s * 3,none⟩) (k + 1 - s) (cap - s)] w' fun e w''=>RwR enc L (apE (sh enc ps) 0 (es.drop s)) w' e w''):=fun w' hb=>by
     rw [← hNX.2]
     exact HRW.out w' u1 _ _ qs (HT.out.ext (zxt HBW.out hb)) (HTQ.out.ext hb) (HPQ.out.ext hb) ((HEP.out s (by omega)).ext (zxt HBW.out hb)) (by intro e;have:=congrArg List.length e;rw [List.length_take,List.length_drop] at this;simp at this;omega) hNX.1 hfit hlq (by rw [List.length_take];omega)
    clear hNX hpd hfit hlq
    go_upto_region 10 with fail
    obtain ⟨cb,cf,_⟩:=HCB.out v1 HBc.out
    have hsl1:s≤k + 1:=by omega
    have hsl2:k + 1≤cap:=by omega
    have hsl3:¬ cap=s:=by omega
    have hsl4:(0:Int)≤(k:Int) + 1:=by omega
    have hsl5:(k:Int) + 1≤(cap:Int):=by omega
    refine wp_region_held_drew (S:=fun _=>True) (by kernel_rfl) (trivial) (fun _=>?_)
    refine tkH 0 rfl ?_
    refine tkH 2 rfl ?_
    refine tkH 3 rfl ?_
    refine tkH 4 rfl ?_
    refine tkH 5 rfl ?_
    refine rdH 1 rfl fun K hK=>?_
    go_simp
    refine hK.out _ _ ?_ (fun _=>?_)
    ·trivial
    clear hK K
    try simp only [Act.put,tS]
    refine rdH 6 rfl fun K hK=>?_
    go_simp
    refine (RWC.out _ HBc.out.drew).mono ?_;clear cb cf;rintro e x1 ⟨u2,qs2,rfl,ht2,hp2,hs2,hb2⟩;have HX:=zh (And.intro ht2 (And.intro hp2 hs2));have HBx:=zh (zxt HBc.out.drew hb2);clear ht2 hp2 hs2 hb2;obtain ⟨cb,cf,_⟩:=HCB.out x1 HBx.out;try dsimp only
    refine hK.out _ _ ?_ (fun _=>?_)
    ·trivial
    clear hK K
    try simp only [Act.put,tS]
    refine rdH 7 rfl fun K hK=>?_
    go_simp
    generalize hwN:World.setCell _ _ _=x2;obtain ⟨p1,p2⟩:=set1 (HCB.out x1 HBx.out).2.2 0 (.pointer u2);rw [hwN] at p1 p2;have HP1:=zh p1;have HP2:=zh p2;clear p1 p2 hwN
    refine hK.out _ _ ?_ (fun _=>?_)
    ·trivial
    clear hK K
    try simp only [Act.put,tS]
    refine dnH ?_
    go_wp2_with fail
    go_roundg s
    case rel =>
     refine ⟨by first | rfl | go_num,by omega,u2,qs2,HP1.out,?_,?_,HX.out.2.2,?_⟩
     ·exact TT.same HX.out.1 (fun k hk=>HP2.out.block k hk.lt (fun e=>by cases e;exact absurd (hk.uniq ⟨_,(HCB.out x1 HBx.out).2.2⟩) (by decide)))
     ·exact HX.out.2.1.same (fun k hk=>HP2.out.block k hk.lt (fun e=>by cases e;exact absurd (hk.uniq ⟨_,(HCB.out x1 HBx.out).2.2⟩) (by decide)))
     ·exact zbp (zxt HBW.out HBx.out) (zxt HBW.out HBx.out).size HP2.out HWB.out
    case measure=>omega
   ·have h0':¬ (0:Int) < (gk:Int):=by omega
    obtain rfl:gk=0:=by omega
    rw [List.drop_zero] at HSQ
    obtain ⟨cb,cf,_⟩:=HCB.out wo (Below.refl _ _)
    have HTW:=zh (HT.out.ext HBW.out)
    obtain ⟨lv2,u2,⟨_,cl,_,c3⟩,_,_,htl2⟩:=HTW.out.cells
    have HCT:Hid (∀ w',Below wo.heap.size wo w'→w'.cell? ⟨t,1,none⟩=some (.int .i64 lim)∧w'.cell? ⟨b,0,none⟩=some (.pointer u1)):=fun w' hb=>by
     obtain ⟨_,_,⟨_,k1,_,_⟩,_⟩:=(HTW.out.ext hb).cells
     exact ⟨k1,(HCB.out w' hb).1⟩
    have SU:Hid (∀ w',Below wo.heap.size wo w'→Calls Tryz.prog 37 #[.agg #[.pointer u1]] w' fun e w''=>∃ s,Hid (s=rA.su (xsOf qs))∧e=.returned (.agg #[.int .i64 s.a,.int .i64 s.s,.int .i64 s.b,.bool s.lf,.bool s.cr])∧Below w'.heap.size w' w''):=fun w' hb=>Sum_any u1 (xsOf qs) w' (HTQ.out.ext hb)
    obtain ⟨z,hz⟩:∃ z,z=ln enc (asOf qs):=⟨_,rfl⟩
    have HSS:Hid ((rA.su (xsOf qs)).s=(z:Int)):=by
     unfold Hid
     rw [HPQ.out.su,hz]
     exact (spn_a enc _ HPQ.out.fit).2
    have HZ:=zh hz
    have HZA:Hid (ln enc ((apE (sh enc ps) 0 es).map Prod.fst)=z):=by unfold Hid;rw [← HSQ.out,hz,sh_fst]
    have fs:=field_size
    clear hz
    go_upto_region 12 with fail
    by_cases hbig:lim < (z:Int)
    ·have HAN:=zh (show chA enc lim (sh enc ps) es=50 by unfold chA;rw [HC.out,if_pos rfl,HZA.out,if_pos hbig])
     refine wp_region_held_drew (S:=fun w''=>w''.cell? ⟨t,1,none⟩=some (.int .i64 lim)∧w''.cell? ⟨b,0,none⟩=some (.pointer u1)) (by kernel_rfl) (⟨cl,cb⟩) (fun _=>?_)
     refine tkH 0 rfl ?_
     refine tkH 3 rfl ?_
     refine tkH 4 rfl ?_
     refine tkH 5 rfl ?_
     refine tkH 6 rfl ?_
     refine rdH 1 rfl fun K hK=>?_
     go_simp
     refine (SU.out _ (Below.drew (Below.refl _ _))).mono ?_;clear cb cf cl c3;rintro e x1 ⟨⟨sa,ss,sb,sf,sc⟩,hs,rfl,hb2⟩;obtain rfl:ss=(z:Int):=(congrArg Rs.s hs.out).trans HSS.out;have HBx:Hid (Below wo.heap.size wo x1):=zxt (Below.drew (Below.refl _ _)) hb2;clear hs hb2;obtain ⟨cl,cb⟩:=HCT.out x1 HBx.out;try dsimp only
     refine hK.out _ _ ?_ (fun _=>?_)
     ·(try simp only [World.cell?_drew]);exact ⟨cl,cb⟩
     clear hK K
     try simp only [Act.put,tS]
     refine tkH 2 rfl ?_
     refine tkH 7 rfl ?_
     refine dnH ?_
     go_wp2_with fail
     go_ret
     exact ⟨ret_int HAN.out.symm,ps,HTW.out.ext HBx.out,by unfold chT;rw [HAN.out];rfl,Kps.of_below _ (zxt HBW.out HBx.out)⟩
    ·have HAN:=zh (show chA enc lim (sh enc ps) es=0 by unfold chA;rw [HC.out,if_pos rfl,HZA.out,if_neg hbig])
     refine wp_region_held_drew (S:=fun w''=>w''.cell? ⟨t,1,none⟩=some (.int .i64 lim)∧w''.cell? ⟨b,0,none⟩=some (.pointer u1)) (by kernel_rfl) (⟨cl,cb⟩) (fun _=>?_)
     refine tkH 0 rfl ?_
     refine tkH 3 rfl ?_
     refine tkH 4 rfl ?_
     refine tkH 5 rfl ?_
     refine tkH 6 rfl ?_
     refine rdH 1 rfl fun K hK=>?_
     go_simp
     refine (SU.out _ (Below.drew (Below.refl _ _))).mono ?_;clear cb cf cl c3;rintro e x1 ⟨⟨sa,ss,sb,sf,sc⟩,hs,rfl,hb2⟩;obtain rfl:ss=(z:Int):=(congrArg Rs.s hs.out).trans HSS.out;have HBx:Hid (Below wo.heap.size wo x1):=zxt (Below.drew (Below.refl _ _)) hb2;clear hs hb2;obtain ⟨cl,cb⟩:=HCT.out x1 HBx.out;try dsimp only
     refine hK.out _ _ ?_ (fun _=>?_)
     ·(try simp only [World.cell?_drew]);exact ⟨cl,cb⟩
     clear hK K
     try simp only [Act.put,tS]
     refine tkH 2 rfl ?_
     refine tkH 7 rfl ?_
     refine dnH ?_
     obtain ⟨lv3,u3,hblk,hld3,_⟩:=(HTW.out.ext HBx.out).ex
     have HBK:=zh hblk
     have HLD3:=zh hld3
     have cf3:∀ i,x1.frozen? ⟨t,i,none⟩=false:=fun i=>by simp [World.frozen?,hblk]
     have cc3:x1.cell? ⟨t,3,none⟩=some (.pointer u3):=by rw [cell_of_row x1 _ _ _ _ _ hblk];rfl
     clear hblk hld3
     go_wp2_with fail
     go_ret
     generalize hwz:World.setCell _ _ _=zz
     obtain ⟨p1,p2⟩:=set1 HBK.out 3 (.pointer u1)
     rw [hwz] at p1 p2
     have ez:∀ T,T≠92→∀ k,Typ T x1 k→zz.heap[k]?=x1.heap[k]?:=fun T hT k hk=>p2.block k hk.lt (fun e=>by cases e;exact hT (hk.uniq ⟨_,HBK.out⟩))
     refine ⟨ret_int HAN.out.symm,qs,⟨⟨lv3,u1,p1,HLD3.out.same (ez _ (by decide)),(HTQ.out.ext HBx.out).same (ez _ (by decide))⟩,(HPQ.out.ext HBx.out).same (ez _ (by decide)),HT.out.en,HT.out.by',HT.out.ll,HT.out.l0,HT.out.lm,?_⟩,?_,?_⟩
     ·have:=HT.out.lm;have:=HZ.out;omega
     ·unfold chT;rw [HAN.out,if_pos rfl];exact HSQ.out
     ·exact (Kps.of_below (fun k=>k=t) (zxt HBW.out HBx.out)).trans (Kps.grown p2 fun j e _=>(Option.some.inj e).symm) fun _ _ e=>e
 ·have HF:Hid (Ending.returned (.int .i64 c)=.returned (.int .i64 (chA enc lim (sh enc ps) es))∧sh enc ps=chT enc lim (sh enc ps) es):=by
   have e:chA enc lim (sh enc ps) es=c:=by unfold chA;rw [← hc,if_neg hc0]
   exact ⟨by rw [e],by unfold chT;rw [e,if_neg hc0]⟩
  have hcb:(c == 0)=false:=by simpa using hc0
  clear hc
  go_enter Tryz.func35,Tryz.ntmps35
  go_wp2_with (go_at_call 63;refine CK.out.mono ?_;rintro e w1 ⟨rfl,hb1⟩;have HB1:=zh hb1;clear hb1;(try dsimp only))
  go_ret
  exact ⟨HF.out.1,ps,HT.out.ext HB1.out,HF.out.2,Kps.of_below _ HB1.out⟩
open Go.RowKit
theorem sh_succ {enc:Int} {ps:List PG} {k:Nat} {x:It} {g:List Int} (h:ps[k]?=some (x,g)):sh enc (ps.take (k + 1))=sh enc (ps.take k) ++ ctn enc x.pl g:=by
 rw [List.take_add_one,h,Option.toList_some,sh_app,sh_one]
theorem sh_part (enc:Int) (ps:List PG) (k:Nat):sh enc (ps.take k) <+: sh enc ps:=by
 conv=>rhs;rw [← List.take_append_drop k ps,sh_app]
 exact List.prefix_append _ _
def btw (enc:Int) (ps:List PG) (f t:Nat):List (Int × Int):=((sh enc ps).drop f).take (t - f)
theorem btw_len {enc:Int} {ps:List PG} {f t:Nat} (h:t≤(sh enc ps).length):(btw enc ps f t).length=t - f:=by
 unfold btw;rw [List.length_take,List.length_drop];omega
def told (enc:Int) (ps:List PG) (f k m:Nat):List (Int × Int):=((sh enc ps).take ((sh enc (ps.take k)).length + m)).drop f
theorem told_pre {enc:Int} {ps:List PG} {f t k m:Nat} (h:(sh enc (ps.take k)).length + m≤t):told enc ps f k m <+: btw enc ps f t:=by
 unfold told btw
 rw [List.drop_take]
 exact List.take_prefix_take_left (by omega)
theorem told_all {enc:Int} {ps:List PG} {f t k m:Nat} (h:(sh enc (ps.take k)).length + m=t):told enc ps f k m=btw enc ps f t:=by
 unfold told btw
 rw [List.drop_take,h]
theorem told_next {enc:Int} {ps:List PG} {f k:Nat} {x:It} {g:List Int} (h:ps[k]?=some (x,g)):told enc ps f k g.length=told enc ps f (k + 1) 0:=by
 unfold told
 rw [sh_succ h,List.length_append,ctn_len,Nat.add_zero]
theorem sh_get {enc:Int} {ps:List PG} {k m:Nat} {x:It} {g:List Int} (h:ps[k]?=some (x,g)) (hm:m < g.length):(sh enc ps)[(sh enc (ps.take k)).length + m]?=(ctn enc x.pl g)[m]?:=by
 obtain ⟨z,hz⟩:=sh_part enc ps (k + 1)
 rw [← hz,sh_succ h,List.getElem?_append_left (by rw [List.length_append,ctn_len];omega),List.getElem?_append_right (by omega)]
 congr 1;omega
theorem ctn_get {enc:Int} {g:List Int} {pl:Int} (h:-1≤pl) {m:Nat} {a:Int} (ha:g[m]?=some a):(ctn enc pl g)[m]?=some (a,tg pl (ln enc (g.take m):Nat)):=by
 have e:=(ctn_take enc g pl h m).2
 have k:(ctn enc pl g)[m]?=((ctn enc pl g).drop m)[0]?:=by rw [List.getElem?_drop,Nat.add_zero]
 rw [k,e,drop_of ha]
 rfl
theorem told_snoc {enc:Int} {ps:List PG} {f k m:Nat} {x:It} {g:List Int} {a:Int} (h:ps[k]?=some (x,g)) (hl:-1≤x.pl) (ha:g[m]?=some a) (hf:f≤(sh enc (ps.take k)).length + m):told enc ps f k (m + 1)=told enc ps f k m ++ [(a,tg x.pl (ln enc (g.take m):Nat))]:=by
 have hm:m < g.length:=(List.getElem?_eq_some_iff.1 ha).1
 have e:=sh_get (enc:=enc) h hm
 rw [ctn_get hl ha] at e
 unfold told
 have hlt:=(List.getElem?_eq_some_iff.1 e).1
 rw [← Nat.add_assoc,List.take_add_one,e,Option.toList_some,List.drop_append_of_le_length (by rw [List.length_take];omega)]
theorem find_from {enc:Int} {L:List Int} {w:World} {ps:List PG} (h:Pcs enc L w ps) (f:Nat) :
  ∃ i,rA.fnd 0 ((f:Int) + 1) Rs.zero (xsOf ps)=i + 1∧i≤ps.length∧(sh enc (ps.take i)).length≤f∧∀ x g,ps[i]?=some (x,g)→f - (sh enc (ps.take i)).length < g.length:=by
 have l2:=rA.fnd_le 0 ((f:Int) + 1) (xsOf ps) Rs.zero
 rw [xsOf_len] at l2
 have h0:rA.fnd 0 ((f:Int) + 1) Rs.zero (xsOf ps)≠0:=by
  intro e
  have:=rA.fnd_hit 0 ((f:Int) + 1) (xsOf ps) Rs.zero Rs.ok_zero (by rw [e];exact Nat.zero_le _)
  rw [e,key_len h] at this
  simp [sh] at this
  omega
 obtain ⟨i,hi⟩:∃ i,rA.fnd 0 ((f:Int) + 1) Rs.zero (xsOf ps)=i + 1:=⟨_,(Nat.succ_pred_eq_of_ne_zero h0).symm⟩
 have hle:(sh enc (ps.take i)).length≤f:=by
  have:=rA.fnd_less 0 ((f:Int) + 1) (xsOf ps) Rs.zero i Rs.ok_zero (by omega)
  rw [key_len h] at this
  omega
 refine ⟨i,hi,by omega,hle,?_⟩
 ·intro x g hg
  have hlt:=(List.getElem?_eq_some_iff.1 hg).1
  have:=rA.fnd_hit 0 ((f:Int) + 1) (xsOf ps) Rs.zero Rs.ok_zero (by rw [hi,xsOf_len];omega)
  rw [hi,key_len h,sh_succ hg,List.length_append,ctn_len] at this
  omega
end Go.Proofs.YtdhciadajendnaaGreat.P
