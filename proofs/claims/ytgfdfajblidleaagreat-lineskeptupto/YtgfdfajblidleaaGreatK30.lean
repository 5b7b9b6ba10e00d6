import Derived.Test.YtgfdfajblidleaaGreatK29
set_option maxRecDepth 100000
namespace Go.Proofs.YtgfdfajblidleaaGreat.P
open Go.RowKit
theorem rd_cut {w:World} {B:Nat} {ao:Option Addr} {n c m:Nat} {zs:List Int} (h:OwnI w B (.slice ao n c) zs) (hm:m≤zs.length):Rd .i64 w (.slice ao m c) (zs.take m)∧m≤c:=by
 obtain ⟨ao',c',e1,h1,h2,h3⟩:=h.rdi
 simp only [Value.slice.injEq] at e1
 obtain ⟨rfl,rfl,rfl⟩:=e1
 have hl:(zs.take m).length=m:=by rw [List.length_take];omega
 refine ⟨⟨ao,c,by rw [hl],by rw [hl];omega,h2,fun hn=>?_⟩,by omega⟩
 obtain ⟨b,o,rfl,hb,hc⟩:=h3 (by intro e;subst e;simp at hn)
 refine ⟨b,o,rfl,hb,fun i hi=>?_⟩
 rw [hl] at hi
 rw [hc i (by omega),List.getElem?_take_of_lt hi]
set_option maxHeartbeats 64000000 in
theorem lkept_any (x0:Int) (ad:Option Addr) (nd cd:Nat) (D:List Int) (v:Value) (os:List Opv) (W:World) (hD:Rd .u8 W (.slice ad nd cd) D) (hB:Byt D) (hO:RdO W v os) (hP:∀ o ∈ os,o.put.length≤1048576) :
  Calls Tryz.prog 3 #[.agg #[.int .i64 x0,.slice ad nd cd],v] W fun e W'=>e=.returned (.bool true)∧Below W.heap.size W W':=by
 obtain ⟨w0,hw0,hb0⟩:∃ w0,w0=W.alloc (.cells #[.int .i64 x0,.slice ad nd cd] 24)∧Below W.heap.size W w0:=⟨_,rfl,zxa (Below.refl _ _) _⟩
 have OP:=zh (opened_any x0 (.slice ad nd cd) D w0 (hD.ext hb0) hB)
 rw [hw0] at OP
 have HB0:=zh hb0
 have HW0:=zh hw0
 have HOS:=zh hO
 have HPP:=zh hP
 obtain ⟨ao,cap,rfl,ho1,ho2,hok,_⟩:=hO
 have HOK:=zh hok
 clear hw0 hb0 hD hB hok hP
 go_enter Tryz.func3,Tryz.ntmps3
 go_upto_region 2 with (go_at_call 5;refine OP.out.mono ?_;rintro e w1 ⟨t,v,rfl,ho,hb⟩;obtain ⟨enc,A,hen,hov,htz,hln,htw⟩:=ho.out;obtain ⟨av,cv,rfl⟩:=hov.form;have HTZ:=zh htz;have HTW:=zh htw;have HOV1:=zh hov;have HB1:=zh hb;have hlA:=htz.len;clear ho hb hen hov htz hln htw;(try dsimp only))
 rw [← HW0.out] at HTW HB1
 generalize hw2:World.alloc _ _=w2
 have HBx2:Hid (Below w1.heap.size w1 w2):=by unfold Hid;rw [← hw2];exact zxa (Below.refl _ _) _
 have HX2:Hid (w2.heap[w1.heap.size]?=some (.cells #[.pointer (some ⟨t,0,none⟩),.slice av A.length cv] 29 (0,0))):=by unfold Hid;rw [← hw2];exact heap_alloc_new _ _
 have HBW:Hid (Below W.heap.size W w2):=by have h1:Below W.heap.size W w1:=HB0.out.trans (HB1.out.mono HB0.out.size);exact h1.trans (HBx2.out.mono h1.size)
 have HT2:=zh (HTZ.out.ext HBx2.out)
 have HOV2:Hid (OwnI w2 0 (.slice av A.length cv) A):=(HOV1.out.le (Nat.zero_le _)).ext HBx2.out
 have s0:=(cells2 HX2.out).2.1
 have s1:=(cells2 HX2.out).2.2.1
 clear hw2 OP HTZ HTW HB1 HW0 HB0 HOV1 HBx2 w0
 generalize w1.heap.size=bo at *
 have CN:=zh (Count_z enc w2 t A HT2.out)
 have hcp:=cnt_pos enc A
 have HCA:Hid (∀ c,c=cnt enc A→brk enc A (A.length:Nat)≤c):=fun c hc=>by
  rw [hc,brk_at,bAt_len enc A _ (by omega),cnt_tail]
  split <;> omega
 obtain ⟨cn,hcn⟩:∃ cn,cn=cnt enc A:=⟨_,rfl⟩
 rw [← hcn] at CN hcp
 have HCN:=zh hcn
 clear hcn
 go_upto_region 4 with (go_at_call 6;refine CN.out.mono ?_;rintro e w3 ⟨rfl,hb⟩;have HB3:=zh hb;clear hb;(try dsimp only))
 obtain ⟨T,hTg,hTl⟩:=(HT2.out.ext HB3.out).tg
 have HTG:=zh hTg
 have HTL:Hid (T.length≤65536):=by unfold Hid;omega
 clear hTl
 have HX3:=zh ((HB3.out.block bo (cells2 HX2.out).1).trans HX2.out)
 have TGZ:=zh (Tags_z enc w3 t A T hTg)
 clear hTg s0 s1 CN hcp
 have s0:=(cells2 HX3.out).2.1
 have s1:=(cells2 HX3.out).2.2.1
 have CPT:Hid (∀ w' v',OwnI w' w3.heap.size v' T→Calls Tryz.prog 7 #[v'] w' fun e w''=>∃ v'',e=.returned v''∧Hid (OwnI w'' w'.heap.size v'' T)∧Below w'.heap.size w' w''):=fun w' v' h=>copied_any v' T w' h.rdi (by have:=HTL.out;omega)
 go_upto_region 5 with (first | (go_at_call 8;refine TGZ.out.mono ?_;rintro e w4 ⟨v4,rfl,ho4,hb⟩;have HB4:=zh hb;obtain ⟨a4,c4,hv4⟩:=ho4.form;subst hv4;have HO4:=zh ho4;clear ho4 hb;(try dsimp only)) | (go_at_call 7;refine (CPT.out _ _ HO4.out).mono ?_;rintro e w5 ⟨vt,rfl,ho5,hb⟩;have HB5:=zh (zxt HB4.out hb);obtain ⟨at9,ct9,hvt⟩:=ho5.out.form;have HO5:=zh ho5.out;clear ho5 hb;(try dsimp only)))
 have HKS:Hid (KS enc W bo t (.slice av A.length cv) A vt T w5):=by
  have hb:=zxt HB3.out HB5.out
  exact ⟨(HB5.out.block bo (cells2 HX3.out).1).trans HX3.out,by obtain ⟨L,ps,k1,k2,k3⟩:=HTG.out;exact ⟨L,ps,k1.ext HB5.out,k2,k3⟩,HBW.out.trans (hb.mono HBW.out.size),HOV2.out.ext hb,HO5.out.le (Nat.zero_le _)⟩
 have HBV:Hid (Below W.heap.size W w5):=HKS.out.bl
 clear CPT TGZ HO4 HB4 HB5 HB3 HX3 HX2 HT2 HOV2 HBW HTG HO5 s0 s1
 go_wp2_with fail
 go_loopw [8,9,10] (fun vh vq i wr=>∃ (k:Nat) (hs:List Hel) (qs:List (Value × List Int)) (ah:Option Addr) (nh ch:Nat) (aq:Option Addr) (nq cq:Nat),i=.int .i64 (k:Nat)∧vh=.slice ah nh ch∧vq=.slice aq nq cq∧k≤os.length∧k≤40∧Hid (nh=k∧nq=2 * k∧hs.length=k∧qs.length=2 * k)∧Hid (KS enc W bo t (.slice av A.length cv) A vt T wr)∧Hid (KX wr W.heap.size (.slice ah nh ch) hs (.slice aq nq cq) (qs.map Prod.fst) qs)) (fun _ _ i _=>os.length - (intOf i).toNat)
 case atStart=>exact ⟨0,[],[],none,0,0,none,0,0,rfl,rfl,rfl,Nat.zero_le _,by omega,⟨rfl,rfl,rfl,rfl⟩,HKS.out,KX.nil _ _⟩
 case round =>
  clear HKS HBV
  obtain ⟨k,hs,qs,ah,nh,ch,aq,nq,cq,rfl,rfl,rfl,hk,hk40,HL,HKS,HKR⟩:=hrel
  by_cases hlt:k < os.length∧k < 40
  ·as_aux_lemma =>
   have hlt1:(k:Int) < (os.length:Int):=by omega
   have hlt2:(k:Int) < 40:=by omega
   have hlt3:k < os.length:=hlt.1
   obtain ⟨o,ho⟩:∃ o,os[k]?=some o:=⟨_,List.getElem?_eq_getElem hlt.1⟩
   obtain ⟨pb,po,rfl,hpb,pv,hpv0,hpv⟩:∃ pb po,ao=some ⟨pb,po,none⟩∧pb < W.heap.size∧∃ pv,(∀ y,Below W.heap.size W y→y.cell? ⟨pb,po + k * 5,none⟩=some (.int .i64 o.who)∧y.cell? ⟨pb,po + k * 5 + 1,none⟩=some (.int .i64 o.k)∧y.cell? ⟨pb,po + k * 5 + 2,none⟩=some (.int .i64 o.a)∧y.cell? ⟨pb,po + k * 5 + 3,none⟩=some (.int .i64 o.b)∧y.cell? ⟨pb,po + k * 5 + 4,none⟩=some pv)∧Rd .i64 W pv o.put:=by
    obtain ⟨ao',cap',hv',_,_,_,h6⟩:=HOS.out
    cases hv'
    obtain ⟨pb,po,ea,hpb,hcs⟩:=h6 (by intro e;rw [e] at hlt3;simp at hlt3)
    obtain ⟨c0,c1,c2,c3,pv,c4,hpv⟩:=hcs k o ho
    exact ⟨pb,po,ea,hpb,pv,fun y hy=>⟨(hy.cell (p:=⟨pb,_,none⟩) hpb).trans c0,(hy.cell (p:=⟨pb,_,none⟩) hpb).trans c1,(hy.cell (p:=⟨pb,_,none⟩) hpb).trans c2,(hy.cell (p:=⟨pb,_,none⟩) hpb).trans c3,(hy.cell (p:=⟨pb,_,none⟩) hpb).trans c4⟩,hpv⟩
   obtain ⟨ap,cp,rfl,hpl1,hpl2,_⟩:=id hpv
   have hoo:=HOK.out o (List.mem_of_getElem? ho)
   have hop:=HPP.out o (List.mem_of_getElem? ho)
   have HPV:=zh hpv
   obtain ⟨g0,g1,g2,g3,g4⟩:=hpv0 wr HKS.out.bl
   clear hpv0 hpv ho hlt
   go_upto_region 11 with fail
   generalize hy1:World.alloc _ _=y1
   have HYB:Hid (Below wr.heap.size wr y1):=by unfold Hid;rw [← hy1];exact zxa (Below.refl _ _) _
   have HYO:Hid (y1.heap[wr.heap.size]?=some (.cells #[.int .i64 o.who,.int .i64 o.k,.int .i64 o.a,.int .i64 o.b,.slice ap o.put.length cp] 38 (0,0))):=by unfold Hid;rw [← hy1];exact heap_alloc_new _ _
   clear hy1 g0 g1 g2 g3 g4
   obtain ⟨ob,hob⟩:∃ ob,ob=wr.heap.size:=⟨_,rfl⟩
   rw [← hob] at HYO ⊢
   have HOB:=zh hob
   clear hob
   have HK1:=zh (HKS.out.ext HYB.out)
   have HX1:=zh (HKR.out.ext HYB.out)
   have HH1:=zh (HKR.out.h.ext HYB.out)
   have HQ1:=zh (HKR.out.q.ext HYB.out)
   have HRW:Hid (Rws W y1 (fun j=>(Value.slice ah nh ch).ownBlock=some j∨(Value.slice aq nq cq).ownBlock=some j)):=fun j hj=>by
    rcases hj with hj | hj
    ·exact ⟨(World.ownsRow.lt HH1.out j hj).1,.inr (HH1.out.typ hj)⟩
    ·exact ⟨(World.ownsRow.lt HQ1.out j hj).1,.inl (HQ1.out.typ hj)⟩
   have HS:Hid (∀ y,Kps (fun j=>(Value.slice ah nh ch).ownBlock=some j∨(Value.slice aq nq cq).ownBlock=some j) y1 y→KS enc W bo t (.slice av A.length cv) A vt T y∧y.heap[ob]?=some (.cells #[.int .i64 o.who,.int .i64 o.k,.int .i64 o.a,.int .i64 o.b,.slice ap o.put.length cp] 38 (0,0))∧(∀ x ∈ hs,HelI y W.heap.size x)∧∀ x ∈ qs,OwnI y W.heap.size x.1 x.2):=fun y hy =>
    ⟨HK1.out.kps hy HRW.out,(hy.same ob (Array.getElem?_eq_some_iff.1 HYO.out).1 (HRW.out.not (T:=38) ⟨_,HYO.out⟩ (by decide) (by decide))).trans HYO.out,fun x hx=>⟨((HKR.out.hi x hx).1.ext HYB.out).kps2 hy (fun j e q=>HRW.out.not q (by decide) (by decide) e),((HKR.out.hi x hx).2.ext HYB.out).kps2 hy (fun j e q=>HRW.out.not q (by decide) (by decide) e)⟩,fun x hx=>((HKR.out.qi x hx).1.ext HYB.out).kps2 hy (fun j e q=>HRW.out.not q (by decide) (by decide) e)⟩
   have HC:Hid (∀ y,Kps (fun j=>(Value.slice ah nh ch).ownBlock=some j∨(Value.slice aq nq cq).ownBlock=some j) y1 y→y.cell? ⟨bo,0,none⟩=some (.pointer (some ⟨t,0,none⟩))∧y.cell? ⟨bo,1,none⟩=some (.slice av A.length cv)∧y.cell? ⟨ob,2,none⟩=some (.int .i64 o.a)∧y.cell? ⟨ob,3,none⟩=some (.int .i64 o.b)∧y.cell? ⟨ob,4,none⟩=some (.slice ap o.put.length cp)):=fun y hy=>by
    obtain ⟨k1,k2,_⟩:=HS.out y hy
    obtain ⟨_,c0,c1,c2,c3,c4⟩:=cells5 k2
    exact ⟨(cells2 k1.bx).2.1,(cells2 k1.bx).2.2.1,c2,c3,c4⟩
   have HPUT:Hid (∀ y,Kps (fun j=>(Value.slice ah nh ch).ownBlock=some j∨(Value.slice aq nq cq).ownBlock=some j) y1 y→Rd .i64 y (.slice ap o.put.length cp) o.put):=fun y hy=>HPV.out.ext (HS.out y hy).1.bl
   have Ky1:Hid (Kps (fun j=>(Value.slice ah nh ch).ownBlock=some j∨(Value.slice aq nq cq).ownBlock=some j) y1 y1):=Kps.refl _ _
   clear HK1 HRW HKS HYB HYO
   obtain ⟨s0,s1,o2,o3,o4⟩:=HC.out y1 Ky1.out
   have WI:=zh (within_any o.a A.length y1 hoo.a (by omega))
   go_upto_region 12 with (go_at_call 9;refine WI.out.mono ?_;rintro e w4 ⟨p,rfl,hp,hw⟩;rw [hw];clear hw;(try dsimp only))
   clear WI
   have WI:=zh (within_any o.b 2 y1 hoo.b (by omega))
   go_upto_region 13 with (go_at_call 9;refine WI.out.mono ?_;rintro e w4 ⟨nn,rfl,hnn,hw⟩;rw [hw];clear hw;(try dsimp only))
   clear WI
   obtain ⟨nat,hnat⟩:∃ nat:Int,nat=1 + (nn:Int):=⟨_,rfl⟩
   have HNAT:Hid (nat=1∨nat=2∨nat=3):=by unfold Hid;omega
   rw [← hnat]
   clear hnat hnn
   have HP:=zh hp
   obtain ⟨P,hPe⟩:∃ P,P=tyF A p nat [] o.put:=⟨_,rfl⟩
   have HPE:=zh hPe
   have HPL:Hid (o.put.length≤P.length∧P.length≤2 * o.put.length):=by
    unfold Hid
    have:=tyF_len A p nat o.put []
    rw [hPe]
    simpa using this
   clear hPe
   have CPP:Hid (∀ w',Kps (fun j=>(Value.slice ah nh ch).ownBlock=some j∨(Value.slice aq nq cq).ownBlock=some j) y1 w'→Calls Tryz.prog 7 #[.slice ap o.put.length cp] w' fun e w''=>∃ v',e=.returned v'∧Hid (OwnI w'' w'.heap.size v' o.put)∧Below w'.heap.size w' w''):=fun w' hw=>copied_any _ _ w' (HPUT.out w' hw) (by omega)
   have TYP:Hid (∀ w' v',Kps (fun j=>(Value.slice ah nh ch).ownBlock=some j∨(Value.slice aq nq cq).ownBlock=some j) y1 w'→Rd .i64 w' v' o.put→Calls Tryz.prog 10 #[.pointer (some ⟨t,0,none⟩),.int .i64 (p:Nat),v',.int .i64 nat] w' fun e w''=>∃ v,e=.returned (.tuple #[v,.int .i64 0])∧Hid (OwnI w'' w'.heap.size v P)∧Below w'.heap.size w' w''):=fun w' v' hw hv=>by
    have:=Typed_good enc w' t A p v' o.put nat (HS.out w' hw).1.tg.tz HP.out hv HNAT.out (by omega)
    rw [HPE.out]
    exact this
   have SAM:Hid (∀ w' v1 v2 zs,Rd .i64 w' v1 zs→Rd .i64 w' v2 zs→Calls Tryz.prog 11 #[v1,v2] w' fun e w''=>e=.returned (.bool true)∧Below w'.heap.size w' w''):=fun w' v1 v2 zs h1 h2=>same_yes v1 v2 zs w' h1 h2
   generalize hC5:o.put.length=m at *
   have HM:=zh hC5
   clear hC5
   go_upto_region 13 with fail
   refine wp_region_held_drew (S:=fun w''=>w''.cell? ⟨bo,0,none⟩=some (.pointer (some ⟨t,0,none⟩))∧w''.cell? ⟨bo,1,none⟩=some (.slice av A.length cv)∧w''.cell? ⟨ob,2,none⟩=some (.int .i64 o.a)∧w''.cell? ⟨ob,3,none⟩=some (.int .i64 o.b)∧w''.cell? ⟨ob,4,none⟩=some (.slice ap m cp)) (by kernel_rfl) (HC.out y1 Ky1.out) (fun _=>?_)
   refine tkH 0 rfl ?_
   refine tkH 1 rfl ?_
   refine tkH 2 rfl ?_
   refine tkH 3 rfl ?_
   refine tkH 4 rfl ?_
   refine tkH 6 rfl ?_
   refine rdH 5 rfl fun K hK=>?_
   go_simp
   refine (CPP.out _ (Ky1.out.bel (Below.drew (Below.refl _ _)))).mono ?_;clear s0 s1 o2 o3 o4;rintro e y2a ⟨v1,rfl,ho,hb⟩;have Ky2a:=zh ((Ky1.out.bel (Below.drew (Below.refl _ _))).bel hb);have Zy2a:=zh (HS.out _ Ky2a.out).1.bl.size;have Sy2a:=zh (show y1.heap.size≤y2a.heap.size from (zxt (Below.drew (Below.refl _ _)) hb).size);have By2a:=zh (zxt (Below.drew (Below.refl _ _)) hb);clear hb;obtain ⟨a1,c1,hv⟩:=ho.out.form;rw [HM.out] at hv;subst hv;have HO1:=zh ho.out;clear ho;obtain ⟨s0,s1,o2,o3,o4⟩:=HC.out y2a Ky2a.out;try dsimp only
   refine hK.out _ _ ?_ (fun _=>?_)
   ·exact HC.out y2a Ky2a.out
   clear hK K
   try simp only [Act.put,tS]
   refine rdH 7 rfl fun K hK=>?_
   go_simp
   refine (TYP.out _ _ Ky2a.out HO1.out.rdi).mono ?_;clear s0 s1 o2 o3 o4;rintro e y2 ⟨v2,rfl,ho,hb⟩;have Ky2:=zh (Ky2a.out.bel hb);have By2:=zh (zxt By2a.out hb);clear hb;obtain ⟨a2,c2,hv⟩:=ho.out.form;subst hv;have HO2:=zh ho.out;clear ho;obtain ⟨s0,s1,o2,o3,o4⟩:=HC.out y2 Ky2.out;try dsimp only
   refine hK.out _ _ ?_ (fun _=>?_)
   ·exact HC.out y2 Ky2.out
   clear hK K
   try simp only [Act.put,tS]
   refine tkH 8 rfl ?_
   refine tkH 9 rfl ?_
   refine tkH 10 rfl ?_
   refine tkH 11 rfl ?_
   refine tkH 12 rfl ?_
   refine dnH ?_
   clear HO1 Ky2a By2a
   go_upto_region 14 with fail
   refine wp_region_held_drew (S:=fun w''=>w''.cell? ⟨bo,0,none⟩=some (.pointer (some ⟨t,0,none⟩))∧w''.cell? ⟨bo,1,none⟩=some (.slice av A.length cv)∧w''.cell? ⟨ob,2,none⟩=some (.int .i64 o.a)∧w''.cell? ⟨ob,3,none⟩=some (.int .i64 o.b)∧w''.cell? ⟨ob,4,none⟩=some (.slice ap m cp)) (by kernel_rfl) (HC.out y2 Ky2.out) (fun _=>?_)
   refine tkH 0 rfl ?_
   refine tkH 1 rfl ?_
   refine tkH 2 rfl ?_
   refine tkH 3 rfl ?_
   refine tkH 4 rfl ?_
   refine tkH 6 rfl ?_
   refine rdH 5 rfl fun K hK=>?_
   go_simp
   refine (CPP.out _ (Ky2.out.bel (Below.drew (Below.refl _ _)))).mono ?_;clear s0 s1 o2 o3 o4;rintro e y3a ⟨v3,rfl,ho,hb⟩;have Ky3a:=zh ((Ky2.out.bel (Below.drew (Below.refl _ _))).bel hb);have Zy3a:=zh (HS.out _ Ky3a.out).1.bl.size;have Sy3a:=zh (show y2.heap.size≤y3a.heap.size from (zxt (Below.drew (Below.refl _ _)) hb).size);have By3a:=zh (zxt (Below.drew (Below.refl _ _)) hb);clear hb;obtain ⟨a3,c3,hv⟩:=ho.out.form;rw [HM.out] at hv;subst hv;have HO3:=zh ho.out;clear ho;obtain ⟨s0,s1,o2,o3,o4⟩:=HC.out y3a Ky3a.out;try dsimp only
   refine hK.out _ _ ?_ (fun _=>?_)
   ·exact HC.out y3a Ky3a.out
   clear hK K
   try simp only [Act.put,tS]
   refine rdH 7 rfl fun K hK=>?_
   go_simp
   refine (TYP.out _ _ Ky3a.out HO3.out.rdi).mono ?_;clear s0 s1 o2 o3 o4;rintro e y3 ⟨v4,rfl,ho,hb⟩;have Ky3:=zh (Ky3a.out.bel hb);have By3:=zh (zxt By3a.out hb);clear hb;obtain ⟨a4,c4,hv⟩:=ho.out.form;subst hv;have HO4:=zh ho.out;clear ho;obtain ⟨s0,s1,o2,o3,o4⟩:=HC.out y3 Ky3.out;try dsimp only
   refine hK.out _ _ ?_ (fun _=>?_)
   ·exact HC.out y3 Ky3.out
   clear hK K
   try simp only [Act.put,tS]
   refine tkH 8 rfl ?_
   refine tkH 9 rfl ?_
   refine tkH 10 rfl ?_
   refine tkH 11 rfl ?_
   refine tkH 12 rfl ?_
   refine dnH ?_
   clear HO3 Ky3a By3a
   go_upto_region 15 with fail
   have HX3:=zh ((HX1.out.ext By2.out).ext By3.out)
   have HK3:Hid (KO enc W bo t (.slice av A.length cv) A vt T ob #[.int .i64 o.who,.int .i64 o.k,.int .i64 o.a,.int .i64 o.b,.slice ap m cp] y3):=⟨(HS.out y3 Ky3.out).1,(HS.out y3 Ky3.out).2.1⟩
   have HF1:=zh ((HO2.out.ext By3.out).le Zy2a.out)
   have HF2:=zh (HO4.out.le Zy3a.out)
   have FR1:Hid (∀ g,(Value.slice a2 P.length c2).ownBlock=some g→Fre hs qs g):=fun g e=>HX1.out.fre (Nat.le_trans Sy2a.out (HO2.out.blk g e).1)
   have FR2:Hid (∀ g,(Value.slice a4 P.length c4).ownBlock=some g→Fre hs (qs ++ [((Value.slice a2 P.length c2),P)]) g):=fun g e=>by
    have h1:=(HO4.out.blk g e).1
    have h2:=Sy3a.out
    have h3:=By2.out.size
    obtain ⟨f1,f2⟩:=HX1.out.fre (g:=g) (by omega)
    refine ⟨f1,fun x hx=>?_⟩
    rw [List.mem_append,List.mem_singleton] at hx
    rcases hx with hx | rfl
    ·exact f2 x hx
    ·intro e2
     have:=(HO2.out.blk g e2).2
     omega
   have HPM:Hid (m≤P.length∧P.length≤2097152):=by
    have:=HPL.out
    unfold Hid
    omega
   clear HO2 HO4 By2 By3 Zy2a Zy3a Sy2a Sy3a Ky1 Ky2 Ky3 HX1 HH1 HQ1 HKR CPP TYP SAM HS HC HPUT HPL s0 s1 o2 o3 o4
   as_aux_lemma =>
   go_upto_region 16 with (at_builtin;refine wpl_quiet rfl _ _ 36 rfl W.heap.size Tryz.info_q Tryz.underlying36 _ _ rfl (HX3.out.q.ext (zxa (Below.refl _ _) _)) (Value.slice a2 P.length c2) rfl _ rfl ((cell_of_row _ _ 0 _ _ _ (heap_alloc_new _ _)).trans rfl) (by simp only [List.length_map];have:=HL.out.2.2.2;omega) (by have:=HK3.out.s.bl.size;simp;omega) ?_;intro vy5 y5 ry5 gy5 _;have e6:((qs.map Prod.fst) ++ [(Value.slice a2 P.length c2)]).length=nq + 1:=(by simp only [List.length_append,List.length_map,List.length_singleton];rw [HL.out.2.2.2,HL.out.2.1]);obtain ⟨ay5,cy5,e5⟩:=ry5.form;rw [e6] at e5;subst e5;have HXy5:=zh ((HX3.out.ext (zxa (Below.refl _ _) _)).push _ P (HF1.out.ext (zxa (Below.refl _ _) _)) (by have:=HPM.out;omega) FR1.out ry5 gy5);have HKy5:=zh ((HK3.out.ext (zxa (Below.refl _ _) _)).rowq (HX3.out.q.ext (zxa (Below.refl _ _) _)) gy5);have HF5:=zh ((HF2.out.ext (zxa (Below.refl _ _) _)).kps2 (Kps.grown (o:=fun j=>(Value.slice aq nq cq).ownBlock=some j) gy5 (fun j e _=>e)) (fun j e q=>absurd (((HX3.out.q.ext (zxa (Below.refl _ _) _)).typ e).uniq q) (by decide)));clear ry5 gy5 e6;(try dsimp only))
   clear HX3 HK3 HF1 FR1
   clear HF2
   go_upto_region 17 with (at_builtin;refine wpl_quiet rfl _ _ 36 rfl W.heap.size Tryz.info_q Tryz.underlying36 _ _ rfl (HXy5.out.q.ext (zxa (Below.refl _ _) _)) (Value.slice a4 P.length c4) rfl _ rfl ((cell_of_row _ _ 0 _ _ _ (heap_alloc_new _ _)).trans rfl) (by simp only [List.length_append,List.length_map,List.length_singleton];have:=HL.out.2.2.2;omega) (by have:=HKy5.out.s.bl.size;simp;omega) ?_;intro vy6 y6 ry6 gy6 _;have e6:((qs.map Prod.fst ++ [(Value.slice a2 P.length c2)]) ++ [(Value.slice a4 P.length c4)]).length=nq + 2:=(by simp only [List.length_append,List.length_map,List.length_singleton];rw [HL.out.2.2.2,HL.out.2.1]);obtain ⟨ay6,cy6,e5⟩:=ry6.form;rw [e6] at e5;subst e5;have HXy6:=zh ((HXy5.out.ext (zxa (Below.refl _ _) _)).push _ P (HF5.out.ext (zxa (Below.refl _ _) _)) (by have:=HPM.out;omega) FR2.out ry6 gy6);have HKy6:=zh ((HKy5.out.ext (zxa (Below.refl _ _) _)).rowq (HXy5.out.q.ext (zxa (Below.refl _ _) _)) gy6);clear ry6 gy6 e6;(try dsimp only))
   clear HXy5 HKy5 HF5 FR2
   obtain ⟨s0,s1,o2,o3,o4⟩:=HKy6.out.cs
   go_upto_region 18 with (first | (go_at_call 7;refine (copied_any _ o.put _ (HPV.out.ext HKy6.out.s.bl) (by rw [HM.out];omega)).mono ?_;rintro e y7 ⟨vy7,rfl,ho,hb⟩;have HBy7:=zh hb;obtain ⟨ay7,cy7,hv⟩:=ho.out.form;rw [HM.out] at hv;subst hv;have HOy7:=zh ho.out;clear ho hb;(try dsimp only)) | (at_builtin;refine wpl_ints rfl _ _ 27 rfl y6.heap.size Tryz.info_i64 Tryz.underlying27 _ _ rfl (HOy7.out.ext (zxa (Below.refl _ _) _)) [7001,7002] _ 2 2 rfl rfl (.inr ⟨_,rfl,fun j u hj=>cells_lit y7 [.int .i64 7001,.int .i64 7002] _ j u hj⟩) (by rw [HM.out];simp;omega) (by have:=HBy7.out.size;simp;omega) ?_;intro vy8 y8 ho hb;have e8:(o.put ++ [7001,7002]).length=m + 2:=(by rw [List.length_append,HM.out];rfl);obtain ⟨ay8,cy8,e5⟩:=ho.form;rw [e8] at e5;subst e5;have HBy8:=zh ((HBy7.out.trans ((zxa (Below.refl y7.heap.size y7) _).mono HBy7.out.size)).trans hb);have HOy8:=zh ho;clear ho hb e8 HOy7 HBy7;(try dsimp only)))
   have HX8:=zh (HXy6.out.ext HBy8.out)
   have HK8:=zh (HKy6.out.ext HBy8.out)
   have FRG:Hid (∀ g,(Value.slice ay8 (m + 2) cy8).ownBlock=some g→Fre hs (qs ++ [((Value.slice a2 P.length c2),P)] ++ [((Value.slice a4 P.length c4),P)]) g):=fun g e=>HXy6.out.fre (HOy8.out.blk g e).1
   have FTG:Hid (∀ g,(Value.slice ay8 (m + 2) cy8).ownBlock=some g→(Value.slice av A.length cv).ownBlock≠some g∧vt.ownBlock≠some g):=fun g e=>HKy6.out.fre (HOy8.out.blk g e).1
   have RC8:Hid (Rd .i64 y8 (.slice ay8 m cy8) o.put):=by
    have:=(rd_cut HOy8.out (m:=m) (by rw [List.length_append,HM.out];omega)).1
    have e9:List.take m (o.put ++ [7001,7002])=o.put:=by rw [← HM.out];simp
    rw [e9] at this
    exact this
   have hc8:m≤cy8:=(rd_cut HOy8.out (m:=m) (by rw [List.length_append,HM.out];omega)).2
   have HG8:=zh (HOy8.out.le HKy6.out.s.bl.size)
   have TG:Hid (∀ w',Below y8.heap.size y8 w'→Calls Tryz.prog 10 #[.pointer (some ⟨t,0,none⟩),.int .i64 (p:Nat),.slice ay8 m cy8,.int .i64 nat] w' fun e w''=>∃ v,e=.returned (.tuple #[v,.int .i64 0])∧Hid (OwnI w'' w'.heap.size v P)∧Below w'.heap.size w' w''):=fun w' hb=>by
    have:=Typed_good enc w' t A p (.slice ay8 m cy8) o.put nat (HK8.out.ext hb).s.tg.tz HP.out (RC8.out.ext hb) HNAT.out (by rw [HM.out];omega)
    rw [HPE.out]
    exact this
   clear HOy8 HXy6 HKy6 HBy8 s0 s1 o2 o3 o4
   obtain ⟨s0,s1,o2,o3,o4⟩:=HK8.out.cs
   refine wp_region_held_drew (S:=fun w''=>w''.cell? ⟨bo,0,none⟩=some (.pointer (some ⟨t,0,none⟩))∧w''.cell? ⟨bo,1,none⟩=some (.slice av A.length cv)∧w''.cell? ⟨ob,2,none⟩=some (.int .i64 o.a)∧w''.cell? ⟨ob,3,none⟩=some (.int .i64 o.b)∧w''.cell? ⟨ob,4,none⟩=some (.slice ap m cp)) (by kernel_rfl) (HK8.out.cs) (fun _=>?_)
   refine tkH 0 rfl ?_
   refine tkH 1 rfl ?_
   refine tkH 2 rfl ?_
   refine tkH 3 rfl ?_
   refine tkH 4 rfl ?_
   refine tkH 5 rfl ?_
   refine tkH 6 rfl ?_
   refine tkH 7 rfl ?_
   refine tkH 8 rfl ?_
   refine rdH 9 rfl fun K hK=>?_
   go_simp
   refine (TG.out _ (Below.drew (Below.refl _ _))).mono ?_;clear s0 s1 o2 o3 o4;rintro e y9 ⟨v9,rfl,ho,hb⟩;have HB9:=zh (zxt (Below.drew (Below.refl _ _)) hb);clear hb;obtain ⟨a9,c9,hv⟩:=ho.out.form;subst hv;have HO9:Hid (OwnI y9 y8.heap.size (.slice a9 P.length c9) P):=ho.out;clear ho;have HK9:=zh (HK8.out.ext HB9.out);obtain ⟨s0,s1,o2,o3,o4⟩:=HK9.out.cs;try dsimp only
   refine hK.out _ _ ?_ (fun _=>?_)
   ·exact HK9.out.cs
   clear hK K
   try simp only [Act.put,tS]
   refine tkH 10 rfl ?_
   refine tkH 11 rfl ?_
   refine tkH 12 rfl ?_
   refine tkH 13 rfl ?_
   refine tkH 14 rfl ?_
   refine dnH ?_
   clear TG
   go_upto_region 19 with fail
   have HX9:=zh (HX8.out.ext HB9.out)
   have HG9:=zh (HG8.out.ext HB9.out)
   have FR9:Hid (∀ g,(Value.slice a9 P.length c9).ownBlock=some g→Fre hs (qs ++ [((Value.slice a2 P.length c2),P)] ++ [((Value.slice a4 P.length c4),P)]) g):=fun g e=>HX8.out.fre (HO9.out.blk g e).1
   have FT9:Hid (∀ g,(Value.slice a9 P.length c9).ownBlock=some g→(Value.slice av A.length cv).ownBlock≠some g∧vt.ownBlock≠some g):=fun g e=>HK8.out.fre (HO9.out.blk g e).1
   have FG9:Hid (∀ g,(Value.slice a9 P.length c9).ownBlock=some g→(Value.slice ay8 (m + 2) cy8).ownBlock≠some g):=fun g e e2=>by
    have h1:=(HO9.out.blk g e).1
    have h2:=(HG8.out.blk g e2).2
    omega
   have HP9:=zh (HO9.out.le HK8.out.s.bl.size)
   clear HO9 HX8 HK8 HG8 HB9 RC8
   have hPm:¬ ((P.length:Int) < (m:Int)):=by have:=HPM.out;omega
   have hPm2:¬ (P.length < m):=by have:=HPM.out;omega
   as_aux_lemma =>
   go_upto_region 21 with (first | (go_at_call 7;refine (copied_any _ o.put _ (HPV.out.ext HK9.out.s.bl) (by rw [HM.out];omega)).mono ?_;rintro e y10 ⟨vy10,rfl,ho,hb⟩;have HBy10:=zh hb;obtain ⟨ay10,cy10,hv⟩:=ho.out.form;rw [HM.out] at hv;subst hv;have HOy10:=zh ho.out;clear ho hb;(try dsimp only)) | (at_builtin;refine wpw_ints (by rfl) _ _ 27 rfl y9.heap.size Tryz.info_i64 Tryz.underlying27 _ _ rfl (HOy10.out.ext (zxa (Below.refl _ _) _)) [7001,7002] _ 2 2 rfl rfl (fun j u hj=>cells_lit y10 [.int .i64 7001,.int .i64 7002] _ j u hj) (by decide) (by rw [HM.out];simp;omega) (by have:=HBy10.out.size;simp;omega) ?_;intro vy11 y11 ho hb;have e8:(o.put ++ [7001,7002]).length=m + 2:=(by rw [List.length_append,HM.out];rfl);obtain ⟨ay11,cy11,e5⟩:=ho.form;rw [e8] at e5;subst e5;have HBy11:=zh ((HBy10.out.trans ((zxa (Below.refl y10.heap.size y10) _).mono HBy10.out.size)).trans hb);have HOy11:=zh ho;clear ho hb e8 HOy10 HBy10;(try dsimp only)) | (go_at_call 11;refine (same_yes _ _ _ _ ((HG9.out.ext HBy11.out).rdi) HOy11.out.rdi).mono ?_;rintro e y12 ⟨rfl,hb⟩;have HB12:=zh (zxt HBy11.out hb);clear HOy11 HBy11 hb;(try dsimp only)) | (go_at_call 11;refine (same_yes _ _ _ _ (HP9.out.ext HB12.out).rdi ((HX9.out.ext HB12.out).qi ((Value.slice a2 P.length c2),P) (by simp)).1.rdi).mono ?_;rintro e y13 ⟨rfl,hb⟩;have HB13:=zh (zxt HB12.out hb);clear HB12 hb;(try dsimp only)) | (go_at_call 11;refine (same_yes _ _ _ _ (HP9.out.ext HB13.out).rdi ((HX9.out.ext HB13.out).qi ((Value.slice a4 P.length c4),P) (by simp)).1.rdi).mono ?_;rintro e y14 ⟨rfl,hb⟩;have HB14:=zh (zxt HB13.out hb);clear HB13 hb;(try dsimp only)))
   have HX14:=zh (HX9.out.ext HB14.out)
   have HK14:=zh (HK9.out.ext HB14.out)
   have HG14:=zh (HG9.out.ext HB14.out)
   have HP14:=zh (HP9.out.ext HB14.out)
   clear HX9 HK9 HG9 HP9 HB14 hPm hPm2 s0 s1 o2 o3 o4
   have HH:=zh (hold_any (B:=W.heap.size) y14 a9 P.length c9 P (1000000 + (k:Int)) HP14.out HK14.out.s.bl.size (by have:=HPM.out;omega))
   go_upto_region 22 with (first | (go_at_call 12;refine HH.out.mono ?_;rintro e y15 hr;obtain ⟨b1,n1,d1,b2,n2,d2,rfl,h1,h2,h3,h4,h5⟩:=hr.out;have HK15:=zh (HK14.out.ints HP14.out (Nat.le_refl _) FT9.out h5);have HX15:=zh (HX14.out.kps h5 (fun j e=>⟨OwnI.typ HP14.out e,FR9.out j e⟩));have HG15:=zh (HG14.out.turn h5 (fun j e=>FG9.out j e));have HE15:Hid (HelI y15 W.heap.size (⟨.slice b1 n1 d1,n1,.slice b2 n2 d2,n2,1000000 + (k:Int)⟩:Hel)):=⟨h1,h2⟩;have HN15:Hid (∀ g,(Value.slice b1 n1 d1).ownBlock=some g∨(Value.slice b2 n2 d2).ownBlock=some g→(Value.slice a9 P.length c9).ownBlock=some g∨y14.heap.size≤g):=(fun g e=>by rcases e with e | e;exact h3 g e;exact h4 g e);clear hr h1 h2 h3 h4 h5;(try dsimp only)) | (at_builtin;refine wpl_held rfl _ _ 35 rfl W.heap.size Tryz.info_h Tryz.underlying35 _ hs rfl (HX15.out.h.ext (zxa (Below.refl _ _) _)) (⟨.slice b1 n1 d1,n1,.slice b2 n2 d2,n2,1000000 + (k:Int)⟩:Hel) rfl rfl _ rfl (fun j u hj=>cells_lit y15 (hcs (⟨.slice b1 n1 d1,n1,.slice b2 n2 d2,n2,1000000 + (k:Int)⟩:Hel)) _ j u hj) (by have:=HL.out.2.2.1;omega) (by have:=HK15.out.s.bl.size;simp;omega) ?_;intro v16 y16 r16 g16 _;have e7:(hs ++ [(⟨.slice b1 n1 d1,n1,.slice b2 n2 d2,n2,1000000 + (k:Int)⟩:Hel)]).length=nh + 1:=(by rw [List.length_append,HL.out.2.2.1,HL.out.1];rfl);obtain ⟨a16,c16,e16⟩:=r16.form;rw [e7] at e16;subst e16;have HK16:=zh ((HK15.out.ext (zxa (Below.refl _ _) _)).rowh (HX15.out.h.ext (zxa (Below.refl _ _) _)) g16);have HG16:=zh ((HG15.out.ext (zxa (Below.refl _ _) _)).kps2 (Kps.grown (o:=fun j=>(Value.slice ah nh ch).ownBlock=some j) g16 (fun j e _=>e)) (fun j e q=>absurd (((HX15.out.h.ext (zxa (Below.refl _ _) _)).typ e).uniq q) (by decide)));have HX16:=zh ((HX15.out.ext (zxa (Below.refl _ _) _)).hold (⟨.slice b1 n1 d1,n1,.slice b2 n2 d2,n2,1000000 + (k:Int)⟩:Hel) ⟨HE15.out.1.ext (zxa (Below.refl _ _) _),HE15.out.2.ext (zxa (Below.refl _ _) _)⟩ (fun g e y hy=>by rcases HN15.out g e with e2 | e2;exact (FR9.out g e2).2 y hy;exact (HX14.out.fre e2).2 y hy) r16 g16);clear r16 g16 e7;(try dsimp only)))
   have FRH:Hid (∀ g,(Value.slice ay8 (m + 2) cy8).ownBlock=some g→Fre (hs ++ [(⟨.slice b1 n1 d1,n1,.slice b2 n2 d2,n2,1000000 + (k:Int)⟩:Hel)]) (qs ++ [((Value.slice a2 P.length c2),P)] ++ [((Value.slice a4 P.length c4),P)]) g):=fun g e=>by
    have hfe:¬ ((Value.slice a9 P.length c9).ownBlock=some g∨y14.heap.size≤g):=fun h=>by
     rcases h with h | h
     ·exact FG9.out g h e
     ·have:=(HG14.out.blk g e).2;omega
    refine ⟨fun x hx=>?_,(FRG.out g e).2⟩
    rw [List.mem_append,List.mem_singleton] at hx
    rcases hx with hx | rfl
    ·exact (FRG.out g e).1 x hx
    ·exact ⟨fun e2=>hfe (HN15.out g (.inl e2)),fun e2=>hfe (HN15.out g (.inr e2))⟩
   clear HX14 HK14 HG14 HP14 HK15 HX15 HG15 HE15 HN15 FR9 FT9 FG9 FRG HH
   obtain ⟨s0,s1,o2,o3,o4⟩:=HK16.out.cs
   go_upto_region 24 with (first | (go_at_call 7;refine (copied_any _ o.put _ (HPV.out.ext HK16.out.s.bl) (by rw [HM.out];omega)).mono ?_;rintro e y17 ⟨vy17,rfl,ho,hb⟩;have HBy17:=zh hb;obtain ⟨ay17,cy17,hv⟩:=ho.out.form;rw [HM.out] at hv;subst hv;have HOy17:=zh ho.out;clear ho hb;(try dsimp only)) | (at_builtin;refine wpl_ints rfl _ _ 27 rfl y16.heap.size Tryz.info_i64 Tryz.underlying27 _ _ rfl (HOy17.out.ext (zxa (Below.refl _ _) _)) [7001,7002] _ 2 2 rfl rfl (.inr ⟨_,rfl,fun j u hj=>cells_lit y17 [.int .i64 7001,.int .i64 7002] _ j u hj⟩) (by rw [HM.out];simp;omega) (by have:=HBy17.out.size;simp;omega) ?_;intro vy18 y18 ho hb;have e8:(o.put ++ [7001,7002]).length=m + 2:=(by rw [List.length_append,HM.out];rfl);obtain ⟨ay18,cy18,e5⟩:=ho.form;rw [e8] at e5;subst e5;have HBy18:=zh ((HBy17.out.trans ((zxa (Below.refl y17.heap.size y17) _).mono HBy17.out.size)).trans hb);have HOy18:=zh ho;clear ho hb e8 HOy17 HBy17;(try dsimp only)) | (go_at_call 11;refine (same_yes _ _ _ _ ((HG16.out.ext HBy18.out).rdi) HOy18.out.rdi).mono ?_;rintro e y19 ⟨rfl,hb⟩;have HB19:=zh (zxt HBy18.out hb);clear HOy18 HBy18 hb;(try dsimp only)))
   have HX19:=zh (HX16.out.ext HB19.out)
   have HK19:=zh (HK16.out.ext HB19.out)
   have HG19:=zh (HG16.out.ext HB19.out)
   clear HX16 HK16 HG16 HB19 s0 s1 o2 o3 o4
   obtain ⟨s0,s1,o2,o3,o4⟩:=HK19.out.cs
   go_wp2_with fail
   go_loopg [21] m (fun gi i wz=>∃ (j:Nat) (Z:List Int),j + gi=m∧i=.int .i64 (j:Nat)∧Hid (Z.length=m + 2∧OwnI wz W.heap.size (Value.slice ay8 (m + 2) cy8) Z∧Kps (fun q=>(Value.slice ay8 (m + 2) cy8).ownBlock=some q) y19 wz))
   case atStart=>exact ⟨0,_,by omega,rfl,by rw [List.length_append,HM.out];rfl,HG19.out,Kps.refl _ _⟩
   case round =>
    obtain ⟨j,Z,hj,rfl,HZ⟩:=hrel
    have HJ:=zh hj
    clear hj s0 s1 o2 o3 o4
    have HK20:=zh (HK19.out.ints HG19.out (Nat.le_refl _) FTG.out HZ.out.2.2)
    obtain ⟨s0,s1,o2,o3,o4⟩:=HK20.out.cs
    by_cases hjm:(j:Int) < (m:Int)
    ·obtain ⟨g9,yv,rfl,cy,fz,hn9,hc9,PUT⟩:=own_put HZ.out.2.1 j (by omega)
     have HPT:=zh PUT
     have hjn:(j:Int) < ((m + 2:Nat):Int):=by omega
     clear PUT
     go_wp2_with fail
     go_roundg (m - (j + 1))
     case measure=>have:=HJ.out;omega
     exact ⟨j + 1,_,by omega,by go_num,by rw [List.length_set];exact HZ.out.1,(HPT.out _).1,HZ.out.2.2.trans (HPT.out _).2 (fun _ _ e=>e)⟩
    ·have hjm2:¬ j < m:=by omega
     have HX20:=zh (HX19.out.kps HZ.out.2.2 (fun q e=>⟨OwnI.typ HG19.out e,FRH.out q e⟩))
     clear hjm HX19 HK19 HG19
     go_upto_region 28 with fail
     have HZL:Hid ((Z.take m).length=m):=by have:=HZ.out.1;unfold Hid;rw [List.length_take];omega
     obtain ⟨Y,hY⟩:∃ Y,Y=Z.take m:=⟨_,rfl⟩
     have hYl:Hid (Y.length=m):=by unfold Hid;rw [hY];exact HZL.out
     have hc8:m≤cy8:=(rd_cut HZ.out.2.1 (m:=m) (by rw [HZ.out.1];omega)).2
     have RC20:Hid (Rd .i64 wr (.slice ay8 m cy8) Y):=by rw [hY];exact (rd_cut HZ.out.2.1 (m:=m) (by rw [HZ.out.1];omega)).1
     obtain ⟨P2,hP2⟩:∃ P2,P2=tyF A p nat [] Y:=⟨_,rfl⟩
     have HP2:=zh hP2
     clear hP2 hY HZL HZ HJ hjm2
     have TG:Hid (∀ w',Below wr.heap.size wr w'→Calls Tryz.prog 10 #[.pointer (some ⟨t,0,none⟩),.int .i64 (p:Nat),.slice ay8 m cy8,.int .i64 nat] w' fun e w''=>∃ v,e=.returned (.tuple #[v,.int .i64 0])∧Hid (OwnI w'' w'.heap.size v P2)∧Below w'.heap.size w' w''):=fun w' hb=>by
      have:=Typed_good enc w' t A p (.slice ay8 m cy8) Y nat (HK20.out.ext hb).s.tg.tz HP.out (RC20.out.ext hb) HNAT.out (by rw [hYl.out];omega)
      rw [HP2.out]
      exact this
     refine wp_region_held_drew (S:=fun w''=>w''.cell? ⟨bo,0,none⟩=some (.pointer (some ⟨t,0,none⟩))∧w''.cell? ⟨bo,1,none⟩=some (.slice av A.length cv)∧w''.cell? ⟨ob,2,none⟩=some (.int .i64 o.a)∧w''.cell? ⟨ob,3,none⟩=some (.int .i64 o.b)∧w''.cell? ⟨ob,4,none⟩=some (.slice ap m cp)) (by kernel_rfl) (HK20.out.cs) (fun _=>?_)
     refine tkH 0 rfl ?_
     refine tkH 1 rfl ?_
     refine tkH 2 rfl ?_
     refine tkH 3 rfl ?_
     refine tkH 4 rfl ?_
     refine tkH 5 rfl ?_
     refine tkH 6 rfl ?_
     refine tkH 7 rfl ?_
     refine tkH 8 rfl ?_
     refine rdH 9 rfl fun K hK=>?_
     go_simp
     refine (TG.out _ (Below.drew (Below.refl _ _))).mono ?_;clear s0 s1 o2 o3 o4;rintro e y21 ⟨v21,rfl,ho,hb⟩;have HB21:=zh (zxt (Below.drew (Below.refl _ _)) hb);clear hb;obtain ⟨a21,c21,hv⟩:=ho.out.form;subst hv;have HO21:Hid (OwnI y21 wr.heap.size (.slice a21 P2.length c21) P2):=ho.out;clear ho;have HK21:=zh (HK20.out.ext HB21.out);obtain ⟨s0,s1,o2,o3,o4⟩:=HK21.out.cs;try dsimp only
     refine hK.out _ _ ?_ (fun _=>?_)
     ·exact HK21.out.cs
     clear hK K
     try simp only [Act.put,tS]
     refine tkH 10 rfl ?_
     refine tkH 11 rfl ?_
     refine tkH 12 rfl ?_
     refine tkH 13 rfl ?_
     refine tkH 14 rfl ?_
     refine dnH ?_
     clear TG
     as_aux_lemma =>
     go_upto_region 29 with fail
     have RC21:=zh (RC20.out.ext HB21.out)
     have CPY:Hid (∀ w',Below y21.heap.size y21 w'→Calls Tryz.prog 7 #[.slice ay8 m cy8] w' fun e w''=>∃ v',e=.returned v'∧Hid (OwnI w'' w'.heap.size v' Y)∧Below w'.heap.size w' w''):=fun w' hb=>copied_any _ Y w' (RC21.out.ext hb) (by rw [hYl.out];omega)
     have RTY:Hid (∀ w' v',Below y21.heap.size y21 w'→Rd .i64 w' v' Y→Calls Tryz.prog 13 #[.slice av A.length cv,.int .i64 (p:Nat),v',.int .i64 nat] w' fun e w''=>∃ v,e=.returned (.tuple #[v,.int .i64 0])∧Hid (OwnI w'' w'.heap.size v P2)∧Below w'.heap.size w' w''):=fun w' v' hb hv=>by
      have hE:tyE A (p:Nat) nat=0:=by
       have h1:=HNAT.out
       have h2:=HP.out
       unfold tyE
       rw [if_neg (by omega),if_neg (by omega)]
      have:=rTyped_any w' (.slice av A.length cv) A (p:Nat) v' Y nat ((HK21.out.ext hb).s.oa.rdi) hlA hv (by rw [hYl.out];omega)
      rw [hE,show tyL A (p:Nat) nat Y=P2 by unfold tyL;rw [if_pos hE,HP2.out];rfl] at this
      exact this
     refine wp_region_held_drew (S:=fun w''=>w''.cell? ⟨bo,0,none⟩=some (.pointer (some ⟨t,0,none⟩))∧w''.cell? ⟨bo,1,none⟩=some (.slice av A.length cv)∧w''.cell? ⟨ob,2,none⟩=some (.int .i64 o.a)∧w''.cell? ⟨ob,3,none⟩=some (.int .i64 o.b)∧w''.cell? ⟨ob,4,none⟩=some (.slice ap m cp)) (by kernel_rfl) (HK21.out.cs) (fun _=>?_)
     refine tkH 0 rfl ?_
     refine tkH 1 rfl ?_
     refine tkH 2 rfl ?_
     refine tkH 3 rfl ?_
     refine tkH 4 rfl ?_
     refine tkH 5 rfl ?_
     refine tkH 6 rfl ?_
     refine tkH 7 rfl ?_
     refine tkH 9 rfl ?_
     refine rdH 8 rfl fun K hK=>?_
     go_simp
     refine (CPY.out _ (Below.drew (Below.refl _ _))).mono ?_;clear s0 s1 o2 o3 o4;rintro e y22 ⟨v22,rfl,ho,hb⟩;have HB22:=zh (zxt (Below.drew (Below.refl _ _)) hb);clear hb;obtain ⟨a22,c22,hv⟩:=ho.out.form;rw [hYl.out] at hv;subst hv;have HO22:=zh ho.out;clear ho;have HK22:=zh (HK21.out.ext HB22.out);obtain ⟨s0,s1,o2,o3,o4⟩:=HK22.out.cs;try dsimp only
     refine hK.out _ _ ?_ (fun _=>?_)
     ·exact HK22.out.cs
     clear hK K
     try simp only [Act.put,tS]
     refine rdH 10 rfl fun K hK=>?_
     go_simp
     refine (RTY.out _ _ HB22.out HO22.out.rdi).mono ?_;clear s0 s1 o2 o3 o4;rintro e y23 ⟨v23,rfl,ho,hb⟩;have HB23:=zh (zxt HB22.out hb);clear hb;obtain ⟨a23,c23,hv⟩:=ho.out.form;subst hv;have HO23:=zh ho.out;clear ho;have HK23:=zh (HK21.out.ext HB23.out);obtain ⟨s0,s1,o2,o3,o4⟩:=HK23.out.cs;try dsimp only
     refine hK.out _ _ ?_ (fun _=>?_)
     ·exact HK23.out.cs
     clear hK K
     try simp only [Act.put,tS]
     refine tkH 11 rfl ?_
     refine tkH 12 rfl ?_
     refine tkH 13 rfl ?_
     refine tkH 14 rfl ?_
     refine tkH 15 rfl ?_
     refine dnH ?_
     clear CPY RTY
     go_upto_region 30 with fail
     have HO21b:=zh (HO21.out.ext HB23.out)
     go_upto_region 32 with (go_at_call 11;refine (same_yes _ _ _ _ HO21b.out.rdi HO23.out.rdi).mono ?_;rintro e y24 ⟨rfl,hb⟩;have HB24:=zh (zxt (HB23.out.mono (Nat.le_refl _)) hb);clear hb;(try dsimp only))
     have HK24:=zh (HK21.out.ext HB24.out)
     have HX24:=zh ((HX20.out.ext HB21.out).ext HB24.out)
     clear HO21 HO21b HO23 HO22 HB22 HB23 HB21 HB24 RC20 RC21 HK20 HK21 HK22 HK23 HX20 s0 s1 o2 o3 o4
     obtain ⟨s0,s1,o2,o3,o4⟩:=HK24.out.cs
     have ATZ:=zh (At_z enc y24 t A o.a HK24.out.s.tg.tz)
     go_upto_region 33 with (go_at_call 14;refine ATZ.out.mono ?_;rintro e y25 ⟨rfl,hb⟩;have HK25:=zh (HK24.out.ext hb);have HX25:=zh (HX24.out.ext hb);clear hb;(try dsimp only))
     clear ATZ HK24 HX24 s0 s1 o2 o3 o4
     obtain ⟨s0,s1,o2,o3,o4⟩:=HK25.out.cs
     have KIZ:=zh (Kinds_z enc y25 t A HK25.out.s.tg.tz)
     go_upto_region 34 with (go_at_call 15;refine KIZ.out.mono ?_;rintro e y26 ⟨rfl,hb⟩;have HK26:=zh (HK25.out.ext hb);have HX26:=zh (HX25.out.ext hb);clear hb;(try dsimp only))
     clear KIZ HK25 HX25 s0 s1 o2 o3 o4
     obtain ⟨s0,s1,o2,o3,o4⟩:=HK26.out.cs
     have WHZ:=zh (Whole_z enc y26 t A o.a o.b HK26.out.s.tg.tz)
     as_aux_lemma =>
     go_upto_region 35 with (go_at_call 16;refine WHZ.out.mono ?_;rintro e y27 ⟨rfl,hb⟩;have HK27:=zh (HK26.out.ext hb);have HX27:=zh (HX26.out.ext hb);clear hb;(try dsimp only))
     clear WHZ HK26 HX26 s0 s1 o2 o3 o4
     obtain ⟨s0,s1,o2,o3,o4⟩:=HK27.out.cs
     obtain ⟨bz,hbz⟩:∃ bz,bz=brk enc A (A.length:Nat):=⟨_,rfl⟩
     have hle:bz≤cn:=by rw [hbz];exact HCA.out cn HCN.out
     have OFZ:Hid (∀ w',Below y27.heap.size y27 w'→Calls Tryz.prog 18 #[.pointer (some ⟨t,0,none⟩),.int .i64 (A.length:Nat)] w' fun e w''=>e=.returned (.int .i64 bz)∧Below w'.heap.size w' w''):=fun w' hb=>by rw [hbz];exact Of_z enc w' t A _ (HK27.out.ext hb).s.tg.tz
     have CNZ:Hid (∀ w',Below y27.heap.size y27 w'→Calls Tryz.prog 6 #[.pointer (some ⟨t,0,none⟩)] w' fun e w''=>e=.returned (.int .i64 cn)∧Below w'.heap.size w' w''):=fun w' hb=>by rw [HCN.out];exact Count_z enc w' t A (HK27.out.ext hb).s.tg.tz
     obtain ⟨nz,hnz⟩:∃ nz,nz=ntA enc A 9:=⟨_,rfl⟩
     have hn1:1≤nz:=by
      rw [hnz]
      unfold ntA
      split
      ·omega
      ·have hb:=lnK_b enc A 0
       omega
     have NAZ:Hid (∀ w',Below y27.heap.size y27 w'→Calls Tryz.prog 17 #[.pointer (some ⟨t,0,none⟩),.int .i64 9] w' fun e w''=>e=.returned (.int .i64 nz)∧Below w'.heap.size w' w''):=fun w' hb=>by rw [hnz];exact Native_z enc w' t A 9 (HK27.out.ext hb).s.tg.tz
     have hwl:IntKind.i64.wrap ((A.length:Int) + 1)=((A.length + 1:Nat):Int):=by rw [IntKind.wrap_i64];omega
     have ATS:Hid (∀ w',Below y27.heap.size y27 w'→Calls Tryz.prog 19 #[.pointer (some ⟨t,0,none⟩),.int .i64 0,.int .i64 ((A.length + 1:Nat):Int)] w' fun e w''=>AtR A w' e w''):=fun w' hb=>by
      have:=Atoms_z enc w' t A 0 ((A.length + 1:Nat):Int) (HK27.out.ext hb).s.tg.tz
      rwa [show sub A 0 ((A.length + 1:Nat):Int)=A by rw [show (((A.length + 1:Nat):Int))=(A.length:Nat) + 1 by omega];exact sub_moreK A] at this
     have TGS:Hid (∀ w',Below y27.heap.size y27 w'→Calls Tryz.prog 8 #[.pointer (some ⟨t,0,none⟩),.int .i64 0,.int .i64 (A.length:Nat)] w' fun e w''=>AtR T w' e w''):=fun w' hb=>Tags_z enc w' t A T (HK27.out.ext hb).s.tg
     clear hbz hnz
     have hn2:¬ nz < 1:=by omega
     have hle2:¬ bz > cn:=by omega
     have hle3:¬ cn < bz:=by omega
     refine wp_region_held_drew (S:=fun w''=>w''.cell? ⟨bo,0,none⟩=some (.pointer (some ⟨t,0,none⟩))∧w''.cell? ⟨bo,1,none⟩=some (.slice av A.length cv)∧w''.cell? ⟨ob,2,none⟩=some (.int .i64 o.a)∧w''.cell? ⟨ob,3,none⟩=some (.int .i64 o.b)∧w''.cell? ⟨ob,4,none⟩=some (.slice ap m cp)) (by kernel_rfl) (HK27.out.cs) (fun _=>?_)
     refine tkH 0 rfl ?_
     refine tkH 1 rfl ?_
     refine rdH 2 rfl fun K hK=>?_
     go_simp
     refine (NAZ.out _ (Below.drew (Below.refl _ _))).mono ?_;clear s0 s1 o2 o3 o4;rintro e z1 ⟨rfl,hb⟩;have HBz1:=zh (zxt (Below.drew (Below.refl _ _)) hb);clear hb;have HKz1:=zh (HK27.out.ext HBz1.out);obtain ⟨s0,s1,o2,o3,o4⟩:=HKz1.out.cs;try dsimp only
     refine hK.out _ _ ?_ (fun _=>?_)
     ·exact HKz1.out.cs
     clear hK K
     try simp only [Act.put,tS]
     refine tkH 3 rfl ?_
     refine tkH 4 rfl ?_
     refine tkH 5 rfl ?_
     refine tkH 6 rfl ?_
     refine tkH 7 rfl ?_
     refine tkH 8 rfl ?_
     refine tkH 9 rfl ?_
     refine tkH 11 rfl ?_
     refine tkH 12 rfl ?_
     refine rdH 10 rfl fun K hK=>?_
     go_simp
     refine (OFZ.out _ HBz1.out).mono ?_;clear s0 s1 o2 o3 o4;rintro e z2 ⟨rfl,hb⟩;have HBz2:=zh (zxt HBz1.out hb);clear hb;have HKz2:=zh (HK27.out.ext HBz2.out);obtain ⟨s0,s1,o2,o3,o4⟩:=HKz2.out.cs;try dsimp only
     refine hK.out _ _ ?_ (fun _=>?_)
     ·exact HKz2.out.cs
     clear hK K
     try simp only [Act.put,tS]
     refine rdH 13 rfl fun K hK=>?_
     go_simp
     refine (CNZ.out _ HBz2.out).mono ?_;clear s0 s1 o2 o3 o4;rintro e z3 ⟨rfl,hb⟩;have HBz3:=zh (zxt HBz2.out hb);clear hb;have HKz3:=zh (HK27.out.ext HBz3.out);obtain ⟨s0,s1,o2,o3,o4⟩:=HKz3.out.cs;try dsimp only
     refine hK.out _ _ ?_ (fun _=>?_)
     ·exact HKz3.out.cs
     clear hK K
     try simp only [Act.put,tS]
     refine tkH 14 rfl ?_
     refine tkH 15 rfl ?_
     refine tkH 16 rfl ?_
     refine tkH 17 rfl ?_
     refine tkH 18 rfl ?_
     refine tkH 19 rfl ?_
     refine tkH 20 rfl ?_
     refine tkH 21 rfl ?_
     refine tkH 22 rfl ?_
     refine tkH 24 rfl ?_
     refine tkH 25 rfl ?_
     refine rdH 23 rfl fun K hK=>?_
     go_simp
     refine (ATS.out _ HBz3.out).mono ?_;clear s0 s1 o2 o3 o4;rintro e z4 ⟨vz4,rfl,ho,hb⟩;have HBz4:=zh (zxt HBz3.out hb);clear hb;obtain ⟨az4,cz4,hv⟩:=ho.form;subst hv;have HOz4:=zh ho;clear ho;have HKz4:=zh (HK27.out.ext HBz4.out);obtain ⟨s0,s1,o2,o3,o4⟩:=HKz4.out.cs;try dsimp only
     refine hK.out _ _ ?_ (fun _=>?_)
     ·exact HKz4.out.cs
     clear hK K
     try simp only [Act.put,tS]
     refine rdH 26 rfl fun K hK=>?_
     go_simp
     refine (same_yes _ _ _ _ HOz4.out.rdi HKz4.out.s.oa.rdi).mono ?_;clear s0 s1 o2 o3 o4;rintro e z5 ⟨rfl,hb⟩;have HBz5:=zh (zxt HBz4.out hb);clear hb;have HKz5:=zh (HK27.out.ext HBz5.out);obtain ⟨s0,s1,o2,o3,o4⟩:=HKz5.out.cs;try dsimp only
     refine hK.out _ _ ?_ (fun _=>?_)
     ·exact HKz5.out.cs
     clear hK K
     try simp only [Act.put,tS]
     refine tkH 27 rfl ?_
     refine tkH 28 rfl ?_
     refine tkH 29 rfl ?_
     refine tkH 30 rfl ?_
     refine tkH 31 rfl ?_
     refine tkH 32 rfl ?_
     refine tkH 33 rfl ?_
     refine tkH 34 rfl ?_
     refine tkH 36 rfl ?_
     refine rdH 35 rfl fun K hK=>?_
     go_simp
     refine (TGS.out _ HBz5.out).mono ?_;clear s0 s1 o2 o3 o4;rintro e z6 ⟨vz6,rfl,ho,hb⟩;have HBz6:=zh (zxt HBz5.out hb);clear hb;obtain ⟨az6,cz6,hv⟩:=ho.form;subst hv;have HOz6:=zh ho;clear ho;have HKz6:=zh (HK27.out.ext HBz6.out);obtain ⟨s0,s1,o2,o3,o4⟩:=HKz6.out.cs;try dsimp only
     refine hK.out _ _ ?_ (fun _=>?_)
     ·exact HKz6.out.cs
     clear hK K
     try simp only [Act.put,tS]
     refine rdH 37 rfl fun K hK=>?_
     go_simp
     refine (same_yes _ _ _ _ HOz6.out.rdi (show OwnI z6 0 (.slice at9 T.length ct9) T from hvt ▸ HKz6.out.s.ot).rdi).mono ?_;clear s0 s1 o2 o3 o4;rintro e z7 ⟨rfl,hb⟩;have HBz7:=zh (zxt HBz6.out hb);clear hb;have HKz7:=zh (HK27.out.ext HBz7.out);obtain ⟨s0,s1,o2,o3,o4⟩:=HKz7.out.cs;try dsimp only
     refine hK.out _ _ ?_ (fun _=>?_)
     ·exact HKz7.out.cs
     clear hK K
     try simp only [Act.put,tS]
     refine tkH 38 rfl ?_
     refine tkH 39 rfl ?_
     refine dnH ?_
     clear NAZ OFZ CNZ ATS TGS
     have HX7:=zh (HX27.out.ext HBz7.out)
     have HK7:=zh HKz7.out
     clear HKz1 HKz2 HKz3 HKz4 HKz5 HKz6 HKz7 HBz1 HBz2 HBz3 HBz4 HBz5 HBz6 HOz4 HOz6 HK27 HX27 hwl hn1 hn2 hle hle2 hle3
     go_upto_region 37 with fail
     go_wp2_with (go_at_call 20;refine (stands_any _ a16 (nh + 1) c16 _ HX7.out.h HX7.out.hi (by have:=HL.out.1;omega)).mono ?_;rintro e z8 ⟨rfl,hb⟩;have HX8:=zh (HX7.out.ext hb);have HK8:=zh (HK7.out.ext hb);clear hb;(try dsimp only))
     obtain ⟨hs2,hl2,HX9⟩:∃ hs2:List Hel,hs2.length=k + 1∧Hid (KX z8 W.heap.size (.slice a16 (nh + 1) c16) hs2 (.slice ay6 (nq + 2) cy6) ((qs ++ [((Value.slice a2 P.length c2),P)] ++ [((Value.slice a4 P.length c4),P)]).map Prod.fst) (qs ++ [((Value.slice a2 P.length c2),P)] ++ [((Value.slice a4 P.length c4),P)])):=by
      refine ⟨?hh,?ll,?xx⟩
      case xx=>simp only [List.map_append,List.map_cons,List.map_nil];exact HX8.out
      case ll=>rw [List.length_append,HL.out.2.2.1];rfl
     rw [← hvt]
     go_roundw
     case rel=>exact ⟨k + 1,hs2,(qs ++ [((Value.slice a2 P.length c2),P)] ++ [((Value.slice a4 P.length c4),P)]),a16,nh + 1,c16,ay6,nq + 2,cy6,by go_num,rfl,rfl,by omega,by omega,⟨by rw [HL.out.1],by rw [HL.out.2.1];omega,hl2,by simp only [List.length_append,List.length_singleton];rw [HL.out.2.2.2];omega⟩,HK8.out.s,HX9⟩
     case measure=>simp [intOf];omega
  ·have HEND:Hid (nq=2 * k):=HL.out.2.1
   clear HOK HPP
   have HBE:=zh HKS.out.bl
   have HKL:=zh HL.out
   clear HKS HOS
   by_cases h1:(k:Int) < (os.length:Int)
   ·as_aux_lemma =>
    have h2:¬ (k:Int) < 40:=by omega
    go_wp2_with fail
    go_loopw [8,26] (fun vh i wz=>∃ (j:Nat) (hz:List Hel) (az:Option Addr) (nz cz:Nat),i=.int .i64 (j:Nat)∧vh=.slice az nz cz∧j≤nq∧Hid (nz=hz.length∧nz≤40 + j)∧Hid (KX wz W.heap.size (.slice az nz cz) hz (.slice aq nq cq) (qs.map Prod.fst) (qs.drop j))∧Hid (Below W.heap.size W wz)) (fun _ i _=>nq - (intOf i).toNat)
    case atStart=>exact ⟨0,hs,ah,nh,ch,rfl,rfl,by omega,⟨by rw [HKL.out.2.2.1];exact HKL.out.1,by rw [HKL.out.1];omega⟩,by rw [List.drop_zero];exact HKR.out,HBE.out⟩
    case round =>
     clear HKR HBE
     obtain ⟨j,hz,az,nz,cz,rfl,rfl,hj,HNZ,HKX,HBZ⟩:=hrel
     by_cases hjn:(j:Int) < (nq:Int)
     ·have hql:Hid (qs.length=nq):=by unfold Hid;rw [HKL.out.2.2.2,HKL.out.2.1]
      obtain ⟨q,hq⟩:∃ q,qs[j]?=some q:=⟨_,List.getElem?_eq_getElem (by rw [hql.out];omega)⟩
      have hdr:qs.drop j=q :: qs.drop (j + 1):=by
       have hl:=(List.getElem?_eq_some_iff.1 hq).1
       rw [List.drop_eq_getElem_cons hl,(List.getElem?_eq_some_iff.1 hq).2]
      obtain ⟨hk1,⟨ho1,hl1⟩,hf1⟩:=KX.first (hdr ▸ HKX.out)
      obtain ⟨vq,zq⟩:=q
      simp only at ho1 hl1 hf1
      obtain ⟨aw,cw,hvw⟩:=ho1.form
      subst hvw
      obtain ⟨g9,rfl,hg9,hnc,cx⟩:=HKX.out.q.at j (.slice aw zq.length cw) (by rw [List.getElem?_map,hq];rfl)
      have hcn:nq≤80:=by rw [HKL.out.2.1];omega
      have HK1:=zh hk1
      have HO1:=zh ho1
      have HF1:=zh hf1
      obtain ⟨ln,hln⟩:∃ ln,ln=zq.length:=⟨_,rfl⟩
      rw [← hln] at cx HO1 HF1 hl1
      have hzb:hz.length + 1≤1099511627776:=by have:=HNZ.out;omega
      have HH:=zh (hold_any (B:=W.heap.size) wr aw ln cw zq (2000000 + (j:Int)) HO1.out HBZ.out.size hl1)
      clear hk1 ho1 hf1 hq hdr HKX hln hl1
      go_wp2_with (first | (go_at_call 12;refine HH.out.mono ?_;rintro e y15 hr;obtain ⟨b1,n1,d1,b2,n2,d2,rfl,h1,h2,h3,h4,h5⟩:=hr.out;have HX15:=zh (HK1.out.kps h5 (fun i e=>⟨OwnI.typ HO1.out e,HF1.out i e⟩));have HB15:=zh (HBZ.out.trans (h5.below HBZ.out.size (fun i e=>(HO1.out.blk i e).1)));have HE15:Hid (HelI y15 W.heap.size (⟨.slice b1 n1 d1,n1,.slice b2 n2 d2,n2,2000000 + (j:Int)⟩:Hel)):=⟨h1,h2⟩;have HN15:Hid (∀ g,(Value.slice b1 n1 d1).ownBlock=some g∨(Value.slice b2 n2 d2).ownBlock=some g→(Value.slice aw ln cw).ownBlock=some g∨wr.heap.size≤g):=(fun g e=>by rcases e with e | e;exact h3 g e;exact h4 g e);clear hr h1 h2 h3 h4 h5;(try dsimp only)) | (at_builtin;refine wpl_held rfl _ _ 35 rfl W.heap.size Tryz.info_h Tryz.underlying35 _ hz rfl (HX15.out.h.ext (zxa (Below.refl _ _) _)) (⟨.slice b1 n1 d1,n1,.slice b2 n2 d2,n2,2000000 + (j:Int)⟩:Hel) rfl rfl _ rfl (fun i9 u hj=>cells_lit y15 (hcs (⟨.slice b1 n1 d1,n1,.slice b2 n2 d2,n2,2000000 + (j:Int)⟩:Hel)) _ i9 u hj) hzb (Nat.le_trans HB15.out.size (zxa (Below.refl y15.heap.size y15) _).size) ?_;intro v16 y16 r16 g16 _;have e7:(hz ++ [(⟨.slice b1 n1 d1,n1,.slice b2 n2 d2,n2,2000000 + (j:Int)⟩:Hel)]).length=nz + 1:=(by rw [List.length_append,List.length_singleton,← HNZ.out.1]);obtain ⟨a16,c16,e16⟩:=r16.form;rw [e7] at e16;subst e16;have q1:=HX15.out.ext (w':=y15.alloc (.cells #[.slice b1 n1 d1,.slice b2 n2 d2,.int .i64 (2000000 + (j:Int))] 45)) (zxa (Below.refl y15.heap.size y15) _);have q2:∀ g,(Value.slice b1 n1 d1).ownBlock=some g∨(Value.slice b2 n2 d2).ownBlock=some g→∀ y ∈ qs.drop (j + 1),y.1.ownBlock≠some g:=(fun g e y hy=>(HN15.out g e).elim (fun e2=>(HF1.out g e2).2 y hy) (fun e2=>(HK1.out.fre e2).2 y hy));have q3:HelI (y15.alloc (.cells #[.slice b1 n1 d1,.slice b2 n2 d2,.int .i64 (2000000 + (j:Int))] 45)) W.heap.size (⟨.slice b1 n1 d1,n1,.slice b2 n2 d2,n2,2000000 + (j:Int)⟩:Hel):=⟨HE15.out.1.ext (zxa (Below.refl y15.heap.size y15) _),HE15.out.2.ext (zxa (Below.refl y15.heap.size y15) _)⟩;have HX16:=zh (q1.hold (⟨.slice b1 n1 d1,n1,.slice b2 n2 d2,n2,2000000 + (j:Int)⟩:Hel) q3 q2 r16 g16);have q4:Below W.heap.size W (y15.alloc (.cells #[.slice b1 n1 d1,.slice b2 n2 d2,.int .i64 (2000000 + (j:Int))] 45)):=zxa HB15.out _;have HB16:=zh (q4.trans ((Kps.grown (o:=fun i=>(Value.slice az nz cz).ownBlock=some i) g16 (fun i e _=>e)).below q4.size (fun i e=>(World.ownsRow.lt q1.h i e).1)));clear q1 q2 q3 q4;clear r16 g16 e7;(try dsimp only)))
      go_roundw
      case rel=>exact ⟨j + 1,_,a16,nz + 1,c16,by go_num,rfl,by omega,⟨by rw [List.length_append,List.length_singleton,← HNZ.out.1],by have:=HNZ.out.2;omega⟩,HX16.out,HB16.out⟩
      case measure=>simp [intOf];omega
     ·have hjn2:¬ j < nq:=by omega
      clear hjn
      go_wp2_with (go_at_call 20;refine (stands_any _ az nz cz _ HKX.out.h HKX.out.hi (by have:=HNZ.out.2;have:=HKL.out.2.1;omega)).mono ?_;rintro e z8 ⟨rfl,hb⟩;have HB8:=zh (HBZ.out.trans (hb.mono HBZ.out.size));clear hb;(try dsimp only))
      go_ret
      exact ⟨rfl,HB8.out⟩
   ·as_aux_lemma =>
    go_wp2_with fail
    go_loopw [8,26] (fun vh i wz=>∃ (j:Nat) (hz:List Hel) (az:Option Addr) (nz cz:Nat),i=.int .i64 (j:Nat)∧vh=.slice az nz cz∧j≤nq∧Hid (nz=hz.length∧nz≤40 + j)∧Hid (KX wz W.heap.size (.slice az nz cz) hz (.slice aq nq cq) (qs.map Prod.fst) (qs.drop j))∧Hid (Below W.heap.size W wz)) (fun _ i _=>nq - (intOf i).toNat)
    case atStart=>exact ⟨0,hs,ah,nh,ch,rfl,rfl,by omega,⟨by rw [HKL.out.2.2.1];exact HKL.out.1,by rw [HKL.out.1];omega⟩,by rw [List.drop_zero];exact HKR.out,HBE.out⟩
    case round =>
     clear HKR HBE
     obtain ⟨j,hz,az,nz,cz,rfl,rfl,hj,HNZ,HKX,HBZ⟩:=hrel
     by_cases hjn:(j:Int) < (nq:Int)
     ·have hql:Hid (qs.length=nq):=by unfold Hid;rw [HKL.out.2.2.2,HKL.out.2.1]
      obtain ⟨q,hq⟩:∃ q,qs[j]?=some q:=⟨_,List.getElem?_eq_getElem (by rw [hql.out];omega)⟩
      have hdr:qs.drop j=q :: qs.drop (j + 1):=by
       have hl:=(List.getElem?_eq_some_iff.1 hq).1
       rw [List.drop_eq_getElem_cons hl,(List.getElem?_eq_some_iff.1 hq).2]
      obtain ⟨hk1,⟨ho1,hl1⟩,hf1⟩:=KX.first (hdr ▸ HKX.out)
      obtain ⟨vq,zq⟩:=q
      simp only at ho1 hl1 hf1
      obtain ⟨aw,cw,hvw⟩:=ho1.form
      subst hvw
      obtain ⟨g9,rfl,hg9,hnc,cx⟩:=HKX.out.q.at j (.slice aw zq.length cw) (by rw [List.getElem?_map,hq];rfl)
      have hcn:nq≤80:=by rw [HKL.out.2.1];omega
      have HK1:=zh hk1
      have HO1:=zh ho1
      have HF1:=zh hf1
      obtain ⟨ln,hln⟩:∃ ln,ln=zq.length:=⟨_,rfl⟩
      rw [← hln] at cx HO1 HF1 hl1
      have hzb:hz.length + 1≤1099511627776:=by have:=HNZ.out;omega
      have HH:=zh (hold_any (B:=W.heap.size) wr aw ln cw zq (2000000 + (j:Int)) HO1.out HBZ.out.size hl1)
      clear hk1 ho1 hf1 hq hdr HKX hln hl1
      go_wp2_with (first | (go_at_call 12;refine HH.out.mono ?_;rintro e y15 hr;obtain ⟨b1,n1,d1,b2,n2,d2,rfl,h1,h2,h3,h4,h5⟩:=hr.out;have HX15:=zh (HK1.out.kps h5 (fun i e=>⟨OwnI.typ HO1.out e,HF1.out i e⟩));have HB15:=zh (HBZ.out.trans (h5.below HBZ.out.size (fun i e=>(HO1.out.blk i e).1)));have HE15:Hid (HelI y15 W.heap.size (⟨.slice b1 n1 d1,n1,.slice b2 n2 d2,n2,2000000 + (j:Int)⟩:Hel)):=⟨h1,h2⟩;have HN15:Hid (∀ g,(Value.slice b1 n1 d1).ownBlock=some g∨(Value.slice b2 n2 d2).ownBlock=some g→(Value.slice aw ln cw).ownBlock=some g∨wr.heap.size≤g):=(fun g e=>by rcases e with e | e;exact h3 g e;exact h4 g e);clear hr h1 h2 h3 h4 h5;(try dsimp only)) | (at_builtin;refine wpl_held rfl _ _ 35 rfl W.heap.size Tryz.info_h Tryz.underlying35 _ hz rfl (HX15.out.h.ext (zxa (Below.refl _ _) _)) (⟨.slice b1 n1 d1,n1,.slice b2 n2 d2,n2,2000000 + (j:Int)⟩:Hel) rfl rfl _ rfl (fun i9 u hj=>cells_lit y15 (hcs (⟨.slice b1 n1 d1,n1,.slice b2 n2 d2,n2,2000000 + (j:Int)⟩:Hel)) _ i9 u hj) hzb (Nat.le_trans HB15.out.size (zxa (Below.refl y15.heap.size y15) _).size) ?_;intro v16 y16 r16 g16 _;have e7:(hz ++ [(⟨.slice b1 n1 d1,n1,.slice b2 n2 d2,n2,2000000 + (j:Int)⟩:Hel)]).length=nz + 1:=(by rw [List.length_append,List.length_singleton,← HNZ.out.1]);obtain ⟨a16,c16,e16⟩:=r16.form;rw [e7] at e16;subst e16;have q1:=HX15.out.ext (w':=y15.alloc (.cells #[.slice b1 n1 d1,.slice b2 n2 d2,.int .i64 (2000000 + (j:Int))] 45)) (zxa (Below.refl y15.heap.size y15) _);have q2:∀ g,(Value.slice b1 n1 d1).ownBlock=some g∨(Value.slice b2 n2 d2).ownBlock=some g→∀ y ∈ qs.drop (j + 1),y.1.ownBlock≠some g:=(fun g e y hy=>(HN15.out g e).elim (fun e2=>(HF1.out g e2).2 y hy) (fun e2=>(HK1.out.fre e2).2 y hy));have q3:HelI (y15.alloc (.cells #[.slice b1 n1 d1,.slice b2 n2 d2,.int .i64 (2000000 + (j:Int))] 45)) W.heap.size (⟨.slice b1 n1 d1,n1,.slice b2 n2 d2,n2,2000000 + (j:Int)⟩:Hel):=⟨HE15.out.1.ext (zxa (Below.refl y15.heap.size y15) _),HE15.out.2.ext (zxa (Below.refl y15.heap.size y15) _)⟩;have HX16:=zh (q1.hold (⟨.slice b1 n1 d1,n1,.slice b2 n2 d2,n2,2000000 + (j:Int)⟩:Hel) q3 q2 r16 g16);have q4:Below W.heap.size W (y15.alloc (.cells #[.slice b1 n1 d1,.slice b2 n2 d2,.int .i64 (2000000 + (j:Int))] 45)):=zxa HB15.out _;have HB16:=zh (q4.trans ((Kps.grown (o:=fun i=>(Value.slice az nz cz).ownBlock=some i) g16 (fun i e _=>e)).below q4.size (fun i e=>(World.ownsRow.lt q1.h i e).1)));clear q1 q2 q3 q4;clear r16 g16 e7;(try dsimp only)))
      go_roundw
      case rel=>exact ⟨j + 1,_,a16,nz + 1,c16,by go_num,rfl,by omega,⟨by rw [List.length_append,List.length_singleton,← HNZ.out.1],by have:=HNZ.out.2;omega⟩,HX16.out,HB16.out⟩
      case measure=>simp [intOf];omega
     ·have hjn2:¬ j < nq:=by omega
      clear hjn
      go_wp2_with (go_at_call 20;refine (stands_any _ az nz cz _ HKX.out.h HKX.out.hi (by have:=HNZ.out.2;have:=HKL.out.2.1;omega)).mono ?_;rintro e z8 ⟨rfl,hb⟩;have HB8:=zh (HBZ.out.trans (hb.mono HBZ.out.size));clear hb;(try dsimp only))
      go_ret
      exact ⟨rfl,HB8.out⟩
end Go.Proofs.YtgfdfajblidleaaGreat.P
