import Derived.Test.YtjomfbegghgbdaaGreatJ00
import Derived.Test.YtjomfbegghgbdaaGreatJ30
import Derived.Test.YtjomfbegghgbdaaGreatJ36
import Derived.Deep.RegionHeld3
namespace Go.Proofs.YtjomfbegghgbdaaGreat.P
open Go.RowKit
structure Lq (enc:Int) (W:World) (bo t:Nat) (w:World) (A:List Int) (m:Nat):Prop where
 b:BtW enc w bo t A m
 bl:Below W.heap.size W w
 k1:W.heap.size≤bo
 k2:W.heap.size≤t
theorem Lq.ext {enc:Int} {W w w':World} {bo t m:Nat} {A:List Int} (h:Lq enc W bo t w A m) (hb:Below w.heap.size w w'):Lq enc W bo t w' A m :=
 ⟨h.b.ext hb,h.bl.trans (hb.mono h.bl.size),h.k1,h.k2⟩
theorem Lq.edt {enc:Int} {W w w':World} {bo t m m':Nat} {A A':List Int} (h:Lq enc W bo t w A m) (hb:BtW enc w' bo t A' m') (hk:Kps (fun k=>k=bo∨k=t) w w'):Lq enc W bo t w' A' m' :=
 ⟨hb,h.bl.trans (hk.below h.bl.size (fun k e=>by rcases e with e | e <;> (rw [e];first | exact h.k1 | exact h.k2))),h.k1,h.k2⟩
set_option maxRecDepth 100000 in
set_option maxHeartbeats 8000000 in
theorem ltile_any (x0:Int) (ad:Option Addr) (nd cd:Nat) (D:List Int) (v:Value) (os:List Opv) (W:World) (hD:Rd .u8 W (.slice ad nd cd) D) (hB:Byt D) (hO:RdO W v os) :
  Calls Tryz.prog 8 #[.agg #[.int .i64 x0,.slice ad nd cd],v] W fun e W'=>e=.returned (.bool true)∧Below W.heap.size W W':=by
 obtain ⟨w0,hw0,hb0⟩:∃ w0,w0=W.alloc (.cells #[.int .i64 x0,.slice ad nd cd] 24)∧Below W.heap.size W w0:=⟨_,rfl,ext_alloc (Below.refl _ _) _⟩
 have OP:=hidIt (opened_any x0 (.slice ad nd cd) D w0 (hD.ext hb0) hB)
 rw [hw0] at OP
 have HB0:=hidIt hb0
 have HW0:=hidIt hw0
 have HOS:=hidIt hO
 obtain ⟨ao,cap,rfl,ho1,ho2,hok,_⟩:=hO
 have HOK:=hidIt hok
 clear hw0 hb0 hD hB hok
 go_enter Tryz.func8,Tryz.ntmps8
 go_upto_region 2 with (go_at_call 18;refine OP.out.mono ?_;rintro e w1 ⟨t,v,rfl,ho,hb⟩;obtain ⟨enc,A,hen,hov,htz,hln,htw⟩:=ho.out;obtain ⟨av,cv,rfl⟩:=hov.form;have HTZ:=hidIt htz;have HOV:=hidIt hov;have HEN:=hidIt hen;have HLN:=hidIt hln;have HTW:=hidIt htw;have HB1:=hidIt hb;have hlA:=htz.len;clear ho hb hen hov htz hln htw;(try dsimp only))
 rw [← HW0.out] at HTW HB1
 generalize hw2:World.alloc _ _=w2
 have HB2:Hid (Below w1.heap.size w1 w2∧w2.heap[w1.heap.size]?=some (.cells #[.pointer (some ⟨t,0,none⟩),.slice av A.length cv] 29 (0,0))):=by unfold Hid;rw [← hw2];exact ⟨ext_alloc (Below.refl _ _) _,heap_alloc_new _ _⟩
 have h1:Hid (Below W.heap.size W w1):=HB0.out.trans (HB1.out.mono HB0.out.size)
 have HLQ:Hid (Lq enc W w1.heap.size t w2 A 0):=⟨⟨⟨_,HB2.out.2,(HOV.out.le (Nat.zero_le _)).ext HB2.out.1⟩,HTZ.out.ext HB2.out.1,by have:=HLN.out;omega,HEN.out⟩,h1.out.trans (HB2.out.1.mono h1.out.size),h1.out.size,Nat.le_trans HB0.out.size HTW.out⟩
 have HO2:Hid (OwnI w2 0 (.slice av A.length cv) A):=(HOV.out.le (Nat.zero_le _)).ext HB2.out.1
 obtain ⟨_,s0,s1,_⟩:=cells2 HB2.out.2
 clear hw2 OP HTZ HTW HB1 HW0 HB0 HOV HLN HEN h1 HB2 w0
 generalize w1.heap.size=bo at *
 have TA:=hidIt (tiles_any w2 t A _ HLQ.out.b.tz HO2.out)
 go_upto_region 4 with (go_at_call 45;refine TA.out.mono ?_;rintro e w3 ⟨rfl,hb⟩;have HL3:=hidIt (HLQ.out.ext hb);clear hb;(try dsimp only))
 clear TA HLQ HO2 s0 s1 hlA
 go_wp2_with fail
 go_loopw [7] (fun i wr=>∃ (k:Nat) (A':List Int),i=.int .i64 (k:Nat)∧k≤os.length∧k≤12∧Hid (Lq enc W bo t wr A' k)) (fun i _=>os.length - (intOf i).toNat)
 case atStart=>exact ⟨0,A,rfl,Nat.zero_le _,Nat.zero_le _,HL3.out⟩
 case round =>
  clear HL3
  obtain ⟨k,B,rfl,hk,hk12,HLr⟩:=hrel
  by_cases hlt:k < os.length∧k < 12
  ·have hlt1:(k:Int) < (os.length:Int):=by omega
   have hlt2:(k:Int) < 12:=by omega
   have hlt3:k < os.length:=hlt.1
   obtain ⟨o,ho⟩:∃ o,os[k]?=some o:=⟨_,List.getElem?_eq_getElem hlt.1⟩
   obtain ⟨pb,po,rfl,pv,hpv0,hpv⟩:∃ pb po,ao=some ⟨pb,po,none⟩∧∃ pv,(∀ y,Below W.heap.size W y→y.cell? ⟨pb,po + k * 5 + 2,none⟩=some (.int .i64 o.a)∧y.cell? ⟨pb,po + k * 5 + 3,none⟩=some (.int .i64 o.b)∧y.cell? ⟨pb,po + k * 5 + 4,none⟩=some pv)∧Rd .i64 W pv o.put:=by
    obtain ⟨ao',cap',hv',_,_,_,h6⟩:=HOS.out
    cases hv'
    obtain ⟨pb,po,ea,hpb,hcs⟩:=h6 (by intro e;rw [e] at hlt3;simp at hlt3)
    obtain ⟨_,_,c2,c3,pv,c4,hpv⟩:=hcs k o ho
    exact ⟨pb,po,ea,pv,fun y hy=>⟨(hy.cell (p:=⟨pb,_,none⟩) hpb).trans c2,(hy.cell (p:=⟨pb,_,none⟩) hpb).trans c3,(hy.cell (p:=⟨pb,_,none⟩) hpb).trans c4⟩,hpv⟩
   obtain ⟨ap,cp,rfl,_⟩:=id hpv
   have hoo:=HOK.out o (List.mem_of_getElem? ho)
   have HPV:=hidIt (hpv.ext HLr.out.bl)
   have HS:Hid (∀ {y:World} (A':List Int) (m':Nat),Lq enc W bo t y A' m'→y.cell? ⟨pb,po + k * 5 + 2,none⟩=some (.int .i64 o.a)∧y.cell? ⟨pb,po + k * 5 + 3,none⟩=some (.int .i64 o.b)∧y.cell? ⟨pb,po + k * 5 + 4,none⟩=some (.slice ap o.put.length cp)∧y.cell? ⟨bo,0,none⟩=some (.pointer (some ⟨t,0,none⟩))):=fun A' m' hy=>by
    obtain ⟨v2,hv2,_⟩:=hy.b.ex
    obtain ⟨g1,g2,g3⟩:=hpv0 _ hy.bl
    exact ⟨g1,g2,g3,(cells2 hv2).2.1⟩
   clear hpv0 hpv ho
   go_upto_region 7 with fail
   refine wp_region_held_drew (S:=fun w'=>w'.cell? ⟨pb,po + k * 5 + 2,none⟩=some (.int .i64 o.a)∧w'.cell? ⟨pb,po + k * 5 + 3,none⟩=some (.int .i64 o.b)∧w'.cell? ⟨pb,po + k * 5 + 4,none⟩=some (.slice ap o.put.length cp)∧w'.cell? ⟨bo,0,none⟩=some (.pointer (some ⟨t,0,none⟩))) (by kernel_rfl) (by first | exact HS.out _ _ HLr.out | exact HS.out _ _ (HLr.out.ext (Below.refl _ _).drew)) (fun hHeld=>?_)
   refine tkH 0 rfl ?_
   try simp only [Act.put,tS]
   refine tkH 1 rfl ?_
   try simp only [Act.put,tS]
   refine tkH 2 rfl ?_
   try simp only [Act.put,tS]
   refine tkH 3 rfl ?_
   try simp only [Act.put,tS]
   refine tkH 4 rfl ?_
   try simp only [Act.put,tS]
   refine tkH 5 rfl ?_
   try simp only [Act.put,tS]
   refine tkH 6 rfl ?_
   try simp only [Act.put,tS]
   refine tkH 7 rfl ?_
   try simp only [Act.put,tS]
   refine tkH 8 rfl ?_
   try simp only [Act.put,tS]
   refine tkH 9 rfl ?_
   try simp only [Act.put,tS]
   refine tkH 10 rfl ?_
   try simp only [Act.put,tS]
   refine tkH 11 rfl ?_
   try simp only [Act.put,tS]
   refine tkH 12 rfl ?_
   try simp only [Act.put,tS]
   refine tkH 13 rfl ?_
   try simp only [Act.put,tS]
   refine tkH 14 rfl ?_
   try simp only [Act.put,tS]
   refine rdH 15 rfl fun K hK=>?_
   go_simp
   (first | refine (edited_any enc _ bo t B k o.a o.b (.slice ap o.put.length cp) o.put (HLr.out.b.ext (Below.refl _ _)) (by omega) hoo.a hoo.b (HPV.out.ext (Below.refl _ _))).mono ?_ | refine (edited_any enc _ bo t B k o.a o.b (.slice ap o.put.length cp) o.put (HLr.out.b.ext (Below.refl _ _).drew) (by omega) hoo.a hoo.b (HPV.out.ext (Below.refl _ _).drew)).mono ?_);rintro e w7 ⟨rfl,he,hk7⟩;obtain ⟨A2,hA2⟩:=he.out;have HL7:Hid (Lq enc W bo t w7 A2 (k + 1)):=(by first | exact HLr.out.edt hA2 hk7 | exact (HLr.out.ext (Below.refl _ _).drew).edt hA2 hk7);clear he hk7 hA2 HLr;obtain ⟨v2,hv2,ho2⟩:=HL7.out.b.ex;obtain ⟨a2,c2,rfl⟩:=ho2.form;have s1:w7.cell? ⟨bo,1,none⟩=some (.slice a2 A2.length c2):=(cells2 hv2).2.2.1;have HO2:=hidIt ho2;clear hv2 ho2;(try dsimp only)
   refine hK.out _ _ ?_ (fun hHeld=>?_)
   ·exact HS.out _ _ HL7.out
   clear hK K
   try simp only [Act.put,tS]
   refine tkH 16 rfl ?_
   try simp only [Act.put,tS]
   refine tkH 17 rfl ?_
   try simp only [Act.put,tS]
   refine tkH 18 rfl ?_
   try simp only [Act.put,tS]
   refine tkH 19 rfl ?_
   try simp only [Act.put,tS]
   refine tkH 20 rfl ?_
   try simp only [Act.put,tS]
   refine rdH 21 rfl fun K hK=>?_
   go_simp
   refine hK.out _ _ ?_ (fun hHeld=>?_)
   ·exact hHeld
   clear hK K
   try simp only [Act.put,tS]
   refine rdH 22 rfl fun K hK=>?_
   go_simp
   (first | refine (tiles_any _ t A2 (.slice a2 A2.length c2) (HL7.out.b.tz.ext (Below.refl _ _)) (HO2.out.ext (Below.refl _ _))).mono ?_ | refine (tiles_any _ t A2 (.slice a2 A2.length c2) (HL7.out.b.tz.ext (Below.refl _ _).drew) (HO2.out.ext (Below.refl _ _).drew)).mono ?_);rintro e w8 ⟨rfl,hb8⟩;have HL8:Hid (Lq enc W bo t w8 A2 (k + 1)):=(by first | exact HL7.out.ext hb8 | exact (HL7.out.ext (Below.refl _ _).drew).ext hb8);clear hb8 HL7 HO2;(try dsimp only)
   refine hK.out _ _ ?_ (fun hHeld=>?_)
   ·exact HS.out _ _ HL8.out
   clear hK K
   try simp only [Act.put,tS]
   refine tkH 23 rfl ?_
   try simp only [Act.put,tS]
   refine tkH 24 rfl ?_
   try simp only [Act.put,tS]
   refine wpAnyH_done (by kernel_rfl) ?_ _
   clear HS
   go_wp2_with fail
   go_roundw
   case rel=>exact ⟨k + 1,A2,by go_num,by omega,by omega,HL8.out⟩
   case measure=>simp [intOf];omega
  ·by_cases h1:k < os.length
   ·have h1':(k:Int) < (os.length:Int):=by omega
    have h2':¬ (k:Int) < 12:=by omega
    go_wp2_with fail
    go_ret
    exact ⟨rfl,HLr.out.bl⟩
   ·have h1':¬ (k:Int) < (os.length:Int):=by omega
    go_wp2_with fail
    go_ret
    exact ⟨rfl,HLr.out.bl⟩
end Go.Proofs.YtjomfbegghgbdaaGreat.P
