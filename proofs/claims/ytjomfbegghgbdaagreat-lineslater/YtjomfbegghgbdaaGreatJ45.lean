import Derived.Test.YtjomfbegghgbdaaGreatJ00
import Derived.Test.YtjomfbegghgbdaaGreatJ30
import Derived.Test.YtjomfbegghgbdaaGreatJ38
namespace Go.Proofs.YtjomfbegghgbdaaGreat.P
open Go.RowKit
theorem nf_all (p:Value) (w:World):(binOp BinOp.eql 72 (.func (.func 67) #[] #[p]) .nilFunc).run Tryz.prog w=.ok (.bool false) w:=by kernel_rfl
structure Lt (enc:Int) (W:World) (bo t b1 b2:Nat) (w:World) (A:List Int) (m:Nat):Prop where
 b:BtW enc w bo t A m
 i1:w.heap[b1]?=some (.cells #[.pointer (some ⟨t,0,none⟩)] 26 (0,0))
 i2:w.heap[b2]?=some (.cells #[.pointer (some ⟨t,0,none⟩)] 26 (0,0))
 bl:Below W.heap.size W w
 k1:W.heap.size≤bo
 k2:W.heap.size≤t
theorem Lt.ext {enc:Int} {W w w':World} {bo t b1 b2 m:Nat} {A:List Int} (h:Lt enc W bo t b1 b2 w A m) (hb:Below w.heap.size w w'):Lt enc W bo t b1 b2 w' A m :=
 ⟨h.b.ext hb,(hb.block b1 (Array.getElem?_eq_some_iff.1 h.i1).1).trans h.i1,(hb.block b2 (Array.getElem?_eq_some_iff.1 h.i2).1).trans h.i2,h.bl.trans (hb.mono h.bl.size),h.k1,h.k2⟩
theorem Lt.edt {enc:Int} {W w w':World} {bo t b1 b2 m m':Nat} {A A':List Int} (h:Lt enc W bo t b1 b2 w A m) (hb:BtW enc w' bo t A' m') (hk:Kps (fun k=>k=bo∨k=t) w w'):Lt enc W bo t b1 b2 w' A' m':=by
 have ne:∀ b,w.heap[b]?=some (.cells #[.pointer (some ⟨t,0,none⟩)] 26 (0,0))→¬ (b=bo∨b=t):=fun b hb1 e=>by
  have h1:Typ 26 w b:=⟨_,hb1⟩
  rcases e with e | e
  ·rw [e] at h1;exact absurd (Typ.uniq h1 h.b.typ) (by decide)
  ·rw [e] at h1;exact absurd (Typ.uniq h1 h.b.tz.typ) (by decide)
 exact ⟨hb,(hk.same b1 (Array.getElem?_eq_some_iff.1 h.i1).1 (ne b1 h.i1)).trans h.i1,(hk.same b2 (Array.getElem?_eq_some_iff.1 h.i2).1 (ne b2 h.i2)).trans h.i2,h.bl.trans (hk.below h.bl.size (fun k e=>by rcases e with e | e <;> (rw [e];first | exact h.k1 | exact h.k2))),h.k1,h.k2⟩
theorem Lt.wlk {enc:Int} {W w w':World} {bo t b1 b2 m q:Nat} {A:List Int} (h:Lt enc W bo t b1 b2 w A m) (hk:Kps (fun j=>j=q) w w') (hq:Typ 80 w q) (hge:W.heap.size≤q):Lt enc W bo t b1 b2 w' A m:=by
 have ne:∀ b,w.heap[b]?=some (.cells #[.pointer (some ⟨t,0,none⟩)] 26 (0,0))→¬ b=q:=fun b hb1 e=>by
  have h1:Typ 26 w b:=⟨_,hb1⟩
  rw [e] at h1;exact absurd (Typ.uniq h1 hq) (by decide)
 have nbo:bo≠q:=fun e=>by have h1:=h.b.typ;rw [e] at h1;exact absurd (Typ.uniq h1 hq) (by decide)
 obtain ⟨v,hv1,hv2⟩:=h.b.ex
 refine ⟨⟨⟨v,(hk.same bo (Array.getElem?_eq_some_iff.1 hv1).1 nbo).trans hv1,hv2.oth hk hq (by decide)⟩,h.b.tz.wk hk hq,h.b.bd,h.b.en⟩,(hk.same b1 (Array.getElem?_eq_some_iff.1 h.i1).1 (ne b1 h.i1)).trans h.i1,(hk.same b2 (Array.getElem?_eq_some_iff.1 h.i2).1 (ne b2 h.i2)).trans h.i2,h.bl.trans (hk.below h.bl.size (fun k e=>by rw [e];exact hge)),h.k1,h.k2⟩
set_option maxRecDepth 100000 in
set_option maxHeartbeats 16000000 in
theorem llater_any (x0:Int) (ad:Option Addr) (nd cd:Nat) (D:List Int) (v:Value) (os:List Opv) (W:World) (hD:Rd .u8 W (.slice ad nd cd) D) (hB:Byt D) (hO:RdO W v os) :
  Calls Tryz.prog 7 #[.agg #[.int .i64 x0,.slice ad nd cd],v] W fun e W'=>e=.returned (.bool true)∧Below W.heap.size W W':=by
 obtain ⟨w0,hw0,hb0⟩:∃ w0,w0=W.alloc (.cells #[.int .i64 x0,.slice ad nd cd] 24)∧Below W.heap.size W w0:=⟨_,rfl,ext_alloc (Below.refl _ _) _⟩
 have OP:=hidIt (opened_any x0 (.slice ad nd cd) D w0 (hD.ext hb0) hB)
 rw [hw0] at OP
 have HB0:=hidIt hb0
 have HW0:=hidIt hw0
 have HOS:=hidIt hO
 obtain ⟨ao,cap,rfl,ho1,ho2,hok,_⟩:=hO
 have HOK:=hidIt hok
 clear hw0 hb0 hD hB hok
 go_enter Tryz.func7,Tryz.ntmps7
 go_upto_region 2 with (go_at_call 18;refine OP.out.mono ?_;rintro e w1 ⟨t,v,rfl,ho,hb⟩;obtain ⟨enc,A,hen,hov,htz,hln,htw⟩:=ho.out;obtain ⟨av,cv,rfl⟩:=hov.form;have HTZ:=hidIt htz;have HOV:=hidIt hov;have HEN:=hidIt hen;have HLN:=hidIt hln;have HTW:=hidIt htw;have HB1:=hidIt hb;have hlA:=htz.len;clear ho hb hen hov htz hln htw;(try dsimp only))
 rw [← HW0.out] at HTW HB1
 generalize hw2:World.alloc _ _=w2
 have HB2:Hid (Below w1.heap.size w1 w2∧w2.heap[w1.heap.size]?=some (.cells #[.pointer (some ⟨t,0,none⟩),.slice av A.length cv] 29 (0,0))):=by unfold Hid;rw [← hw2];exact ⟨ext_alloc (Below.refl _ _) _,heap_alloc_new _ _⟩
 have h1:Hid (Below W.heap.size W w1):=HB0.out.trans (HB1.out.mono HB0.out.size)
 have HBT:Hid (BtW enc w2 w1.heap.size t A 0∧Below W.heap.size W w2∧W.heap.size≤w1.heap.size∧W.heap.size≤t):=⟨⟨⟨_,HB2.out.2,(HOV.out.le (Nat.zero_le _)).ext HB2.out.1⟩,HTZ.out.ext HB2.out.1,by have:=HLN.out;omega,HEN.out⟩,h1.out.trans (HB2.out.1.mono h1.out.size),h1.out.size,Nat.le_trans HB0.out.size HTW.out⟩
 have s0:w2.cell? ⟨w1.heap.size,0,none⟩=some (.pointer (some ⟨t,0,none⟩)):=(cells2 HB2.out.2).2.1
 clear hw2 OP HTZ HTW HB1 HW0 HB0 HOV HLN HEN h1 HB2 w0
 generalize w1.heap.size=bo at *
 have CN:=hidIt (Count_z enc w2 t A HBT.out.1.tz)
 have hcp:¬ cnt enc A < 1:=by have:=spn_nn enc A;rw [cnt_tail];split <;> omega
 generalize cnt enc A=cn at *
 go_upto_region 4 with (go_at_call 19;refine CN.out.mono ?_;rintro e w3 ⟨rfl,hb⟩;have HB3:=hidIt hb;clear hb;(try dsimp only))
 have HBT3:Hid (BtW enc w3 bo t A 0∧Below W.heap.size W w3):=⟨HBT.out.1.ext HB3.out,HBT.out.2.1.trans (HB3.out.mono HBT.out.2.1.size)⟩
 have s0:w3.cell? ⟨bo,0,none⟩=some (.pointer (some ⟨t,0,none⟩)):=by obtain ⟨_,h,_⟩:=HBT3.out.1.ex;exact (cells2 h).2.1
 have hbol:bo < w3.heap.size:=HBT3.out.1.lt
 have AL1:=hidIt (All_any t w3)
 go_upto_region 5 with (go_at_call 38;refine AL1.out.mono ?_;rintro e w4 ⟨rfl,hw⟩;have HW4:=hidIt hw;clear hw;(try dsimp only))
 have HB4:Hid (Below w3.heap.size w3 w4∧w4.heap[w3.heap.size]?=some (.cells #[.pointer (some ⟨t,0,none⟩)] 26 (0,0))):=by unfold Hid;rw [HW4.out];exact ⟨ext_alloc (Below.refl _ _) _,heap_alloc_new _ _⟩
 have s0:w4.cell? ⟨bo,0,none⟩=some (.pointer (some ⟨t,0,none⟩)):=(HB4.out.1.cell (p:=⟨bo,0,none⟩) hbol).trans s0
 clear AL1 HW4
 have AL2:=hidIt (All_any t w4)
 go_upto_region 6 with (go_at_call 38;refine AL2.out.mono ?_;rintro e w5 ⟨rfl,hw⟩;have HW5:=hidIt hw;clear hw;(try dsimp only))
 have HB5:Hid (Below w4.heap.size w4 w5∧w5.heap[w4.heap.size]?=some (.cells #[.pointer (some ⟨t,0,none⟩)] 26 (0,0))):=by unfold Hid;rw [HW5.out];exact ⟨ext_alloc (Below.refl _ _) _,heap_alloc_new _ _⟩
 have HLT:Hid (Lt enc W bo t w3.heap.size w4.heap.size w5 A 0):=⟨(HBT3.out.1.ext HB4.out.1).ext HB5.out.1,(HB5.out.1.block _ (Array.getElem?_eq_some_iff.1 HB4.out.2).1).trans HB4.out.2,HB5.out.2,(HBT3.out.2.trans (HB4.out.1.mono HBT3.out.2.size)).trans (HB5.out.1.mono (Nat.le_trans HBT3.out.2.size HB4.out.1.size)),HBT.out.2.2.1,HBT.out.2.2.2⟩
 clear AL2 HW5 HB4 HB5 HBT3 HBT CN hcp s0 hbol HB3
 generalize w3.heap.size=b1 at *
 generalize w4.heap.size=b2 at *
 have n1:=nf_all
 go_wp2_with fail
 go_loopw [9] (fun i wr=>∃ (k:Nat) (A':List Int),i=.int .i64 (k:Nat)∧k≤os.length∧k≤12∧Hid (Lt enc W bo t b1 b2 wr A' k)) (fun i _=>os.length - (intOf i).toNat)
 case atStart=>exact ⟨0,A,rfl,Nat.zero_le _,Nat.zero_le _,HLT.out⟩
 case round =>
  clear HLT n1 hlA
  obtain ⟨k,B,rfl,hk,hk12,HLr⟩:=hrel
  by_cases hlt:k < os.length∧k < 12
  ·have hlt1:(k:Int) < (os.length:Int):=by omega
   have hlt2:(k:Int) < 12:=by omega
   have hlt3:k < os.length:=hlt.1
   obtain ⟨o,ho⟩:∃ o,os[k]?=some o:=⟨_,List.getElem?_eq_getElem hlt.1⟩
   obtain ⟨ao',cap',hv',_,_,_,h6⟩:=HOS.out.ext HLr.out.bl
   cases hv'
   obtain ⟨pb,po,ea,hpb,hcs⟩:=h6 (by intro e;rw [e] at hlt3;simp at hlt3)
   subst ea
   obtain ⟨c0,c1,c2,c3,pv,c4,hpv⟩:=hcs k o ho
   obtain ⟨ap,cp,rfl,_⟩:=id hpv
   have hoo:=HOK.out o (List.mem_of_getElem? ho)
   have HPV:=hidIt hpv
   clear hcs h6 ho hpv
   go_upto_region 12 with fail
   generalize hw6:World.alloc _ _=w6
   have HB6:Hid (Below wr.heap.size wr w6∧w6.heap[wr.heap.size]?=some (.cells #[.int .i64 o.who,.int .i64 o.k,.int .i64 o.a,.int .i64 o.b,.slice ap o.put.length cp] 38 (0,0))):=by unfold Hid;rw [← hw6];exact ⟨ext_alloc (Below.refl _ _) _,heap_alloc_new _ _⟩
   clear hw6 c0 c1 c2 c3 c4
   obtain ⟨_,_,_,c2,c3,c4⟩:=cells5 HB6.out.2
   have HL6:=hidIt (HLr.out.ext HB6.out.1)
   have ED:=hidIt (edited_any enc w6 bo t B k o.a o.b (.slice ap o.put.length cp) o.put HL6.out.b (by omega) hoo.a hoo.b (HPV.out.ext HB6.out.1))
   go_upto_region 14 with (go_at_call 39;refine ED.out.mono ?_;rintro e w7 ⟨rfl,he,hk7⟩;have HE7:=hidIt he.out;have HK7:=hidIt hk7;clear he hk7;(try dsimp only))
   obtain ⟨A2,hA2⟩:=HE7.out
   have HLw7:=hidIt (HL6.out.edt hA2 HK7.out)
   clear ED HE7 HK7 HL6 HB6 HLr HPV c2 c3 c4 hA2 hoo
   obtain ⟨v2,hv2,ho2⟩:=HLw7.out.b.ex
   obtain ⟨a2,c2,hvf⟩:=ho2.form
   subst hvf
   have RA:=hidIt (rAll_any enc (.slice a2 A2.length c2) A2 w7 ho2.rdi HLw7.out.b.tz.len)
   obtain ⟨mm,hmm,hmB⟩:∃ mm:Nat,cnt enc A2=mm∧(mm:Int)≤(spn enc A2).b + 1:=⟨(cnt enc A2).toNat,by have:=spn_nn enc A2;unfold cnt;split <;> omega,by have:=spn_nn enc A2;unfold cnt;split <;> omega⟩
   rw [hmm] at RA
   have HMM:=hidIt hmm
   have HMB:=hidIt hmB
   have hsl:=spn_len enc A2
   have hsn:=spn_nn enc A2
   have hlz:=HLw7.out.b.tz.len
   have s1:w7.cell? ⟨bo,1,none⟩=some (.slice a2 A2.length c2):=(cells2 hv2).2.2.1
   clear hv2 ho2 hmm hmB
   go_upto_region 15 with (go_at_call 40;refine RA.out.mono ?_;rintro e w8 ⟨ao8,n8,cap8,rfl,hn,hb⟩;have HB8:=hidIt hb;have HN8:=hidIt hn.out;clear hn hb s1;(try dsimp only))
   have hrd:=HN8.out.2.rd
   obtain ⟨ao',cap',hv',hcap1,hcap2,h6⟩:=hrd
   rw [lns_len] at hv' hcap1
   simp only [Value.slice.injEq,true_and] at hv'
   obtain ⟨rfl,rfl⟩:=hv'
   obtain ⟨gr,hgr,hgl,hrow⟩:=h6 (by intro e;have e1:=congrArg List.length e;rw [lns_len] at e1;have e2:=HN8.out.1;have e4:n8=0:=e1;omega)
   subst hgr
   have HROW:Hid (∀ k,k < mm→Rw4 w8 gr k (lnK enc A2 (k:Nat))):=fun k hk=>hrow k _ (lns_at enc A2 n8 k (by have:=HN8.out.1;have:=HMB.out;omega))
   have hmn:mm≤n8:=by have:=HN8.out.1;have:=HMB.out;omega
   have hn9:n8≤65537:=by have:=HN8.out.1;omega
   have HL8:=hidIt (HLw7.out.ext HB8.out)
   clear RA h6 hrow HN8 HMB hsl hsn hlz
   go_upto_region 16 with fail
   generalize hw9:World.alloc (World.alloc _ _) _=w9
   have HW9:Hid (Below w8.heap.size w8 w9∧Wk w9 w8.heap.size gr n8 cap8 mm 0∧w9.heap[w8.heap.size + 1]?=some (.cells #[.pointer (some ⟨w8.heap.size,0,none⟩)] 78 (0,0))):=by
    unfold Hid
    rw [← hw9]
    refine ⟨ext_alloc (ext_alloc (Below.refl _ _) _) _,(Below.heap_alloc _ _ _ (by simp)).trans (heap_alloc_new _ _),?_⟩
    have e:w8.heap.size + 1=(w8.alloc (.cells #[.slice (some ⟨gr,0,none⟩) n8 cap8,.int .i64 (mm:Nat),.int .i64 (-1),.int .i64 ((0:Nat):Int),.bool false,.bool false] 80)).heap.size:=by simp
    rw [e]
    exact heap_alloc_new _ _
   clear hw9
   have HL9:=hidIt (HL8.out.ext HW9.out.1)
   have AC:=hidIt (allLater1 enc A2 t w9 HL9.out.b.tz b1 (w8.heap.size + 1) w8.heap.size gr n8 cap8 mm HL9.out.i1 HW9.out.2.2 HW9.out.2.1 (fun k hk=>(HROW.out k hk).same (HW9.out.1.block gr hgl)) HMM.out.symm hmn hn9 hcap1 hcap2 (by omega) (Nat.lt_of_lt_of_le hgl HW9.out.1.size))
   have hge:W.heap.size≤w8.heap.size:=HL8.out.bl.size
   have hlx9:=(Array.getElem?_eq_some_iff.1 HW9.out.2.2).1
   have HTW:=hidIt HW9.out.2.1.typ
   have HBX:=hidIt HW9.out.2.2
   clear HROW HW9 HL8 HB8
   generalize w8.heap.size=q at *
   go_upto_region 17 with (go_at_call 67;refine AC.out.mono ?_;rintro e w10 ⟨⟨ve,rfl⟩,hk1,hk2⟩;have HK1:=hidIt hk1;have HK2:=hidIt hk2;clear hk1 hk2;(try dsimp only))
   have HL10:=hidIt (HL9.out.wlk HK2.out HTW.out hge)
   have cx:w10.cell? ⟨q + 1,0,none⟩=some (.pointer (some ⟨q,0,none⟩)):=by simp [World.cell?,(HK2.out.same (q + 1) hlx9 (by omega)).trans HBX.out]
   have WE:=hidIt (well_any HK1.out)
   clear AC HL9 HBX HTW hlx9
   go_wp2_with (go_at_call 43;refine WE.out.mono ?_;rintro e w11 ⟨rfl,hb⟩;have HB11:=hidIt hb;clear hb;(try dsimp only))
   go_roundw
   case rel=>exact ⟨k + 1,A2,by go_num,by omega,by omega,HL10.out.ext HB11.out⟩
   case measure=>simp [intOf];omega
  ·have HLwr:=hidIt HLr.out
   clear HLr
   by_cases h1:k < os.length
   ·have h1':(k:Int) < (os.length:Int):=by omega
    have h2':¬ (k:Int) < 12:=by omega
    go_upto_region 19 with fail
    obtain ⟨v2,hv2,ho2⟩:=HLwr.out.b.ex
    obtain ⟨a2,c2,hvf⟩:=ho2.form
    subst hvf
    have RA:=hidIt (rAll_any enc (.slice a2 B.length c2) B wr ho2.rdi HLwr.out.b.tz.len)
    obtain ⟨mm,hmm,hmB⟩:∃ mm:Nat,cnt enc B=mm∧(mm:Int)≤(spn enc B).b + 1:=⟨(cnt enc B).toNat,by have:=spn_nn enc B;unfold cnt;split <;> omega,by have:=spn_nn enc B;unfold cnt;split <;> omega⟩
    rw [hmm] at RA
    have HMM:=hidIt hmm
    have HMB:=hidIt hmB
    have hsl:=spn_len enc B
    have hsn:=spn_nn enc B
    have hlz:=HLwr.out.b.tz.len
    have s1:wr.cell? ⟨bo,1,none⟩=some (.slice a2 B.length c2):=(cells2 hv2).2.2.1
    clear hv2 ho2 hmm hmB
    go_upto_region 20 with (go_at_call 40;refine RA.out.mono ?_;rintro e w8 ⟨ao8,n8,cap8,rfl,hn,hb⟩;have HB8:=hidIt hb;have HN8:=hidIt hn.out;clear hn hb s1;(try dsimp only))
    have hrd:=HN8.out.2.rd
    obtain ⟨ao',cap',hv',hcap1,hcap2,h6⟩:=hrd
    rw [lns_len] at hv' hcap1
    simp only [Value.slice.injEq,true_and] at hv'
    obtain ⟨rfl,rfl⟩:=hv'
    obtain ⟨gr,hgr,hgl,hrow⟩:=h6 (by intro e;have e1:=congrArg List.length e;rw [lns_len] at e1;have e2:=HN8.out.1;have e4:n8=0:=e1;omega)
    subst hgr
    have HROW:Hid (∀ k,k < mm→Rw4 w8 gr k (lnK enc B (k:Nat))):=fun k hk=>hrow k _ (lns_at enc B n8 k (by have:=HN8.out.1;have:=HMB.out;omega))
    have hmn:mm≤n8:=by have:=HN8.out.1;have:=HMB.out;omega
    have hn9:n8≤65537:=by have:=HN8.out.1;omega
    have HL8:=hidIt (HLwr.out.ext HB8.out)
    clear RA h6 hrow HN8 HMB hsl hsn hlz
    go_upto_region 21 with fail
    generalize hw9:World.alloc (World.alloc _ _) _=w9
    have HW9:Hid (Below w8.heap.size w8 w9∧Wk w9 w8.heap.size gr n8 cap8 mm 0∧w9.heap[w8.heap.size + 1]?=some (.cells #[.pointer (some ⟨w8.heap.size,0,none⟩)] 78 (0,0))):=by
     unfold Hid
     rw [← hw9]
     refine ⟨ext_alloc (ext_alloc (Below.refl _ _) _) _,(Below.heap_alloc _ _ _ (by simp)).trans (heap_alloc_new _ _),?_⟩
     have e:w8.heap.size + 1=(w8.alloc (.cells #[.slice (some ⟨gr,0,none⟩) n8 cap8,.int .i64 (mm:Nat),.int .i64 (-1),.int .i64 ((0:Nat):Int),.bool false,.bool false] 80)).heap.size:=by simp
     rw [e]
     exact heap_alloc_new _ _
    clear hw9
    have HL9:=hidIt (HL8.out.ext HW9.out.1)
    have AC:=hidIt (allLater2 enc B t w9 HL9.out.b.tz b2 (w8.heap.size + 1) w8.heap.size gr n8 cap8 mm HL9.out.i2 HW9.out.2.2 HW9.out.2.1 (fun k hk=>(HROW.out k hk).same (HW9.out.1.block gr hgl)) HMM.out.symm hmn hn9 hcap1 hcap2 (by omega) (Nat.lt_of_lt_of_le hgl HW9.out.1.size))
    have hge:W.heap.size≤w8.heap.size:=HL8.out.bl.size
    have hlx9:=(Array.getElem?_eq_some_iff.1 HW9.out.2.2).1
    have HTW:=hidIt HW9.out.2.1.typ
    have HBX:=hidIt HW9.out.2.2
    clear HROW HW9 HL8 HB8
    generalize w8.heap.size=q at *
    go_upto_region 22 with (go_at_call 67;refine AC.out.mono ?_;rintro e w10 ⟨⟨ve,rfl⟩,hk1,hk2⟩;have HK1:=hidIt hk1;have HK2:=hidIt hk2;clear hk1 hk2;(try dsimp only))
    have HL10:=hidIt (HL9.out.wlk HK2.out HTW.out hge)
    have cx:w10.cell? ⟨q + 1,0,none⟩=some (.pointer (some ⟨q,0,none⟩)):=by simp [World.cell?,(HK2.out.same (q + 1) hlx9 (by omega)).trans HBX.out]
    have WE:=hidIt (well_any HK1.out)
    clear AC HL9 HBX HTW hlx9
    go_wp2_with (go_at_call 43;refine WE.out.mono ?_;rintro e w11 ⟨rfl,hb⟩;have HB11:=hidIt hb;clear hb;(try dsimp only))
    go_ret
    exact ⟨rfl,(HL10.out.ext HB11.out).bl⟩
   ·have h1':¬ (k:Int) < (os.length:Int):=by omega
    go_upto_region 19 with fail
    obtain ⟨v2,hv2,ho2⟩:=HLwr.out.b.ex
    obtain ⟨a2,c2,hvf⟩:=ho2.form
    subst hvf
    have RA:=hidIt (rAll_any enc (.slice a2 B.length c2) B wr ho2.rdi HLwr.out.b.tz.len)
    obtain ⟨mm,hmm,hmB⟩:∃ mm:Nat,cnt enc B=mm∧(mm:Int)≤(spn enc B).b + 1:=⟨(cnt enc B).toNat,by have:=spn_nn enc B;unfold cnt;split <;> omega,by have:=spn_nn enc B;unfold cnt;split <;> omega⟩
    rw [hmm] at RA
    have HMM:=hidIt hmm
    have HMB:=hidIt hmB
    have hsl:=spn_len enc B
    have hsn:=spn_nn enc B
    have hlz:=HLwr.out.b.tz.len
    have s1:wr.cell? ⟨bo,1,none⟩=some (.slice a2 B.length c2):=(cells2 hv2).2.2.1
    clear hv2 ho2 hmm hmB
    go_upto_region 20 with (go_at_call 40;refine RA.out.mono ?_;rintro e w8 ⟨ao8,n8,cap8,rfl,hn,hb⟩;have HB8:=hidIt hb;have HN8:=hidIt hn.out;clear hn hb s1;(try dsimp only))
    have hrd:=HN8.out.2.rd
    obtain ⟨ao',cap',hv',hcap1,hcap2,h6⟩:=hrd
    rw [lns_len] at hv' hcap1
    simp only [Value.slice.injEq,true_and] at hv'
    obtain ⟨rfl,rfl⟩:=hv'
    obtain ⟨gr,hgr,hgl,hrow⟩:=h6 (by intro e;have e1:=congrArg List.length e;rw [lns_len] at e1;have e2:=HN8.out.1;have e4:n8=0:=e1;omega)
    subst hgr
    have HROW:Hid (∀ k,k < mm→Rw4 w8 gr k (lnK enc B (k:Nat))):=fun k hk=>hrow k _ (lns_at enc B n8 k (by have:=HN8.out.1;have:=HMB.out;omega))
    have hmn:mm≤n8:=by have:=HN8.out.1;have:=HMB.out;omega
    have hn9:n8≤65537:=by have:=HN8.out.1;omega
    have HL8:=hidIt (HLwr.out.ext HB8.out)
    clear RA h6 hrow HN8 HMB hsl hsn hlz
    go_upto_region 21 with fail
    generalize hw9:World.alloc (World.alloc _ _) _=w9
    have HW9:Hid (Below w8.heap.size w8 w9∧Wk w9 w8.heap.size gr n8 cap8 mm 0∧w9.heap[w8.heap.size + 1]?=some (.cells #[.pointer (some ⟨w8.heap.size,0,none⟩)] 78 (0,0))):=by
     unfold Hid
     rw [← hw9]
     refine ⟨ext_alloc (ext_alloc (Below.refl _ _) _) _,(Below.heap_alloc _ _ _ (by simp)).trans (heap_alloc_new _ _),?_⟩
     have e:w8.heap.size + 1=(w8.alloc (.cells #[.slice (some ⟨gr,0,none⟩) n8 cap8,.int .i64 (mm:Nat),.int .i64 (-1),.int .i64 ((0:Nat):Int),.bool false,.bool false] 80)).heap.size:=by simp
     rw [e]
     exact heap_alloc_new _ _
    clear hw9
    have HL9:=hidIt (HL8.out.ext HW9.out.1)
    have AC:=hidIt (allLater2 enc B t w9 HL9.out.b.tz b2 (w8.heap.size + 1) w8.heap.size gr n8 cap8 mm HL9.out.i2 HW9.out.2.2 HW9.out.2.1 (fun k hk=>(HROW.out k hk).same (HW9.out.1.block gr hgl)) HMM.out.symm hmn hn9 hcap1 hcap2 (by omega) (Nat.lt_of_lt_of_le hgl HW9.out.1.size))
    have hge:W.heap.size≤w8.heap.size:=HL8.out.bl.size
    have hlx9:=(Array.getElem?_eq_some_iff.1 HW9.out.2.2).1
    have HTW:=hidIt HW9.out.2.1.typ
    have HBX:=hidIt HW9.out.2.2
    clear HROW HW9 HL8 HB8
    generalize w8.heap.size=q at *
    go_upto_region 22 with (go_at_call 67;refine AC.out.mono ?_;rintro e w10 ⟨⟨ve,rfl⟩,hk1,hk2⟩;have HK1:=hidIt hk1;have HK2:=hidIt hk2;clear hk1 hk2;(try dsimp only))
    have HL10:=hidIt (HL9.out.wlk HK2.out HTW.out hge)
    have cx:w10.cell? ⟨q + 1,0,none⟩=some (.pointer (some ⟨q,0,none⟩)):=by simp [World.cell?,(HK2.out.same (q + 1) hlx9 (by omega)).trans HBX.out]
    have WE:=hidIt (well_any HK1.out)
    clear AC HL9 HBX HTW hlx9
    go_wp2_with (go_at_call 43;refine WE.out.mono ?_;rintro e w11 ⟨rfl,hb⟩;have HB11:=hidIt hb;clear hb;(try dsimp only))
    go_ret
    exact ⟨rfl,(HL10.out.ext HB11.out).bl⟩
end Go.Proofs.YtjomfbegghgbdaaGreat.P
