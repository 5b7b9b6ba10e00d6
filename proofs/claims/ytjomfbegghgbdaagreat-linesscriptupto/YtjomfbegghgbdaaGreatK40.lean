import Derived.Test.YtjomfbegghgbdaaGreatK39
import Derived.ProofKit
import Derived.OpenShut
import Derived.ChangeOld
import Derived.SizedLaws
import Derived.Below
set_option maxRecDepth 100000
namespace Go.Proofs.YtjomfbegghgbdaaGreat.P
open Go.RowKit
theorem Tz.kps {enc:Int} {w w':World} {t:Nat} {A:List Int} {own:Nat→Prop} (h:Tz enc w t A) (hk:Kps own w w') (h1:∀ k,own k→¬ Typ 5 w k∧¬ Typ 163 w k) (h2:¬ own t):Tz enc w' t A:=by
 obtain ⟨L,ps,k1,k2⟩:=h
 obtain ⟨lv,u,q1,q2,q3⟩:=k1.ex
 refine ⟨L,ps,⟨⟨lv,u,(hk.same t (Array.getElem?_eq_some_iff.1 q1).1 h2).trans q1,q2.same ?_,q3.same ?_⟩,k1.pc.same ?_,k1.en,k1.by',k1.ll,k1.l0,k1.lm,k1.sz⟩,k2⟩
 ·exact fun b hb=>hk.same b hb.lt (fun e=>(h1 b e).1 hb)
 ·exact fun b hb=>hk.same b hb.lt (fun e=>(h1 b e).2 hb)
 ·exact fun b hb=>hk.same b hb.lt (fun e=>(h1 b e).1 hb)
theorem OwnI.kps2 {w w':World} {base:Nat} {v:Value} {zs:List Int} {own:Nat→Prop} (h:OwnI w base v zs) (hk:Kps own w w') (h1:∀ k,own k→¬ Typ 3 w k):OwnI w' base v zs:=by
 obtain ⟨k1,h2⟩:=id h
 refine ⟨k1,?_⟩
 rcases h2 with h2 | ⟨k,cap,cur,hv,hb,hgg,r⟩
 ·exact .inl h2
 ·exact .inr ⟨k,cap,cur,hv,hb,(hk.same k (Array.getElem?_eq_some_iff.1 hgg).1 (fun e=>h1 k e ⟨_,hgg⟩)).trans hgg,r⟩
theorem BtW.oth {enc enc':Int} {w w':World} {g t g' t':Nat} {A A':List Int} {m m':Nat} (h:BtW enc w g t A m) (h':BtW enc' w g' t' A' m') (hk:Kps (fun k=>k=g'∨k=t') w w') (h1:g≠g') (h2:t≠t'):BtW enc w' g t A (m + 1):=by
 have a1:=h.typ
 have a2:=h.tz.typ
 have b1:=h'.typ
 have b2:=h'.tz.typ
 obtain ⟨v,q1,q2⟩:=h.ex
 refine ⟨⟨v,(hk.same g h.lt ?_).trans q1,q2.kps2 hk ?_⟩,h.tz.kps hk ?_ ?_,by have:=h.bd;omega,h.en⟩
 ·rintro (e | e)
  ·exact h1 e
  ·subst e;exact absurd (a1.uniq b2) (by decide)
 ·rintro k (rfl | rfl) e
  ·exact absurd (b1.uniq e) (by decide)
  ·exact absurd (b2.uniq e) (by decide)
 ·rintro k (rfl | rfl)
  ·exact ⟨fun e=>absurd (b1.uniq e) (by decide),fun e=>absurd (b1.uniq e) (by decide)⟩
  ·exact ⟨fun e=>absurd (b2.uniq e) (by decide),fun e=>absurd (b2.uniq e) (by decide)⟩
 ·rintro (e | e)
  ·subst e;exact absurd (a2.uniq b1) (by decide)
  ·exact h2 e
def RdO (w:World) (v:Value) (os:List Opv):Prop:=∃ ao cap,v=.slice ao os.length cap∧os.length≤cap∧cap≤9223372036854775807∧(∀ o ∈ os,o.Ok)∧(os≠[]→∃ b off,ao=some ⟨b,off,none⟩∧b < w.heap.size∧∀ i o,os[i]?=some o →
 w.cell? ⟨b,off + i * 5,none⟩=some (.int .i64 o.who)∧w.cell? ⟨b,off + i * 5 + 1,none⟩=some (.int .i64 o.k)∧w.cell? ⟨b,off + i * 5 + 2,none⟩=some (.int .i64 o.a)∧w.cell? ⟨b,off + i * 5 + 3,none⟩=some (.int .i64 o.b)∧∃ pv,w.cell? ⟨b,off + i * 5 + 4,none⟩=some pv∧Rd .i64 w pv o.put)
theorem RdO.ext {w w':World} {v:Value} {os:List Opv} (h:RdO w v os) (hb:Below w.heap.size w w'):RdO w' v os:=by
 obtain ⟨ao,cap,h1,h2,h3,h4,h5⟩:=h
 refine ⟨ao,cap,h1,h2,h3,h4,fun hn=>?_⟩
 obtain ⟨b,o,k1,k2,k3⟩:=h5 hn
 refine ⟨b,o,k1,Nat.lt_of_lt_of_le k2 hb.size,fun i x hx=>?_⟩
 obtain ⟨c0,c1,c2,c3,pv,c4,c5⟩:=k3 i x hx
 exact ⟨(hb.cell (p:=⟨b,_,none⟩) k2).trans c0,(hb.cell (p:=⟨b,_,none⟩) k2).trans c1,(hb.cell (p:=⟨b,_,none⟩) k2).trans c2,(hb.cell (p:=⟨b,_,none⟩) k2).trans c3,pv,(hb.cell (p:=⟨b,_,none⟩) k2).trans c4,c5.ext hb⟩
def Ask (K:Opv→Prop) (lo hi:Int):Prop:=∀ (enc:Int) (w:World) (g t:Nat) (A:List Int) (m:Nat) (o:Opv) (v:Value),BtW enc w g t A m→o.Ok→K o→Rd .i64 w v o.put→(∃ ap np cp,v=.slice ap np cp)→lo≤o.k→o.k≤hi →
 ((o.k=2∨o.k=5∨o.k=6)→Yes 101 w g o v)∧(o.k=3→Yes 102 w g o v)∧(o.k=7→Yes 104 w g o v)∧(o.k=8→Yes 105 w g o v)∧(o.k=9→Yes 106 w g o v)
theorem play_of {K:Opv→Prop} {lo hi enc:Int} {w:World} {g t:Nat} {A:List Int} {m:Nat} {o:Opv} {ap:Option Addr} {np cp:Nat} (q:Ask K lo hi) (h:BtW enc w g t A m) (hm:m≤199) (ho:o.Ok) (hk:K o) (hp:Rd .i64 w (.slice ap np cp) o.put) :
  Calls Tryz.prog 72 #[.pointer (some ⟨g,0,none⟩),o.val (.slice ap np cp),.int .i64 lo,.int .i64 hi] w fun e w'=>e=.returned (.bool true)∧Hid (StO enc w g t m w') :=
 played_any lo hi enc w g t A m o ap np cp h hm ho hp (fun x y=>(q enc w g t A m o _ h ho hk hp ⟨_,_,_,rfl⟩ x y).1) (fun x y=>(q enc w g t A m o _ h ho hk hp ⟨_,_,_,rfl⟩ x y).2.1) (fun x y=>(q enc w g t A m o _ h ho hk hp ⟨_,_,_,rfl⟩ x y).2.2.1) (fun x y=>(q enc w g t A m o _ h ho hk hp ⟨_,_,_,rfl⟩ x y).2.2.2.1) (fun x y=>(q enc w g t A m o _ h ho hk hp ⟨_,_,_,rfl⟩ x y).2.2.2.2)
structure RnI (w:World) (e1 e2:Int) (ga t1 gb t2 i:Nat) (wr:World):Prop where
 a:∃ A,BtW e1 wr ga t1 A i
 b:∃ A,BtW e2 wr gb t2 A i
 ng:ga≠gb
 nt:t1≠t2
 lo:w.heap.size≤ga∧w.heap.size≤t1∧w.heap.size≤gb∧w.heap.size≤t2
 bel:Below w.heap.size w wr
theorem RnI.stepA {w:World} {e1 e2:Int} {ga t1 gb t2 i:Nat} {wr w':World} (h:RnI w e1 e2 ga t1 gb t2 i wr) (hs:StO e1 wr ga t1 i w'):RnI w e1 e2 ga t1 gb t2 (i + 1) w':=by
 obtain ⟨A,ha⟩:=h.a
 obtain ⟨B,hb⟩:=h.b
 refine ⟨hs.1,⟨B,hb.oth ha hs.2 h.ng.symm h.nt.symm⟩,h.ng,h.nt,h.lo,h.bel.trans (hs.2.below h.bel.size fun k hk=>?_)⟩
 rcases hk with rfl | rfl
 ·exact h.lo.1
 ·exact h.lo.2.1
theorem RnI.stepB {w:World} {e1 e2:Int} {ga t1 gb t2 i:Nat} {wr w':World} (h:RnI w e1 e2 ga t1 gb t2 i wr) (hs:StO e2 wr gb t2 i w'):RnI w e1 e2 ga t1 gb t2 (i + 1) w':=by
 obtain ⟨A,ha⟩:=h.a
 obtain ⟨B,hb⟩:=h.b
 refine ⟨⟨A,ha.oth hb hs.2 h.ng h.nt⟩,hs.1,h.ng,h.nt,h.lo,h.bel.trans (hs.2.below h.bel.size fun k hk=>?_)⟩
 rcases hk with rfl | rfl
 ·exact h.lo.2.2.1
 ·exact h.lo.2.2.2
set_option maxHeartbeats 8000000 in
theorem run_any (K:Opv→Prop) (lo hi:Int) (Q:Ask K lo hi) (x1 x2:Int) (ad1 ad2:Option Addr) (nd1 cd1 nd2 cd2:Nat) (D1 D2:List Int) (v:Value) (os:List Opv) (w:World) (hD1:Rd .u8 w (.slice ad1 nd1 cd1) D1) (hB1:Byt D1) (hD2:Rd .u8 w (.slice ad2 nd2 cd2) D2) (hB2:Byt D2) (hO:RdO w v os) (hK:∀ o ∈ os,K o) :
  Calls Tryz.prog 49 #[.agg #[.int .i64 x1,.slice ad1 nd1 cd1],.agg #[.int .i64 x2,.slice ad2 nd2 cd2],v,.int .i64 lo,.int .i64 hi] w fun e w'=>e=.returned (.bool true)∧Below w.heap.size w w':=by
 obtain ⟨ao,cap,rfl,ho1,ho2,ho3,ho4⟩:=id hO
 have HO:=zh hO
 have HKS:=zh hK
 obtain ⟨w0,hw0⟩:∃ w0,w0=(w.alloc (.cells #[.int .i64 x1,.slice ad1 nd1 cd1] 24)).alloc (.cells #[.int .i64 x2,.slice ad2 nd2 cd2] 24):=⟨_,rfl⟩
 have HS0:Hid (w0.heap[w.heap.size]?=some (.cells #[.int .i64 x1,.slice ad1 nd1 cd1] 24 (0,0))∧w0.heap[w.heap.size + 1]?=some (.cells #[.int .i64 x2,.slice ad2 nd2 cd2] 24 (0,0))∧Below w.heap.size w w0∧w0.heap.size=w.heap.size + 2):=by
  obtain ⟨v1,hv1⟩:∃ v,v=w.alloc (.cells #[.int .i64 x1,.slice ad1 nd1 cd1] 24):=⟨_,rfl⟩
  rw [← hv1] at hw0
  have s1:v1.heap.size=w.heap.size + 1:=by rw [hv1];simp
  have b1:Below w.heap.size w v1:=by rw [hv1];exact zxa (Below.refl _ _) _
  have b2:Below v1.heap.size v1 w0:=by rw [hw0];exact zxa (Below.refl _ _) _
  refine ⟨(b2.block _ (by omega)).trans (by rw [hv1];exact heap_alloc_new _ _),?_,zxt b1 b2,by rw [hw0];simp [s1]⟩
  rw [← s1,hw0];exact heap_alloc_new _ _
 have HB0:=zh HS0.out.2.2.1
 have O1:=zh (opened_any x1 (.slice ad1 nd1 cd1) D1 w0 (hD1.ext HB0.out) hB1)
 have O2:Hid (∀ w',Below w.heap.size w w'→Calls Tryz.prog 18 #[.agg #[.int .i64 x2,.slice ad2 nd2 cd2]] w' fun e w''=>∃ t v,e=.returned (.tuple #[.agg #[.pointer (some ⟨t,0,none⟩),v],.bool true])∧Hid (OpO w' t v w'')∧Below w'.heap.size w' w''):=fun w' hb=>opened_any x2 (.slice ad2 nd2 cd2) D2 w' (hD2.ext hb) hB2
 obtain ⟨_,c0,c1,_⟩:=cells2 HS0.out.1
 clear hD1 hD2 hB1 hB2 hO ho3 ho4 hK
 go_enter Tryz.func49,Tryz.ntmps49
 go_upto_region 1 with fail
 rw [← hw0]
 clear hw0
 go_upto_region 2 with (go_at_call 18;refine O1.out.mono ?_;rintro e w1 ⟨t1,v1,rfl,hop,hb⟩;obtain ⟨enc1,A1,hen,hoi,htz,hln,hle⟩:=hop.out;obtain ⟨a1,k1,hv⟩:=hoi.form;generalize hnn:A1.length=n1 at hv;clear hnn;subst hv;have HP1:=zh (And.intro hen (And.intro hoi (And.intro htz (And.intro hln hle))));have HB1:=zh hb;clear hop hb hen hoi htz hln hle;(try dsimp only))
 generalize hw2:World.alloc _ _=w2
 have HK2:Hid (w2.heap[w1.heap.size]?=some (.cells #[.pointer (some ⟨t1,0,none⟩),.slice a1 n1 k1] 29 (0,0))∧Below w1.heap.size w1 w2):=by unfold Hid;rw [← hw2];exact ⟨heap_alloc_new _ _,zxa (Below.refl _ _) _⟩
 have HZ2:=zh (show w2.heap.size=w1.heap.size + 1 by rw [← hw2];simp)
 clear hw2 c0 c1
 have HT1:Hid (BtW enc1 w2 w1.heap.size t1 A1 0):=⟨⟨_,HK2.out.1,(HP1.out.2.1.ext HK2.out.2).le (Nat.zero_le _)⟩,HP1.out.2.2.1.ext HK2.out.2,by have:=HP1.out.2.2.2.1;omega,HP1.out.1⟩
 have hlen:=HT1.out.tz.len
 have HW2:=zh (zxt HB0.out (zxt HB1.out HK2.out.2))
 have CN:Hid (∀ w',Below w2.heap.size w2 w'→Calls Tryz.prog 19 #[.pointer (some ⟨t1,0,none⟩)] w' fun e w''=>e=.returned (.int .i64 (cnt enc1 A1))∧Below w'.heap.size w' w''):=fun w' hb=>Count_z enc1 w' t1 A1 (HT1.out.tz.ext hb)
 have RC:Hid (∀ w',Below w2.heap.size w2 w'→Calls Tryz.prog 71 #[.slice a1 n1 k1] w' fun e w''=>e=.returned (.int .i64 (cnt enc1 A1))∧Below w'.heap.size w' w''):=fun w' hb=>rCount_any enc1 _ A1 w' ((HP1.out.2.1.ext HK2.out.2).ext hb).rdi hlen
 have HS:Hid (∀ w',Below w2.heap.size w2 w'→w'.cell? ⟨w1.heap.size,0,none⟩=some (.pointer (some ⟨t1,0,none⟩))∧w'.cell? ⟨w1.heap.size,1,none⟩=some (.slice a1 n1 k1)):=fun w' hb=>⟨(hb.cell (p:=⟨w1.heap.size,0,none⟩) HT1.out.lt).trans (cells2 HK2.out.1).2.1,(hb.cell (p:=⟨w1.heap.size,1,none⟩) HT1.out.lt).trans (cells2 HK2.out.1).2.2.1⟩
 have ks:=HS.out w2 (Below.refl _ _)
 generalize cnt enc1 A1=z at *
 refine wp_region_held_drew (S:=fun w''=>w''.cell? ⟨w1.heap.size,0,none⟩=some (.pointer (some ⟨t1,0,none⟩))∧w''.cell? ⟨w1.heap.size,1,none⟩=some (.slice a1 n1 k1)) (by kernel_rfl) (ks) (fun hHeld=>?_)
 refine tkH 0 rfl ?_
 refine tkH 1 rfl ?_
 refine tkH 2 rfl ?_
 refine tkH 3 rfl ?_
 refine tkH 4 rfl ?_
 refine tkH 6 rfl ?_
 refine tkH 7 rfl ?_
 refine rdH 5 rfl fun K hK=>?_
 go_simp
 refine (CN.out _ (Below.drew (Below.refl _ _))).mono ?_;clear ks;rintro e y2 ⟨rfl,hb⟩;have Hy2:=zh (zxt (Below.drew (Below.refl w2.heap.size w2)) hb);clear hb;have ks:=HS.out y2 Hy2.out;try dsimp only
 refine hK.out _ _ ?_ (fun hHeld=>?_)
 ·(try simp only [World.cell?_drew]);exact ks
 clear hK K
 try simp only [Act.put,tS]
 refine rdH 8 rfl fun K hK=>?_
 go_simp
 refine (RC.out _ Hy2.out).mono ?_;clear ks;rintro e y3 ⟨rfl,hb⟩;have Hy3:=zh (zxt Hy2.out hb);clear hb;have ks:=HS.out y3 Hy3.out;try dsimp only
 refine hK.out _ _ ?_ (fun hHeld=>?_)
 ·(try simp only [World.cell?_drew]);exact ks
 clear hK K
 try simp only [Act.put,tS]
 refine tkH 9 rfl ?_
 refine tkH 10 rfl ?_
 refine dnH ?_
 have HY:=zh (zxt HW2.out Hy3.out)
 obtain ⟨_,c0,c1,_⟩:=cells2 (((zxt HB1.out (zxt HK2.out.2 Hy3.out)).block _ (Array.getElem?_eq_some_iff.1 HS0.out.2.1).1).trans HS0.out.2.1)
 have O2':=zh (O2.out y3 HY.out)
 clear ks hHeld
 go_upto_region 5 with (go_at_call 18;refine O2'.out.mono ?_;rintro e w4 ⟨t2,v2,rfl,hop,hb⟩;obtain ⟨enc2,A2,hen,hoi,htz,hln,hle⟩:=hop.out;obtain ⟨a2,k2,hv⟩:=hoi.form;generalize hnn:A2.length=n2 at hv;clear hnn;subst hv;have HP2:=zh (And.intro hen (And.intro hoi (And.intro htz (And.intro hln hle))));have HB2:=zh hb;clear hop hb hen hoi htz hln hle;(try dsimp only))
 generalize hw5:World.alloc _ _=w5
 have HK5:Hid (w5.heap[w4.heap.size]?=some (.cells #[.pointer (some ⟨t2,0,none⟩),.slice a2 n2 k2] 29 (0,0))∧Below w4.heap.size w4 w5):=by unfold Hid;rw [← hw5];exact ⟨heap_alloc_new _ _,zxa (Below.refl _ _) _⟩
 clear hw5 c0 c1
 have HT2:Hid (BtW enc2 w5 w4.heap.size t2 A2 0):=⟨⟨_,HK5.out.1,(HP2.out.2.1.ext HK5.out.2).le (Nat.zero_le _)⟩,HP2.out.2.2.1.ext HK5.out.2,by have:=HP2.out.2.2.2.1;omega,HP2.out.1⟩
 have HI0:Hid (RnI w enc1 enc2 w1.heap.size t1 w4.heap.size t2 0 w5):=by
  have r1:Below w2.heap.size w2 w5:=zxt Hy3.out (zxt HB2.out HK5.out.2)
  have s1:=HZ2.out
  have s2:=Hy3.out.size
  have s3:=HB2.out.size
  have s4:=HT1.out.tz.lt
  have s5:=HP2.out.2.2.2.2
  have s6:=HP1.out.2.2.2.2
  have s7:=HB0.out.size
  have s8:=HB1.out.size
  exact ⟨⟨_,HT1.out.ext r1⟩,⟨_,HT2.out⟩,by omega,by omega,⟨by omega,by omega,by omega,by omega⟩,zxt HW2.out r1⟩
 generalize w1.heap.size=ga at *
 generalize w4.heap.size=gb at *
 clear HT2 HK5 HP2 HB2 O2' O2 HY Hy3 Hy2 HS RC CN HW2 HT1 HZ2 HK2 HP1 HB1 O1 HB0 HS0 hlen
 go_wp2_with fail
 go_loopg [12,14] 200 (fun gk kv p wr=>∃ i:Nat,i + gk=200∧p=.int .i64 (i:Nat)∧kv=.bool true∧Hid (RnI w enc1 enc2 ga t1 gb t2 i wr))
 case atStart=>exact ⟨0,by omega,rfl,rfl,HI0.out⟩
 case round =>
  obtain ⟨i,hig,rfl,rfl,HI⟩:=hrel
  by_cases hlt:i < os.length
  ·have hltI:(i:Int) < (os.length:Int):=by omega
   by_cases h200:(i:Int) < 200
   ·obtain ⟨ao',cap',e1,_,_,hok,r5⟩:=HO.out.ext HI.out.bel
    simp only [Value.slice.injEq,true_and] at e1
    obtain ⟨rfl,rfl⟩:=e1
    obtain ⟨b,off,rfl,hbl,hc⟩:=r5 (by intro e;subst e;simp at hlt)
    obtain ⟨o,ho⟩:∃ o,os[i]?=some o:=⟨_,List.getElem?_eq_getElem hlt⟩
    have HOK:=zh (hok o (List.mem_of_getElem? ho))
    have HKO:=zh (HKS.out o (List.mem_of_getElem? ho))
    obtain ⟨c0,c1,c2,c3,pv,c4,hr⟩:=hc i o ho
    obtain ⟨ap,cp,hpv,_⟩:=id hr
    generalize hnp:o.put.length=np at hpv
    clear hnp
    subst hpv
    have HR:=zh hr
    have h199:i≤199:=by omega
    clear hc hok r5 ho hr
    by_cases hw:o.who=0
    ·obtain ⟨A,ha⟩:=HI.out.a
     have PA:Hid (Calls Tryz.prog 72 #[.pointer (some ⟨ga,0,none⟩),.agg #[.int .i64 o.who,.int .i64 o.k,.int .i64 o.a,.int .i64 o.b,.slice ap np cp],.int .i64 lo,.int .i64 hi] wr fun e w'=>e=.returned (.bool true)∧Hid (StO enc1 wr ga t1 i w')):=play_of Q ha h199 HOK.out HKO.out HR.out
     rw [hw] at PA
     clear ha
     go_wp2_with (go_at_call 72;refine PA.out.mono ?_;rintro e w9 ⟨rfl,hst⟩;have HN:=zh (HI.out.stepA hst.out);clear hst;(try dsimp only))
     go_roundg (200 - (i + 1))
     case rel=>exact ⟨i + 1,by omega,by go_num,rfl,HN.out⟩
     case measure=>omega
    ·have hwb:(o.who == 0)=false:=by simp [hw]
     obtain ⟨A,ha⟩:=HI.out.b
     have PA:Hid (Calls Tryz.prog 72 #[.pointer (some ⟨gb,0,none⟩),.agg #[.int .i64 o.who,.int .i64 o.k,.int .i64 o.a,.int .i64 o.b,.slice ap np cp],.int .i64 lo,.int .i64 hi] wr fun e w'=>e=.returned (.bool true)∧Hid (StO enc2 wr gb t2 i w')):=play_of Q ha h199 HOK.out HKO.out HR.out
     clear ha
     go_wp2_with (go_at_call 72;refine PA.out.mono ?_;rintro e w9 ⟨rfl,hst⟩;have HN:=zh (HI.out.stepB hst.out);clear hst;(try dsimp only))
     go_roundg (200 - (i + 1))
     case rel=>exact ⟨i + 1,by omega,by go_num,rfl,HN.out⟩
     case measure=>omega
   ·go_wp2_with fail
    go_ret
    exact ⟨rfl,HI.out.bel⟩
  ·have hnl:¬ (i:Int) < (os.length:Int):=by omega
   go_wp2_with fail
   go_ret
   exact ⟨rfl,HI.out.bel⟩
end Go.Proofs.YtjomfbegghgbdaaGreat.P
namespace Go.Proofs.YtjomfbegghgbdaaGreat
open Go.ChangeShapes Go.WideShapes Go.ChangeAt Go.RowKit
theorem ownK:ownKnob Tryz.prog.godebug=none:=by kernel_rfl
theorem laidOutK:laidOutB Tryz.prog=true:=by kernel_rfl
theorem rd_of {H:Type} {enc:TypeId × Value→H} {W:World} {t e:TypeId} {k:IntKind} {a0:Option Addr} {len0 cap0:Nat} {d:DataW H} {p:List MemPlace}
  (ht:Tryz.prog.underlying t=some (.slice e)) (he:Tryz.prog.underlying e=some (.int k)) (hc:Tryz.prog.cellsOf e=1)
  (h:DataW.Trod enc Tryz.prog W 0 (fun _=>true) true t (.slice a0 len0 cap0) d p) :
  ∃ zs,Rd k W (.slice a0 len0 cap0) zs∧(∀ n ∈ zs,(Lit.int k n).wf=true)∧(zs=[]∨∃ el sp,d=.slice el sp∧el.length=zs.length):=by
 obtain ⟨fuel,hf⟩:=h
 rcases open_ints ht he hc hf with ⟨hcs,_⟩ | ⟨x,l,c,zs,hcs,_,hl,hm,hz,hx,hcell,hwz⟩
 ·simp [Value.cells] at hcs
  obtain ⟨rfl,rfl,rfl⟩:=hcs
  exact ⟨[],⟨none,0,rfl,Nat.le_refl _,by simp [maxLen],fun h=>absurd rfl h⟩,by simp,.inl rfl⟩
 ·simp [Value.cells] at hcs
  obtain ⟨rfl,rfl,rfl⟩:=hcs
  simp at hz
  have hlen:(zs.take len0).length=len0:=by rw [List.length_take];omega
  refine ⟨zs.take len0,⟨some x,cap0,by rw [hlen],by omega,hm,fun hn=>?_⟩,fun n hn=>hwz n (List.mem_of_mem_take hn),.inr ⟨_,_,(Prod.mk.inj hx).1,by simp [lits]⟩⟩
  have hpos:0 < len0:=by
   rcases Nat.eq_zero_or_pos len0 with h | h
   ·subst h;simp at hn
   ·exact h
  obtain ⟨b,off,spot⟩:=x
  have hc0:=hcell 0 (by omega)
  have hspot:spot=none:=by simpa [Addr.add] using World.cell?_spot hc0
  subst hspot
  refine ⟨b,off,rfl,World.block_lt_of_cell? W _ (by simpa [Addr.add] using hc0),fun i hi=>?_⟩
  rw [hlen] at hi
  have:=hcell i (by omega)
  rw [Addr.add_lit] at this
  rw [this,List.getElem?_take,if_pos hi]
  simp [List.getD]
theorem byt_of {zs:List Int} (h:∀ n ∈ zs,(Lit.int .u8 n).wf=true):Byt zs:=by
 intro z hz
 have:=bounds_u8 (h z hz)
 omega
end Go.Proofs.YtjomfbegghgbdaaGreat
namespace Go.Proofs.YtjomfbegghgbdaaGreat
open Go.ChangeShapes Go.WideShapes Go.ChangeAt Go.RowKit
theorem cSl:Tryz.prog.cellsOf 27=1:=by kernel_rfl
theorem cSb:Tryz.prog.cellsOf 22=1:=by kernel_rfl
theorem cIn:Tryz.prog.cellsOf 3=1:=by kernel_rfl
theorem cOp:Tryz.prog.cellsOf 38=5:=by kernel_rfl
theorem cSt:Tryz.prog.cellsOf 24=2:=by kernel_rfl
theorem inner_of {H:Type} {enc:TypeId × Value→H} {W:World} {fuel:Nat} {c:Value} {d:DataW H} {p:List MemPlace}
  (h:DataW.trod enc Tryz.prog W 0 (fun _=>true) true fuel 27 [c]=some (d,p)) :
  ∃ ao cap zs,c=.slice ao zs.length cap∧Rd .i64 W (.slice ao zs.length cap) zs∧(zs=[]∨∃ el sp,d=.slice el sp∧el.length=zs.length):=by
 have hs:∃ ao len cap,c=.slice ao len cap:=by
  rcases DataW.trod_slice Tryz.underlying27 h with ⟨hcs,_⟩ | ⟨x,l,k,elems,rest,n,_,hcs,_⟩
  ·exact ⟨none,0,0,by simpa using hcs⟩
  ·exact ⟨some x,l,k,by simpa using hcs⟩
 obtain ⟨ao,len,cap,rfl⟩:=hs
 obtain ⟨zs,hr,_,hd⟩:=rd_of (enc:=enc) (d:=d) (p:=p) Tryz.underlying27 Tryz.underlying3 (by kernel_rfl) ⟨fuel,by simpa [Value.cells] using h⟩
 obtain ⟨ao',cap',hv,r1,r2,r3⟩:=id hr
 simp only [Value.slice.injEq] at hv
 obtain ⟨rfl,rfl,rfl⟩:=hv
 exact ⟨ao,cap,zs,rfl,hr,hd⟩
theorem start_of {H:Type} {enc:TypeId × Value→H} {W:World} {base:Nat} {v:Value} {d:DataW H} {p:List MemPlace} (hv:Value.okWide Tryz.prog W .any base 24 v)
  (h:DataW.Trod enc Tryz.prog W 0 (fun _=>true) true 24 v d p):∃ x ad nd cd D,v=.agg #[.int .i64 x,.slice ad nd cd]∧Rd .u8 W (.slice ad nd cd) D∧Byt D:=by
 obtain ⟨cs,rfl,hs⟩:=okWide_struct Tryz.underlying24 hv
 obtain ⟨fuel,hf⟩:=h
 have hc:(Value.agg cs).cells=cs:=by simp [Value.cells]
 rw [hc] at hf
 obtain ⟨xs,n,rfl,hx,hl,hxl,hall⟩:=DataW.trod_struct Tryz.underlying24 hf
 match xs,hxl with
 | [x0,x1],_ =>
   obtain ⟨k0,e0,r0,w0⟩:=DataW.trod_int Tryz.underlying3 (hall 0 _ rfl)
   have h1:=hall 1 _ rfl
   have e0':(cs.toList.drop 0).take (Tryz.prog.cellsOf 3)=[.int .i64 k0]:=e0
   have h1':DataW.trod enc Tryz.prog W 0 (fun _=>true) true n 22 ((cs.toList.drop 1).take (Tryz.prog.cellsOf 22))=some x1:=h1
   rw [cSt] at hl
   rw [cIn] at e0'
   rw [cSb] at h1'
   obtain ⟨l⟩:=cs
   match l,hl with
   | [c0,c1],_ =>
     simp at e0'
     subst e0'
     simp only [List.drop_succ_cons,List.drop_zero,List.take_succ_cons,List.take_zero] at h1'
     have hsl:∃ ao len cap,c1=.slice ao len cap:=by
      rcases DataW.trod_slice Tryz.underlying22 h1' with ⟨hcs,_⟩ | ⟨x,l,k,elems,rest,n,_,hcs,_⟩
      ·exact ⟨none,0,0,by simpa using hcs⟩
      ·exact ⟨some x,l,k,by simpa using hcs⟩
     obtain ⟨ao,len,cap,rfl⟩:=hsl
     obtain ⟨zs,hr,hw,_⟩:=rd_of (enc:=enc) (d:=x1.1) (p:=x1.2) Tryz.underlying22 Tryz.underlying5 (by kernel_rfl) ⟨n,by simpa [Value.cells] using h1'⟩
     exact ⟨k0,ao,len,cap,zs,rfl,hr,byt_of hw⟩
structure OpAt (w:World) (f:Nat→Option Value) (o:P.Opv):Prop where
 c0:f 0=some (.int .i64 o.who)
 c1:f 1=some (.int .i64 o.k)
 c2:f 2=some (.int .i64 o.a)
 c3:f 3=some (.int .i64 o.b)
 c4:∃ pv,f 4=some pv∧Rd .i64 w pv o.put
 ok:o.Ok
end Go.Proofs.YtjomfbegghgbdaaGreat
