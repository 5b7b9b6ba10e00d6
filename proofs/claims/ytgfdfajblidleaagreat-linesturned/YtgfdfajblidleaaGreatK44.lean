import Derived.Test.YtgfdfajblidleaaGreatK42
import Derived.Test.YtgfdfajblidleaaGreatK43
set_option maxRecDepth 100000
namespace Go.Proofs.YtgfdfajblidleaaGreat.P
open Go.RowKit
theorem nf_allT (p:Value) (w:World):(binOp BinOp.eql 66 (.func (.func 43) #[] #[p]) .nilFunc).run Tryz.prog w=.ok (.bool false) w:=by kernel_rfl
theorem sub_moreT (A:List Int):sub A 0 ((A.length:Nat) + 1)=A:=by
 unfold sub clp
 by_cases h0:A.length=0
 ·obtain rfl:=List.length_eq_zero_iff.1 h0
  simp
 ·rw [if_neg (by omega)]
  simp only
  rw [show (max (0:Int) 0).toNat=0 by omega,show (min (((A.length:Nat):Int) + 1) (A.length:Int)).toNat - 0=A.length by omega,List.drop_zero,List.take_length]
theorem BtW.typd {enc:Int} {w w':World} {g t:Nat} {A:List Int} {m:Nat} {own:Nat→Prop} {Y:TypeId} (h:BtW enc w g t A m) (hk:Kps own w w') (hn:∀ j,own j→Typ Y w j) (n1:Y≠29) (n2:Y≠115) (n3:Y≠5) (n4:Y≠144) (n5:Y≠3):BtW enc w' g t A m:=by
 obtain ⟨v,hv1,hv2⟩:=h.ex
 exact ⟨⟨v,(hk.same g h.lt (fun e=>n1 ((hn _ e).uniq h.typ))).trans hv1,hv2.kps2 hk (fun j e q=>n5 ((hn _ e).uniq q))⟩,h.tz.kps hk (fun j e=>⟨fun q=>n3 ((hn _ e).uniq q),fun q=>n4 ((hn _ e).uniq q)⟩) (fun e=>n2 ((hn _ e).uniq h.tz.typ)),h.bd,h.en⟩
theorem OwnL.typT {w:World} {B:Nat} {v:Value} {xs:List Ln} (h:OwnL w B v xs) {k:Nat} (hk:v.ownBlock=some k):Typ 69 w k:=by
 rcases h.2 with ⟨rfl,_⟩ | ⟨g,cap,cur,rfl,hb,hg,_⟩
 ·cases hk
 ·cases hk;exact ⟨_,hg⟩
theorem OwnI.blkT {w:World} {B:Nat} {v:Value} {zs:List Int} (h:OwnI w B v zs) (k:Nat) (hk:v.ownBlock=some k):B≤k∧k < w.heap.size:=World.ownsRow.lt h k hk
set_option maxHeartbeats 16000000 in
theorem lturned_any (x0 at0:Int) (ad:Option Addr) (nd cd:Nat) (D:List Int) (v:Value) (os:List Opv) (W:World) (hat:-9223372036854775808≤at0∧at0≤9223372036854775807) (hD:Rd .u8 W (.slice ad nd cd) D) (hB:Byt D) (hO:RdO W v os) :
  Calls Tryz.prog 4 #[.agg #[.int .i64 x0,.slice ad nd cd],.int .i64 at0,v] W fun e W'=>e=.returned (.bool true)∧Below W.heap.size W W':=by
 have HOS:=zh hO
 obtain ⟨ao,cap,rfl,ho1,ho2,hok,_⟩:=hO
 obtain ⟨w0,hw0,hba,hbs,hb0⟩:∃ w0,w0=((W.alloc (.cells #[.int .i64 x0,.slice ad nd cd] 24)).alloc (.cells #[.int .i64 at0] 3)).alloc (.cells #[.slice ao os.length cap] 25)∧w0.heap[W.heap.size + 1]?=some (.cells #[.int .i64 at0] 3 (0,0))∧w0.heap[W.heap.size + 1 + 1]?=some (.cells #[.slice ao os.length cap] 25 (0,0))∧Below W.heap.size W w0:=by
  have e1:(W.alloc (.cells #[.int .i64 x0,.slice ad nd cd] 24)).heap.size=W.heap.size + 1:=by simp
  have e2:((W.alloc (.cells #[.int .i64 x0,.slice ad nd cd] 24)).alloc (.cells #[.int .i64 at0] 3)).heap.size=W.heap.size + 1 + 1:=by simp
  refine ⟨_,rfl,?_,?_,zxa (zxa (zxa (Below.refl _ _) _) _) _⟩
  ·refine (heap_alloc_old _ _ (by simp)).trans ?_
   rw [← e1]
   exact heap_alloc_new _ _
  ·rw [← e2]
   exact heap_alloc_new _ _
 have OP:=zh (opened_any x0 (.slice ad nd cd) D w0 (hD.ext hb0) hB)
 rw [hw0] at OP
 have HBA:=zh hba
 have HBS:=zh hbs
 have HB0:=zh hb0
 have HW0:=zh hw0
 have HAT:=zh hat
 clear hw0 hb0 hD hB hok hba hbs hat
 go_enter Tryz.func4,Tryz.ntmps4
 go_upto_region 2 with (go_at_call 5;refine OP.out.mono ?_;rintro e w1 ⟨t,v,rfl,ho,hb⟩;obtain ⟨enc,A,hen,hov,htz,hln,htw⟩:=ho.out;obtain ⟨av,cv,rfl⟩:=hov.form;have HTZ:=zh htz;have HOV:=zh hov;have HEN:=zh hen;have HLN:=zh hln;have HTW:=zh htw;have HB1:=zh hb;have hlA:=htz.len;clear ho hb hen hov htz hln htw;(try dsimp only))
 rw [← HW0.out] at HTW HB1
 generalize hw2:World.alloc _ _=w2
 have HB2:Hid (Below w1.heap.size w1 w2∧w2.heap[w1.heap.size]?=some (.cells #[.pointer (some ⟨t,0,none⟩),.slice av A.length cv] 29 (0,0))):=by unfold Hid;rw [← hw2];exact ⟨zxa (Below.refl _ _) _,heap_alloc_new _ _⟩
 have h1:Hid (Below W.heap.size W w1):=HB0.out.trans (HB1.out.mono HB0.out.size)
 have HBT:Hid (BtW enc w2 w1.heap.size t A 0∧Below W.heap.size W w2∧W.heap.size≤w1.heap.size∧W.heap.size≤t∧OwnI w2 0 (.slice av A.length cv) A∧w2.heap[w1.heap.size]?=some (.cells #[.pointer (some ⟨t,0,none⟩),.slice av A.length cv] 29 (0,0))):=⟨⟨⟨_,HB2.out.2,(HOV.out.le (Nat.zero_le _)).ext HB2.out.1⟩,HTZ.out.ext HB2.out.1,by have:=HLN.out;omega,HEN.out⟩,h1.out.trans (HB2.out.1.mono h1.out.size),h1.out.size,Nat.le_trans HB0.out.size HTW.out,(HOV.out.le (Nat.zero_le _)).ext HB2.out.1,HB2.out.2⟩
 have HOL:Hid (∀ j,(Value.slice av A.length cv).ownBlock=some j→j < w1.heap.size):=fun j e=>(HOV.out.blkT j e).2
 have HNB0:Hid (∀ j,(Value.slice av A.length cv).ownBlock=some j→w0.heap.size≤j):=fun j e=>by have h:=(HOV.out.blkT j e).1;rw [HW0.out];exact h
 have HNB:Hid (∀ j,(Value.slice av A.length cv).ownBlock=some j→W.heap.size + 1 < j):=fun j e=>Nat.lt_of_lt_of_le (Array.getElem?_eq_some_iff.1 HBA.out).1 (HNB0.out j e)
 have HB12:Hid (Below w0.heap.size w0 w2):=zxt HB1.out HB2.out.1
 have HA2:Hid (w2.heap[W.heap.size + 1]?=some (.cells #[.int .i64 at0] 3 (0,0))):=(HB12.out.block _ (Array.getElem?_eq_some_iff.1 HBA.out).1).trans HBA.out
 have HS2:Hid (w2.heap[W.heap.size + 1 + 1]?=some (.cells #[.slice ao os.length cap] 25 (0,0))):=(HB12.out.block _ (Array.getElem?_eq_some_iff.1 HBS.out).1).trans HBS.out
 have HLT:Hid (W.heap.size + 1 < w1.heap.size):=Nat.lt_of_lt_of_le (Array.getElem?_eq_some_iff.1 HBA.out).1 HB1.out.size
 have s0:w2.cell? ⟨w1.heap.size,0,none⟩=some (.pointer (some ⟨t,0,none⟩)):=(cells2 HB2.out.2).2.1
 have s1:w2.cell? ⟨w1.heap.size,1,none⟩=some (.slice av A.length cv):=(cells2 HB2.out.2).2.2.1
 clear hw2 OP HTZ HTW HB1 HW0 HB0 HOV HLN HEN h1 HB2 HB12 HBA HBS HNB0
 generalize w1.heap.size=bo at *
 obtain ⟨ba,hba⟩:∃ ba,ba=W.heap.size + 1:=⟨_,rfl⟩
 obtain ⟨bs,hbs⟩:∃ bs,bs=W.heap.size + 1 + 1:=⟨_,rfl⟩
 rw [← hbs] at HS2
 rw [← hba] at HA2 HLT HNB
 rw [show W.heap.size + 1 + 1=bs from hbs.symm,show W.heap.size + 1=ba from hba.symm]
 have HBAe:=zh hba
 have HBSe:=zh hbs
 clear hba hbs w0 w1
 have CN:=zh (Count_z enc w2 t A HBT.out.1.tz)
 have hcp:¬ cnt enc A < 1:=by have:=spn_nn enc A;rw [cnt_tail];split <;> omega
 obtain ⟨cn,hcn⟩:∃ cn,cn=cnt enc A:=⟨_,rfl⟩
 rw [← hcn] at CN hcp
 have HCN:=zh hcn
 clear hcn
 go_upto_region 4 with (go_at_call 6;refine CN.out.mono ?_;rintro e w3 ⟨rfl,hb⟩;have HB3:=zh hb;clear hb;(try dsimp only))
 have hcp2:1≤cn:=by omega
 clear s0 s1 CN hcp
 have HBT3:Hid (BtW enc w3 bo t A 0∧Below W.heap.size W w3∧OwnI w3 0 (.slice av A.length cv) A∧w3.heap[bo]?=some (.cells #[.pointer (some ⟨t,0,none⟩),.slice av A.length cv] 29 (0,0))∧w3.heap[ba]?=some (.cells #[.int .i64 at0] 3 (0,0))∧w3.heap[bs]?=some (.cells #[.slice ao os.length cap] 25 (0,0))):=⟨HBT.out.1.ext HB3.out,HBT.out.2.1.trans (HB3.out.mono HBT.out.2.1.size),HBT.out.2.2.2.2.1.ext HB3.out,(HB3.out.block _ HBT.out.1.lt).trans HBT.out.2.2.2.2.2,(HB3.out.block _ (Array.getElem?_eq_some_iff.1 HA2.out).1).trans HA2.out,(HB3.out.block _ (Array.getElem?_eq_some_iff.1 HS2.out).1).trans HS2.out⟩
 have HLO:Hid (W.heap.size≤bo∧W.heap.size≤t):=⟨HBT.out.2.2.1,HBT.out.2.2.2.1⟩
 have s0:w3.cell? ⟨bo,0,none⟩=some (.pointer (some ⟨t,0,none⟩)):=(cells2 HBT3.out.2.2.2.1).2.1
 have s1:w3.cell? ⟨bo,1,none⟩=some (.slice av A.length cv):=(cells2 HBT3.out.2.2.2.1).2.2.1
 clear HBT HA2 HS2 HB3
 have RA:=zh (rAll_any enc (.slice av A.length cv) A w3 HBT3.out.2.2.1.rdi hlA)
 obtain ⟨mm,hmm,hmB⟩:∃ mm:Nat,cnt enc A=mm∧(mm:Int)≤(spn enc A).b + 1:=⟨(cnt enc A).toNat,by have:=spn_nn enc A;unfold cnt;split <;> omega,by have:=spn_nn enc A;unfold cnt;split <;> omega⟩
 rw [hmm] at RA
 have HMM:=zh hmm
 have HMB:=zh hmB
 have HSL:=zh (spn_len enc A)
 have HSN:=zh (spn_nn enc A)
 have HM1:Hid (1≤mm):=by have:=HCN.out;unfold Hid;omega
 clear hmm hmB hcp2
 go_upto_region 5 with (go_at_call 21;refine RA.out.mono ?_;rintro e w4 ⟨ao8,n8,cap8,rfl,hn,hb⟩;have HB4:=zh hb;have HN8:=zh hn.out;clear hn hb;(try dsimp only))
 have hrd:=HN8.out.2.rd
 obtain ⟨ao',cap',hv',hcap1,hcap2,h6⟩:=hrd
 rw [lns_len] at hv' hcap1
 simp only [Value.slice.injEq,true_and] at hv'
 obtain ⟨rfl,rfl⟩:=hv'
 obtain ⟨gr,hgr,hgl,hrow⟩:=h6 (by intro e;have e1:=congrArg List.length e;rw [lns_len] at e1;have e2:=HN8.out.1;have e4:n8=0:=e1;have:=HSN.out;omega)
 subst hgr
 have HROW:Hid (∀ k,k < mm→Rw4 w4 gr k (lnK enc A (k:Nat))):=fun k hk=>hrow k _ (lns_at enc A n8 k (by have:=HN8.out.1;have:=HMB.out;omega))
 have HMN:Hid (mm≤n8∧n8≤65537):=by have h1:=HN8.out.1;have h2:=HMB.out;have h3:=HSL.out;have h4:=HSN.out;unfold Hid;omega
 have HRT:Hid (Typ 69 w4 gr):=HN8.out.2.typT rfl
 generalize hw5:World.alloc _ _=w5
 have HB5:Hid (Below w3.heap.size w3 w5∧w5.heap[w4.heap.size]?=some (.cells #[.slice (some ⟨gr,0,none⟩) n8 cap8] 62 (0,0))∧Below w4.heap.size w4 w5∧w3.heap.size≤w4.heap.size):=by unfold Hid;rw [← hw5];exact ⟨zxa HB4.out _,heap_alloc_new _ _,zxa (Below.refl _ _) _,HB4.out.size⟩
 have HRW5:Hid ((∀ k,k < mm→Rw4 w5 gr k (lnK enc A (k:Nat)))∧Typ 69 w5 gr):=⟨fun k hk=>(HROW.out k hk).same (HB5.out.2.2.1.block gr hgl),by obtain ⟨cs,h⟩:=HRT.out;exact ⟨cs,(HB5.out.2.2.1.block gr hgl).trans h⟩⟩
 clear hw5 RA h6 hrow HN8 HROW HRT hgl HB4 s0 s1
 generalize w4.heap.size=bw at *
 have H5:Hid (BtW enc w5 bo t A 0∧Below W.heap.size W w5∧OwnI w5 0 (.slice av A.length cv) A∧w5.heap[bo]?=some (.cells #[.pointer (some ⟨t,0,none⟩),.slice av A.length cv] 29 (0,0))∧w5.heap[ba]?=some (.cells #[.int .i64 at0] 3 (0,0))∧w5.heap[bs]?=some (.cells #[.slice ao os.length cap] 25 (0,0))):=by
  have hb:=HB5.out.1
  obtain ⟨k1,k2,k3,k4,k5,k6⟩:=HBT3.out
  exact ⟨k1.ext hb,k2.trans (hb.mono k2.size),k3.ext hb,(hb.block _ k1.lt).trans k4,(hb.block _ (Array.getElem?_eq_some_iff.1 k5).1).trans k5,(hb.block _ (Array.getElem?_eq_some_iff.1 k6).1).trans k6⟩
 have HBW:=zh HB5.out.2.1
 have HBOW:Hid (bo < bw):=Nat.lt_of_lt_of_le HBT3.out.1.lt HB5.out.2.2.2
 have HLW:Hid (W.heap.size≤bw):=Nat.le_trans HBT3.out.2.1.size HB5.out.2.2.2
 clear HB5 HBT3 w3
 obtain ⟨m1,hm1⟩:∃ m1:Nat,(mm:Int) - 1=(m1:Nat):=⟨mm - 1,by have:=HM1.out;omega⟩
 have HM1E:=zh hm1
 have hm1b:m1≤70000:=by have:=HMN.out;omega
 have cA:=cell1 H5.out.2.2.2.2.1
 have fA:=fz1 H5.out.2.2.2.2.1
 have WI:=zh (within_any at0 m1 w5 HAT.out (by have:=HMN.out;omega))
 go_upto_region 6 with (go_at_call 9;refine WI.out.mono ?_;rintro e w6 ⟨a,rfl,ha,hw6⟩;rw [hw6];clear hw6;have HA:=zh ha;clear ha;(try dsimp only))
 generalize hw6:World.setCell w5 _ _=w6
 have H6:Hid (w6.heap[ba]?=some (.cells #[.int .i64 (a:Nat)] 3 (0,0))∧Kps (fun j=>j=ba) w5 w6):=by
  unfold Hid
  rw [← hw6]
  obtain ⟨p1,p2⟩:=set1 H5.out.2.2.2.2.1 0 (.int .i64 (a:Nat))
  exact ⟨p1,Kps.grown p2 (fun j e _=>(Option.some.inj e).symm)⟩
 clear hw6 WI cA fA hm1
 go_upto_region 9 with fail
 generalize hw7:World.alloc (World.alloc (World.alloc _ _) _) _=w7
 have H7:Hid (Below w6.heap.size w6 w7∧w7.heap[w6.heap.size]?=some (.cells #[.int .i64 ((0:Nat):Int)] 3 (0,0))∧w7.heap[w6.heap.size + 1]?=some (.cells #[.int .i64 ((0:Nat):Int)] 3 (0,0))∧w7.heap[w6.heap.size + 1 + 1]?=some (.cells #[.bool true] 4 (0,0))):=by
  unfold Hid
  rw [← hw7]
  have e1:(w6.alloc (.cells #[.int .i64 0] 3)).heap.size=w6.heap.size + 1:=by simp
  have e2:((w6.alloc (.cells #[.int .i64 0] 3)).alloc (.cells #[.int .i64 0] 3)).heap.size=w6.heap.size + 1 + 1:=by simp
  refine ⟨zxa (zxa (zxa (Below.refl _ _) _) _) _,?_,?_,?_⟩
  ·exact (heap_alloc_old _ _ (by simp;omega)).trans ((heap_alloc_old _ _ (by simp)).trans (heap_alloc_new _ _))
  ·refine (heap_alloc_old _ _ (by simp)).trans ?_
   rw [← e1]
   exact heap_alloc_new _ _
  ·rw [← e2]
   exact heap_alloc_new _ _
 clear hw7
 obtain ⟨bt,hbt⟩:∃ bt,bt=w6.heap.size:=⟨_,rfl⟩
 obtain ⟨bn,hbn⟩:∃ bn,bn=w6.heap.size + 1:=⟨_,rfl⟩
 obtain ⟨bg,hbg⟩:∃ bg,bg=w6.heap.size + 1 + 1:=⟨_,rfl⟩
 rw [← hbg,← hbn,← hbt] at H7
 rw [show w6.heap.size + 1 + 1=bg from hbg.symm,show w6.heap.size + 1=bn from hbn.symm,show w6.heap.size=bt from hbt.symm]
 have HLB:Hid (ba < bt∧bt < bn∧bn < bg∧bw < bt∧bo < bt∧W.heap.size≤bt):=by
  have h1:=(Array.getElem?_eq_some_iff.1 H6.out.1).1
  have h2:=Nat.lt_of_lt_of_le (Array.getElem?_eq_some_iff.1 HBW.out).1 H6.out.2.size
  have h3:=HBOW.out
  have h4:=Nat.le_trans H5.out.2.1.size H6.out.2.size
  exact ⟨by omega,by omega,by omega,by omega,by omega,by omega⟩
 have HTU:Hid (Tu enc W bo t bt ba bw bg bn bs gr n8 cap8 a (.slice ao os.length cap) A 0 0 A w7):=by
  obtain ⟨k1,k2,k3,k4,k5,k6⟩:=H5.out
  obtain ⟨q1,q2,q3,q4,q5,q6⟩:=HLB.out
  have hb:Below w6.heap.size w6 w7:=by rw [← hbt];exact H7.out.1
  have hk:=H6.out.2
  have tba:Typ 3 w5 ba:=⟨_,k5⟩
  have no:∀ {Y:TypeId} {p:Nat},Typ Y w5 p→Y≠3→¬ p=ba:=fun {Y p} hp n e=>by subst e;exact n (hp.uniq tba)
  have kp:∀ {Y:TypeId} {p:Nat} {cs:Array Value},w5.heap[p]?=some (.cells cs Y (0,0))→Y≠3→w7.heap[p]?=some (.cells cs Y (0,0)):=fun {Y p cs} hp n=>(hb.block p (Nat.lt_of_lt_of_le (Array.getElem?_eq_some_iff.1 hp).1 hk.size)).trans ((hk.same p (Array.getElem?_eq_some_iff.1 hp).1 (no (Y:=Y) ⟨_,hp⟩ n)).trans hp)
  have hne:∀ j,(Value.slice av A.length cv).ownBlock=some j→j≠ba:=fun j e=>by have:=HNB.out j e;omega
  have ho6:OwnI w6 0 (.slice av A.length cv) A:=row_kps k3 hk (fun j e _ o=>hne j e o)
  have ho7:=ho6.ext hb
  have hz6:Tz enc w6 t A:=k1.tz.kps hk (fun j e=>⟨fun p=>no p (by decide) e,fun p=>no p (by decide) e⟩) (no k1.tz.typ (by decide))
  have hz7:=hz6.ext hb
  have hg7:=kp k4 (by decide)
  obtain ⟨cs,hgt⟩:=HRW5.out.2
  have hgr7:=kp hgt (by decide)
  have hl:∀ j,(Value.slice av A.length cv).ownBlock=some j→j≠bt∧j≠bn:=fun j e=>by have:=HOL.out j e;exact ⟨by omega,by omega⟩
  have ha1:a < mm:=by have h1:=HA.out;have h2:=HM1E.out;omega
  exact ⟨H7.out.2.1,(hb.block ba (Array.getElem?_eq_some_iff.1 H6.out.1).1).trans H6.out.1,kp HBW.out (by decide),H7.out.2.2.2,H7.out.2.2.1,kp k6 (by decide),⟨⟨_,hg7,ho7⟩,hz7,k1.bd,k1.en⟩,⟨_,hg7,ho7,hl⟩,fun i hi=>(HRW5.out.1 i (by omega)).same (hgr7.trans hgt.symm),⟨cs,hgr7⟩,(k2.trans (hk.below k2.size (fun j e=>by rw [e,HBAe.out];omega))).trans (hb.mono (Nat.le_trans k2.size hk.size)),⟨by omega,by omega,by omega⟩,⟨q6,by omega,by omega,HLO.out.1,HLO.out.2⟩,by omega⟩
 clear hbt hbn hbg H6 H7 H5 HBW HRW5 HOL HLT HBAe HBSe HNB HLO HBOW w6 w5
 have s0:w7.cell? ⟨bo,0,none⟩=some (.pointer (some ⟨t,0,none⟩)):=by obtain ⟨_,h,_⟩:=HTU.out.l;exact (cells2 h).2.1
 have hbol:bo < w7.heap.size:=HTU.out.b.lt
 have AL1:=zh (All_any t w7)
 go_upto_region 10 with (go_at_call 22;refine AL1.out.mono ?_;rintro e w8 ⟨rfl,hw⟩;have HW8:=zh hw;clear hw;(try dsimp only))
 have HB8:Hid (Below w7.heap.size w7 w8∧w8.heap[w7.heap.size]?=some (.cells #[.pointer (some ⟨t,0,none⟩)] 26 (0,0))):=by unfold Hid;rw [HW8.out];exact ⟨zxa (Below.refl _ _) _,heap_alloc_new _ _⟩
 have HT8:=zh (HTU.out.ext HB8.out.1)
 clear AL1 HW8 s0 HTU
 generalize w7.heap.size=bx at *
 have n1:=nf_allT
 have ha1:Hid (a < mm):=by have h1:=HA.out;have h2:=HM1E.out;unfold Hid;omega
 have AC:=zh (allTurn1 enc W bo t bt ba bw bg bn bs gr n8 cap8 a (.slice ao os.length cap) A os w8 bx mm HB8.out.2 HT8.out HOS.out HMM.out.symm ha1.out (by have:=HMN.out;have:=ha1.out;omega))
 go_upto_region 12 with fail
 go_upto_region 13 with (go_at_call 43;refine AC.out.mono ?_;rintro e w9 ⟨⟨ve,rfl⟩,h⟩;have H9:=zh h.out;clear h;(try dsimp only))
 obtain ⟨⟨k,x,B,hak,hT9⟩,hK9⟩:=H9.out
 have T9:=zh hT9
 have HK9:=zh hK9
 have c13:=cell1 hT9.good
 have c11:=cell1 hT9.told
 have c4:=cell1 hT9.at'
 have hak1:¬ ((k:Int)≤(a:Int)):=by omega
 have hak2:¬ (k≤a):=by omega
 clear AC H9 hT9 hK9 n1
 go_upto_region 15 with fail
 clear c13 c11 c4 hak1 hak2 hak
 obtain ⟨v2,hv2,ho2,_⟩:=T9.out.l
 obtain ⟨a2,c2,hvf⟩:=ho2.form
 subst hvf
 have HV9:=zh hv2
 have HO9:=zh ho2
 have s1:=(cells2 hv2).2.2.1
 have hlB:=T9.out.b.tz.len
 have RA:=zh (rAll_any enc (.slice a2 B.length c2) B w9 ho2.rdi hlB)
 obtain ⟨m9,hm9,hm9B⟩:∃ m9:Nat,cnt enc B=m9∧(m9:Int)≤(spn enc B).b + 1:=⟨(cnt enc B).toNat,by have:=spn_nn enc B;unfold cnt;split <;> omega,by have:=spn_nn enc B;unfold cnt;split <;> omega⟩
 rw [hm9] at RA
 have HM9:=zh hm9
 have HM9B:=zh hm9B
 have HSL9:=zh (spn_len enc B)
 have HSN9:=zh (spn_nn enc B)
 have cw9:=cell1 T9.out.want
 have fw9:=fz1 T9.out.want
 have HWL:Hid (bw < w9.heap.size):=(Array.getElem?_eq_some_iff.1 T9.out.want).1
 clear hv2 ho2 hm9 hm9B
 go_upto_region 16 with (go_at_call 21;refine RA.out.mono ?_;rintro e w10 ⟨ao9,n9,cap9,rfl,hn,hb⟩;have HB10:=zh hb;have HN9:=zh hn.out;clear hn hb s1 cw9 fw9;have T10:=zh (T9.out.ext HB10.out);have cw9:=cell1 T10.out.want;have fw9:=fz1 T10.out.want;(try dsimp only))
 have hrd:=HN9.out.2.rd
 obtain ⟨ao',cap',hv',hcp1,hcp2,h6⟩:=hrd
 rw [lns_len] at hv' hcp1
 simp only [Value.slice.injEq,true_and] at hv'
 obtain ⟨rfl,rfl⟩:=hv'
 obtain ⟨gs,hgr,hgl,hrow⟩:=h6 (by intro e;have e1:=congrArg List.length e;rw [lns_len] at e1;have e2:=HN9.out.1;have e4:n9=0:=e1;have:=HSN9.out;omega)
 subst hgr
 have HROW:Hid (∀ k,k < m9→Rw4 w10 gs k (lnK enc B (k:Nat))):=fun k hk=>hrow k _ (lns_at enc B n9 k (by have:=HN9.out.1;have:=HM9B.out;omega))
 have HMN9:Hid (m9≤n9∧n9≤65537):=by have h1:=HN9.out.1;have h2:=HM9B.out;have h3:=HSL9.out;have h4:=HSN9.out;unfold Hid;omega
 have HRT:Hid (Typ 69 w10 gs):=HN9.out.2.typT rfl
 generalize hw11:World.setCell w10 _ _=w11
 have H11:Hid (Kps (fun j=>j=bw) w10 w11∧w11.heap[bw]?=some (.cells #[.slice (some ⟨gs,0,none⟩) n9 cap9] 62 (0,0))):=by
  unfold Hid
  rw [← hw11]
  obtain ⟨p1,p2⟩:=set1 T10.out.want 0 (.slice (some ⟨gs,0,none⟩) n9 cap9)
  exact ⟨Kps.grown p2 (fun j e _=>(Option.some.inj e).symm),p1⟩
 have HTW:Hid (Typ 62 w10 bw):=⟨_,T10.out.want⟩
 have HBT:Hid (BtW enc w11 bo t B x):=T10.out.b.typd H11.out.1 (fun j e=>by rw [e];exact HTW.out) (by decide) (by decide) (by decide) (by decide) (by decide)
 have HOB11:Hid (OwnI w11 0 (.slice a2 B.length c2) B∧w11.heap[bo]?=some (.cells #[.pointer (some ⟨t,0,none⟩),.slice a2 B.length c2] 29 (0,0))):=⟨(HO9.out.ext HB10.out).kps2 H11.out.1 (fun j e q=>by rw [e] at q;exact absurd (q.uniq HTW.out) (by decide)),(H11.out.1.same bo T10.out.b.lt (fun e=>by have h1:=T10.out.b.typ;rw [e] at h1;exact absurd (h1.uniq HTW.out) (by decide))).trans ((HB10.out.block bo (Array.getElem?_eq_some_iff.1 HV9.out).1).trans HV9.out)⟩
 have HRW:Hid ((∀ k,k < m9→Rw4 w11 gs k (lnK enc B (k:Nat)))∧gs < w11.heap.size):=by
  have hs:w11.heap[gs]?=w10.heap[gs]?:=H11.out.1.same gs hgl (fun e=>by have h1:=HRT.out;rw [e] at h1;exact absurd (h1.uniq HTW.out) (by decide))
  exact ⟨fun k hk=>(HROW.out k hk).same hs,Nat.lt_of_lt_of_le hgl H11.out.1.size⟩
 have HBL:Hid (Below W.heap.size W w11):=T10.out.bl.trans (H11.out.1.below T10.out.bl.size (fun j e=>by rw [e];exact HLW.out))
 have HBX:Hid (w11.heap[bx]?=some (.cells #[.pointer (some ⟨t,0,none⟩)] 26 (0,0))):=by
  have h1:=(HK9.out.same bx (Array.getElem?_eq_some_iff.1 HB8.out.2).1 (fun o=>?_)).trans HB8.out.2
  ·have h2:=(HB10.out.block bx (Array.getElem?_eq_some_iff.1 h1).1).trans h1
   exact (H11.out.1.same bx (Array.getElem?_eq_some_iff.1 h2).1 (fun e=>by have h3:Typ 26 w10 bx:=⟨_,h2⟩;rw [e] at h3;exact absurd (h3.uniq HTW.out) (by decide))).trans h2
  ·have h3:Typ 26 w8 bx:=⟨_,HB8.out.2⟩
   rcases o with o | o | o | ⟨_,o | o⟩ <;> rw [o] at h3
   ·exact absurd (h3.uniq ⟨_,HT8.out.told⟩) (by decide)
   ·exact absurd (h3.uniq ⟨_,HT8.out.good⟩) (by decide)
   ·exact absurd (h3.uniq ⟨_,HT8.out.nx⟩) (by decide)
   ·exact absurd (h3.uniq HT8.out.b.typ) (by decide)
   ·exact absurd (h3.uniq HT8.out.b.tz.typ) (by decide)
 have cw11:=cell1 H11.out.2
 clear hw11 RA h6 hrow HN9 HROW HRT hgl cw9 fw9 T9 T10 HT8 HB8 HK9 H11 HTW HB10 HV9 HO9
 go_upto_region 17 with fail
 generalize hw12:World.alloc (World.alloc _ _) _=w12
 have HW12:Hid (Below w11.heap.size w11 w12∧Wk w12 w11.heap.size gs n9 cap9 m9 0∧w12.heap[w11.heap.size + 1]?=some (.cells #[.pointer (some ⟨w11.heap.size,0,none⟩)] 72 (0,0))):=by
  unfold Hid
  rw [← hw12]
  refine ⟨zxa (zxa (Below.refl _ _) _) _,(Below.heap_alloc _ _ _ (by simp)).trans (heap_alloc_new _ _),?_⟩
  have e:w11.heap.size + 1=(w11.alloc (.cells #[.slice (some ⟨gs,0,none⟩) n9 cap9,.int .i64 (m9:Nat),.int .i64 (-1),.int .i64 ((0:Nat):Int),.bool false,.bool false] 74)).heap.size:=by simp
  rw [e]
  exact heap_alloc_new _ _
 clear hw12 cw11
 have H12:Hid (BtW enc w12 bo t B x∧OwnI w12 0 (.slice a2 B.length c2) B∧w12.heap[bo]?=some (.cells #[.pointer (some ⟨t,0,none⟩),.slice a2 B.length c2] 29 (0,0))∧Below W.heap.size W w12∧W.heap.size≤w11.heap.size):=⟨HBT.out.ext HW12.out.1,HOB11.out.1.ext HW12.out.1,(HW12.out.1.block bo (Array.getElem?_eq_some_iff.1 HOB11.out.2).1).trans HOB11.out.2,HBL.out.trans (HW12.out.1.mono HBL.out.size),HBL.out.size⟩
 have HRW12:Hid (∀ k,k < m9→Rw4 w12 gs k (lnK enc B (k:Nat))):=fun k hk=>(HRW.out.1 k hk).same (HW12.out.1.block gs HRW.out.2)
 have hgq:gs≠w11.heap.size:=by have:=HRW.out.2;omega
 have HGQ:=zh hgq
 have hgl12:=Nat.lt_of_lt_of_le HRW.out.2 HW12.out.1.size
 have HGL:=zh hgl12
 have s0:=(cells2 H12.out.2.2.1).2.1
 have hbol:=(cells2 H12.out.2.2.1).1
 have AL2:=zh (All_any t w12)
 have HQ:Hid (Wk w12 w11.heap.size gs n9 cap9 m9 0∧w12.heap[w11.heap.size + 1]?=some (.cells #[.pointer (some ⟨w11.heap.size,0,none⟩)] 72 (0,0))):=HW12.out.2
 obtain ⟨q,hq⟩:∃ q,q=w11.heap.size:=⟨_,rfl⟩
 obtain ⟨bp,hbp⟩:∃ bp,bp=w11.heap.size + 1:=⟨_,rfl⟩
 rw [← hbp,← hq] at HQ
 rw [show w11.heap.size + 1=bp from hbp.symm,show w11.heap.size=q from hq.symm]
 rw [← hq] at H12 HGQ
 clear HW12 HBT HOB11 HBL HRW HBX hgq hgl12 hq hbp w11
 go_upto_region 18 with (first | (go_at_call 22;refine AL2.out.mono ?_;rintro e w13 ⟨rfl,hw⟩;have HW13:Hid (Below w12.heap.size w12 w13∧w13.heap[w12.heap.size]?=some (.cells #[.pointer (some ⟨t,0,none⟩)] 26 (0,0))):=(by unfold Hid;rw [hw];exact ⟨zxa (Below.refl _ _) _,heap_alloc_new _ _⟩);clear hw AL2;have hQ13:=(HW13.out.1.block q (Array.getElem?_eq_some_iff.1 HQ.out.1).1).trans HQ.out.1;have AC:=zh (allTurn2 enc B t w13 (H12.out.1.tz.ext HW13.out.1) w12.heap.size bp q gs n9 cap9 m9 HW13.out.2 ((HW13.out.1.block bp (Array.getElem?_eq_some_iff.1 HQ.out.2).1).trans HQ.out.2) hQ13 (fun k hk=>(HRW12.out k hk).same (HW13.out.1.block gs HGL.out)) HM9.out.symm HMN9.out.1 HMN9.out.2 hcp1 hcp2 HGQ.out (Nat.lt_of_lt_of_le HGL.out HW13.out.1.size));clear hQ13;(try dsimp only)) | (go_at_call 43;refine AC.out.mono ?_;rintro e w14 ⟨⟨ve,rfl⟩,hk1,hk2⟩;have HK1:=zh hk1;have HK2:=zh hk2;clear hk1 hk2;(try dsimp only)))
 have HTQ:Hid (Typ 74 w13 q):=by
  have h:=(HW13.out.1.block q (Array.getElem?_eq_some_iff.1 HQ.out.1).1).trans HQ.out.1
  exact ⟨_,h⟩
 have HBT14:Hid (BtW enc w14 bo t B x):=(H12.out.1.ext HW13.out.1).typd HK2.out (fun j e=>by rw [e];exact HTQ.out) (by decide) (by decide) (by decide) (by decide) (by decide)
 have HOB:Hid (OwnI w14 0 (.slice a2 B.length c2) B):=(H12.out.2.1.ext HW13.out.1).kps2 HK2.out (fun j e p=>by rw [e] at p;exact absurd (p.uniq HTQ.out) (by decide))
 have HBO:Hid (w14.heap[bo]?=some (.cells #[.pointer (some ⟨t,0,none⟩),.slice a2 B.length c2] 29 (0,0))):=by
  have h:=(HW13.out.1.block bo (Array.getElem?_eq_some_iff.1 H12.out.2.2.1).1).trans H12.out.2.2.1
  exact (HK2.out.same bo (Array.getElem?_eq_some_iff.1 h).1 (fun e=>by have h1:Typ 29 w13 bo:=⟨_,h⟩;rw [e] at h1;exact absurd (h1.uniq HTQ.out) (by decide))).trans h
 have HBP:Hid (w14.heap[bp]?=some (.cells #[.pointer (some ⟨q,0,none⟩)] 72 (0,0))):=by
  have h:=(HW13.out.1.block bp (Array.getElem?_eq_some_iff.1 HQ.out.2).1).trans HQ.out.2
  exact (HK2.out.same bp (Array.getElem?_eq_some_iff.1 h).1 (fun e=>by have h1:Typ 72 w13 bp:=⟨_,h⟩;rw [e] at h1;exact absurd (h1.uniq HTQ.out) (by decide))).trans h
 have HBL:Hid (Below W.heap.size W w14):=(H12.out.2.2.2.1.trans (HW13.out.1.mono H12.out.2.2.2.1.size)).trans (HK2.out.below (Nat.le_trans H12.out.2.2.2.1.size HW13.out.1.size) (fun j e=>by rw [e];exact H12.out.2.2.2.2))
 have WE:=zh (well_any (HK1.out.ext (Below.drew (Below.refl w14.heap.size w14))))
 have hwl:IntKind.i64.wrap ((B.length:Int) + 1)=((B.length + 1:Nat):Int):=by rw [IntKind.wrap_i64];omega
 have ATS:Hid (∀ w',Below w14.heap.size w14 w'→Calls Tryz.prog 19 #[.pointer (some ⟨t,0,none⟩),.int .i64 0,.int .i64 ((B.length + 1:Nat):Int)] w' fun e w''=>AtR B w' e w''):=fun w' hb=>by
  have:=Atoms_z enc w' t B 0 ((B.length + 1:Nat):Int) (HBT14.out.tz.ext hb)
  rwa [show sub B 0 ((B.length + 1:Nat):Int)=B by rw [show (((B.length + 1:Nat):Int))=(B.length:Nat) + 1 by omega];exact sub_moreT B] at this
 have HC18:Hid (∀ w',Below w14.heap.size w14 w'→w'.cell? ⟨bp,0,none⟩=some (.pointer (some ⟨q,0,none⟩))∧w'.cell? ⟨bo,0,none⟩=some (.pointer (some ⟨t,0,none⟩))∧w'.cell? ⟨bo,1,none⟩=some (.slice a2 B.length c2)):=fun w' hb=>by
  have h1:=cells2 ((hb.block bo (Array.getElem?_eq_some_iff.1 HBO.out).1).trans HBO.out)
  exact ⟨cell1 ((hb.block bp (Array.getElem?_eq_some_iff.1 HBP.out).1).trans HBP.out),h1.2.1,h1.2.2.1⟩
 clear AC HQ HW13 H12 HTQ HK1 HK2 s0 hbol HBT14 HRW12
 obtain ⟨d0,d1,d2⟩:=HC18.out w14 (Below.refl _ _)
 refine wp_region_held_drew (S:=fun w''=>w''.cell? ⟨bp,0,none⟩=some (.pointer (some ⟨q,0,none⟩))∧w''.cell? ⟨bo,0,none⟩=some (.pointer (some ⟨t,0,none⟩))∧w''.cell? ⟨bo,1,none⟩=some (.slice a2 B.length c2)) (by kernel_rfl) (⟨d0,d1,d2⟩) (fun _=>?_)
 refine tkH 0 rfl ?_
 refine rdH 1 rfl fun K hK=>?_
 go_simp
 refine (WE.out.mono ?_);clear d0 d1 d2;rintro e z1 ⟨rfl,hb⟩;have HBz1:Hid (Below w14.heap.size w14 z1):=zxt (Below.drew (Below.refl _ _)) hb;clear hb;obtain ⟨d0,d1,d2⟩:=HC18.out z1 HBz1.out;try dsimp only
 refine hK.out _ _ ?_ (fun _=>?_)
 ·exact HC18.out z1 HBz1.out
 clear hK K
 try simp only [Act.put,tS]
 refine tkH 2 rfl ?_
 refine tkH 3 rfl ?_
 refine tkH 4 rfl ?_
 refine tkH 5 rfl ?_
 refine tkH 6 rfl ?_
 refine tkH 7 rfl ?_
 refine tkH 8 rfl ?_
 refine tkH 10 rfl ?_
 refine tkH 11 rfl ?_
 refine rdH 9 rfl fun K hK=>?_
 go_simp
 refine (ATS.out _ HBz1.out).mono ?_;clear d0 d1 d2;rintro e z2 ⟨v2,rfl,ho,hb⟩;have HBz2:=zh (zxt HBz1.out hb);clear hb;obtain ⟨az,cz,hv⟩:=ho.form;subst hv;have HO2:=zh ho;clear ho;obtain ⟨d0,d1,d2⟩:=HC18.out z2 HBz2.out;try dsimp only
 refine hK.out _ _ ?_ (fun _=>?_)
 ·exact HC18.out z2 HBz2.out
 clear hK K
 try simp only [Act.put,tS]
 refine rdH 12 rfl fun K hK=>?_
 go_simp
 refine (same_yes _ _ _ _ HO2.out.rdi (HOB.out.ext HBz2.out).rdi).mono ?_;clear d0 d1 d2;rintro e z3 ⟨rfl,hb⟩;have HBz3:=zh (zxt HBz2.out hb);clear hb;obtain ⟨d0,d1,d2⟩:=HC18.out z3 HBz3.out;try dsimp only
 refine hK.out _ _ ?_ (fun _=>?_)
 ·exact HC18.out z3 HBz3.out
 clear hK K
 try simp only [Act.put,tS]
 refine tkH 13 rfl ?_
 refine tkH 14 rfl ?_
 refine dnH ?_
 go_wp2_with fail
 go_ret
 exact ⟨rfl,HBL.out.trans (HBz3.out.mono HBL.out.size)⟩
end Go.Proofs.YtgfdfajblidleaaGreat.P
