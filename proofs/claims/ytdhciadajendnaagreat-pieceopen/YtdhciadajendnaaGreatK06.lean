import Derived.Test.YtdhciadajendnaaGreatK05
import Derived.RangeFuncCalls
import Derived.RangeFuncLeaves
import Derived.Shelf.Abstract
import Derived.WalkKit
import Derived.OwnWalkIn
import Derived.TacticsInMore
import Derived.LoopNIn
import Derived.LoopIn
set_option maxRecDepth 100000
namespace Go.Proofs.YtdhciadajendnaaGreat.P
open Go.RowKit
theorem RdR.at {w:World} {v:Value} {xs:List It} (h:RdR w v xs) (hn:0 < xs.length):∃ b off cap,v=.slice (some ⟨b,off,none⟩) xs.length cap∧xs.length≤cap∧cap≤9223372036854775807∧b < w.heap.size∧∀ i,i < xs.length→(w.cell? ⟨b,off + i * 7,none⟩=some (.slice (xs[i]?.getD It.zero).p (xs[i]?.getD It.zero).n (xs[i]?.getD It.zero).c)∧w.cell? ⟨b,off + i * 7 + 1,none⟩=some (.int .i64 (xs[i]?.getD It.zero).pl)∧w.cell? ⟨b,off + i * 7 + 2,none⟩=some (.int .i64 (xs[i]?.getD It.zero).sp.a)∧w.cell? ⟨b,off + i * 7 + 3,none⟩=some (.int .i64 (xs[i]?.getD It.zero).sp.s)∧w.cell? ⟨b,off + i * 7 + 4,none⟩=some (.int .i64 (xs[i]?.getD It.zero).sp.b)∧w.cell? ⟨b,off + i * 7 + 5,none⟩=some (.bool (xs[i]?.getD It.zero).sp.lf)∧w.cell? ⟨b,off + i * 7 + 6,none⟩=some (.bool (xs[i]?.getD It.zero).sp.cr))∧True:=by
 obtain ⟨ao,cap,rfl,h1,h2,h0,h3⟩:=h
 obtain ⟨b,off,rfl,hb,hc⟩:=h3 (by intro h;subst h;simp at hn)
 exact ⟨b,off,cap,rfl,h1,h2,hb,hc⟩
theorem RdR.upto {w:World} {b off n cap:Nat} {xs:List It} (h:RdR w (.slice (some ⟨b,off,none⟩) n cap) xs) (m:Nat) (hm:m≤xs.length):RdR w (.slice (some ⟨b,off,none⟩) m cap) (xs.take m):=by
 obtain ⟨ao,cap',hv,h1,h2,h0,h3⟩:=h
 simp only [Value.slice.injEq] at hv
 obtain ⟨rfl,rfl,rfl⟩:=hv
 have hl:(xs.take m).length=m:=by rw [List.length_take];omega
 refine ⟨_,cap,by rw [hl],by rw [hl];omega,h2,h0,fun hn=>?_⟩
 obtain ⟨b',off',ha,hlt,hc⟩:=h3 (by intro h;subst h;simp at hn)
 simp at ha
 obtain ⟨rfl,rfl⟩:=ha
 refine ⟨b,off,rfl,hlt,fun i hi=>?_⟩
 rw [hl] at hi
 rw [List.getElem?_take,if_pos hi]
 exact hc i (by omega)
theorem RdR.from {w:World} {b off n cap:Nat} {xs:List It} (h:RdR w (.slice (some ⟨b,off,none⟩) n cap) xs) (m:Nat) (hm:m≤xs.length):RdR w (.slice (some ⟨b,off + m * 7,none⟩) (n - m) (cap - m)) (xs.drop m):=by
 obtain ⟨ao,cap',hv,h1,h2,h0,h3⟩:=h
 simp only [Value.slice.injEq] at hv
 obtain ⟨rfl,rfl,rfl⟩:=hv
 refine ⟨_,cap - m,by rw [List.length_drop],by rw [List.length_drop];omega,by omega,(fun h=>by cases h),fun hn=>?_⟩
 obtain ⟨b',off',ha,hlt,hc⟩:=h3 (by intro h;subst h;simp at hn)
 simp at ha
 obtain ⟨rfl,rfl⟩:=ha
 refine ⟨b,off + m * 7,rfl,hlt,fun i hi=>?_⟩
 rw [List.length_drop] at hi
 rw [List.getElem?_drop]
 have:=hc (m + i) (by omega)
 rw [Nat.add_mul,← Nat.add_assoc] at this
 exact this
theorem RdR.from_end {w:World} {ao:Option Addr} {n cap m:Nat} {xs:List It} (h:RdR w (.slice ao n cap) xs) (hc:cap=m):RdR w (.slice ao (n - m) (cap - m)) (xs.drop m):=by
 obtain ⟨ao',cap',hv,h1,h2,h0,h3⟩:=h
 simp only [Value.slice.injEq] at hv
 obtain ⟨rfl,rfl,rfl⟩:=hv
 have e:xs.drop m=[]:=List.drop_of_length_le (by omega)
 refine ⟨_,cap - m,by rw [List.length_drop],by rw [List.length_drop];omega,by omega,(fun h=>by rw [h0 h];omega),fun hn=>absurd e hn⟩
def Built (t:Tr It) (xs:List It):Prop:=t.list=xs∧t.Bal∧t.ht=dig xs.length
theorem Built.mk' {xs:List It} {a b:Tr It} (hn:0 < xs.length) (m:Nat) (hm:m=xs.length / 2) (ha:Built a (xs.take m)) (hb:Built b (xs.drop (m + 1))):Built (.node a (xs[m]?.getD It.zero) b) xs:=by
 obtain ⟨a1,a2,a3⟩:=ha
 obtain ⟨b1,b2,b3⟩:=hb
 have hlt:m < xs.length:=by omega
 have la:(xs.take m).length=xs.length / 2:=by rw [List.length_take];omega
 have lb:(xs.drop (m + 1)).length=xs.length - xs.length / 2 - 1:=by rw [List.length_drop];omega
 rw [la] at a3
 rw [lb] at b3
 have d1:=dig_pos hn
 have d2:dig (xs.length - xs.length / 2 - 1)≤dig (xs.length / 2):=dig_mono (by omega)
 have d3:dig (xs.length / 2)≤dig (xs.length - xs.length / 2 - 1) + 1:=Nat.le_trans (dig_mono (by omega)) (dig_step _)
 refine ⟨?_,⟨a2,b2,by omega,by omega⟩,?_⟩
 ·rw [Tr.list,a1,b1,List.getElem?_eq_getElem hlt]
  simp only [Option.getD_some]
  rw [List.getElem_cons_drop,List.take_append_drop]
 ·simp only [Tr.ht];omega
set_option maxHeartbeats 2000000 in
theorem build_step (xs:List It) (b off cap:Nat) (w:World) (h:RdR w (.slice (some ⟨b,off,none⟩) xs.length cap) xs) (hn:0 < xs.length) (hc:xs.length≤cap) (hcm:cap≤9223372036854775807) (hbl:b < w.heap.size) (hw:wt xs≤4611686018427387904)
  (hcell:∀ i,i < xs.length→(w.cell? ⟨b,off + i * 7,none⟩=some (.slice (xs[i]?.getD It.zero).p (xs[i]?.getD It.zero).n (xs[i]?.getD It.zero).c)∧w.cell? ⟨b,off + i * 7 + 1,none⟩=some (.int .i64 (xs[i]?.getD It.zero).pl)∧w.cell? ⟨b,off + i * 7 + 2,none⟩=some (.int .i64 (xs[i]?.getD It.zero).sp.a)∧w.cell? ⟨b,off + i * 7 + 3,none⟩=some (.int .i64 (xs[i]?.getD It.zero).sp.s)∧w.cell? ⟨b,off + i * 7 + 4,none⟩=some (.int .i64 (xs[i]?.getD It.zero).sp.b)∧w.cell? ⟨b,off + i * 7 + 5,none⟩=some (.bool (xs[i]?.getD It.zero).sp.lf)∧w.cell? ⟨b,off + i * 7 + 6,none⟩=some (.bool (xs[i]?.getD It.zero).sp.cr))∧True)
  (ih:∀ (ys:List It) (v:Value) (w:World),ys.length < xs.length→RdR w v ys→wt ys≤4611686018427387904→Calls Tryz.prog 74 #[v] w fun e w'=>∃ u t,e=.returned (.pointer u)∧Tin w' t u∧Built t ys∧Below w.heap.size w w') :
  Calls Tryz.prog 74 #[.slice (some ⟨b,off,none⟩) xs.length cap] w fun e w'=>∃ u t,e=.returned (.pointer u)∧Tin w' t u∧Built t xs∧Below w.heap.size w w':=by
 obtain ⟨m,hm⟩:∃ m,m=xs.length / 2:=⟨_,rfl⟩
 obtain ⟨q,hq⟩:∃ q,q=m + 1:=⟨_,rfl⟩
 have hmlt:m < xs.length:=by omega
 have hlen:=Nat.le_trans (wt_len xs) hw
 have w1:wt (xs.take m) + wt (xs.drop m)=wt xs:=by rw [← wt_app,List.take_append_drop]
 have w2:wt (xs.take q) + wt (xs.drop q)=wt xs:=by rw [← wt_app,List.take_append_drop]
 have hbr:∀ (a c:Tr It),Built a (xs.take m)→Built c (xs.drop q)→wt (a.list ++ (xs[m]?.getD It.zero) :: c.list)≤4611686018427387904:=by
  intro a c ha hc'
  have:=(Built.mk' hn m hm ha (by rw [← hq];exact hc')).1
  rw [Tr.list] at this
  rw [this];exact hw
 have B1:Hid (∀ w',Below w.heap.size w w'→Calls Tryz.prog 74 #[.slice (some ⟨b,off,none⟩) m cap] w' fun e w''=>∃ u,e=.returned (.pointer u)∧Hid (∃ t,Tin w'' t u∧Built t (xs.take m))∧Below w.heap.size w w''):=fun w' hb=>(ih (xs.take m) _ w' (by rw [List.length_take];omega) ((h.upto m (by omega)).ext hb) (by omega)).mono fun _ _ ⟨u,t,k1,k2,k3,k4⟩=>⟨u,k1,⟨t,k2,k3⟩,zxt hb k4⟩
 have B2:Hid (∀ v u w',RdR w v (xs.drop q)→Hid (∃ t,Tin w' t u∧Built t (xs.take m))→Below w.heap.size w w'→Calls Tryz.prog 74 #[v] w' fun e w''=>∃ u',e=.returned (.pointer u')∧Hid ((∃ t,Tin w'' t u∧Built t (xs.take m))∧∃ t,Tin w'' t u'∧Built t (xs.drop q))∧Below w.heap.size w w''):=fun v u w' hv ht hb=>(ih (xs.drop q) v w' (by rw [List.length_drop];omega) (hv.ext hb) (by omega)).mono fun _ _ ⟨u',t,k1,k2,k3,k4⟩=>by
  obtain ⟨t0,j1,j2⟩:=ht.out
  exact ⟨u',k1,⟨⟨t0,j1.ext k4,j2⟩,t,k2,k3⟩,zxt hb k4⟩
 have B3:Hid (∀ u u' w',Hid ((∃ t,Tin w' t u∧Built t (xs.take m))∧∃ t,Tin w' t u'∧Built t (xs.drop q))→Below w.heap.size w w'→Calls Tryz.prog 110 #[.pointer u,.agg #[.slice (xs[m]?.getD It.zero).p (xs[m]?.getD It.zero).n (xs[m]?.getD It.zero).c,.int .i64 (xs[m]?.getD It.zero).pl,.int .i64 (xs[m]?.getD It.zero).sp.a,.int .i64 (xs[m]?.getD It.zero).sp.s,.int .i64 (xs[m]?.getD It.zero).sp.b,.bool (xs[m]?.getD It.zero).sp.lf,.bool (xs[m]?.getD It.zero).sp.cr],.pointer u'] w' fun e w''=>∃ u',e=.returned (.pointer u')∧Hid (∃ t,Tin w'' t u'∧Built t xs)∧Below w.heap.size w w''):=fun u u' w' ht hb=>by
  obtain ⟨⟨a,a1,a2⟩,c,c1,c2⟩:=ht.out
  exact (branch_any a c _ u u' w' a1 c1 (hbr a c a2 c2)).mono fun _ _ ⟨v,k1,k2,k3⟩=>⟨v,k1,⟨_,k2,Built.mk' hn m hm a2 (by rw [← hq];exact c2)⟩,zxt hb k3⟩
 have C:Hid (∀ w',Below w.heap.size w w'→(w'.cell? ⟨b,off + m * 7,none⟩=some (.slice (xs[m]?.getD It.zero).p (xs[m]?.getD It.zero).n (xs[m]?.getD It.zero).c)∧w'.cell? ⟨b,off + m * 7 + 1,none⟩=some (.int .i64 (xs[m]?.getD It.zero).pl)∧w'.cell? ⟨b,off + m * 7 + 2,none⟩=some (.int .i64 (xs[m]?.getD It.zero).sp.a)∧w'.cell? ⟨b,off + m * 7 + 3,none⟩=some (.int .i64 (xs[m]?.getD It.zero).sp.s)∧w'.cell? ⟨b,off + m * 7 + 4,none⟩=some (.int .i64 (xs[m]?.getD It.zero).sp.b)∧w'.cell? ⟨b,off + m * 7 + 5,none⟩=some (.bool (xs[m]?.getD It.zero).sp.lf)∧w'.cell? ⟨b,off + m * 7 + 6,none⟩=some (.bool (xs[m]?.getD It.zero).sp.cr))∧True):=fun w' hb=>⟨(by first | trivial | exact C7.ext hb hbl (hcell m hmlt).1 | exact C5.ext hb hbl (hcell m hmlt).1 | exact (hb.cell (p:=⟨b,off + m * 7,none⟩) hbl).trans (hcell m hmlt).1 | exact (hb.cell (p:=⟨b,off + m * 7,none⟩) hbl).trans (hcell m hmlt).1),(by first | trivial | exact C7.ext hb hbl (hcell m hmlt).2 | exact C5.ext hb hbl (hcell m hmlt).2 | exact (hb.cell (p:=⟨b,off + m * 7 + 1,none⟩) hbl).trans (hcell m hmlt).2 | exact (hb.cell (p:=⟨b,off + m * 7 + 1,none⟩) hbl).trans (hcell m hmlt).2)⟩
 obtain ⟨c0,c1⟩:=C.out w (Below.refl _ _)
 have hd1:(xs.length:Int) / 2=(m:Int):=by omega
 have hd2:Int.tdiv (xs.length:Int) 2=(m:Int):=by rw [Int.tdiv_eq_ediv_of_nonneg (by omega)];omega
 have hwq:IntKind.i64.wrap ((m:Int) + 1)=(q:Int):=by rw [IntKind.wrap_i64];omega
 have hne:¬ xs.length=0:=by omega
 have hne':¬ (xs.length:Int)=0:=by omega
 have i1:(0:Int)≤(m:Int):=by omega
 have i2:(m:Int) < (xs.length:Int):=by omega
 have i3:(m:Int)≤(cap:Int):=by omega
 have i4:(q:Int)≤(xs.length:Int):=by omega
 have i5:(0:Int)≤(q:Int):=by omega
 have HF:=zh (h.from q (by omega))
 have HE:Hid (cap=q→RdR w (.slice (some ⟨b,off,none⟩) (xs.length - q) (cap - q)) (xs.drop q)):=fun he=>h.from_end he
 have HQ:=zh hq
 have HM:=zh hm
 clear h hcell ih w1 w2 hbr hw hq hm
 generalize xs[m]?.getD It.zero=x at *
 by_cases hcq:cap=q
 ·have e1:(xs.length=1∧cap=1∧m=0∧q=1)∨(xs.length=2∧cap=2∧m=1∧q=2):=by have h1:=HM.out;have h2:=HQ.out;omega
  have HV:=zh (HE.out hcq)
  clear HF HE hcq hd1 hd2 hwq hne hne' i1 i2 i3 i4 i5 HQ HM hmlt hlen hn hc hcm
  generalize xs.length=n at *
  rcases e1 with ⟨rfl,rfl,rfl,rfl⟩ | ⟨rfl,rfl,rfl,rfl⟩
  ·simp only [Nat.zero_mul,Nat.add_zero,Nat.sub_self] at *
   have hwq:IntKind.i64.wrap ((0:Int) + 1)=1:=by rw [IntKind.wrap_i64];omega
   have hwq':IntKind.i64.wrap (1:Int)=1:=by rw [IntKind.wrap_i64];omega
   go_enter Tryz.func74,Tryz.ntmps74
   go_wp2_with fail
   go_region_held3 (fun w'=>(w'.cell? ⟨b,off,none⟩=some (.slice x.p x.n x.c)∧w'.cell? ⟨b,off + 1,none⟩=some (.int .i64 x.pl)∧w'.cell? ⟨b,off + 2,none⟩=some (.int .i64 x.sp.a)∧w'.cell? ⟨b,off + 3,none⟩=some (.int .i64 x.sp.s)∧w'.cell? ⟨b,off + 4,none⟩=some (.int .i64 x.sp.b)∧w'.cell? ⟨b,off + 5,none⟩=some (.bool x.sp.lf)∧w'.cell? ⟨b,off + 6,none⟩=some (.bool x.sp.cr))∧True) (go_keep) (first
    | (go_at_call 74;refine (B1.out _ (by repeat (first | exact Below.refl _ _ | apply Below.drew))).mono ?_;clear B1;rintro e w1 ⟨u1,rfl,T1,hb1⟩;clear c0 c1;have HB1:=zh hb1;obtain ⟨c0,c1⟩:=C.out w1 hb1;clear hb1)
    | (go_at_call 74;refine (B2.out _ _ _ HV.out T1 (by repeat (first | exact HB1.out | apply Below.drew))).mono ?_;rintro e w2 ⟨u2,rfl,T2,hb1⟩;clear c0 c1;have HB2:=zh hb1;obtain ⟨c0,c1⟩:=C.out w2 hb1;clear hb1)
    | (go_at_call 110;refine (B3.out _ _ _ T2 (by repeat (first | exact HB2.out | apply Below.drew))).mono ?_;rintro e w3 ⟨u3,rfl,T3,hb1⟩;clear c0 c1;have HB3:=zh hb1;obtain ⟨c0,c1⟩:=C.out w3 hb1;clear hb1))
   all_goals
    go_wp2_with fail
    go_ret
    obtain ⟨t,k1,k2⟩:=T3.out
    exact ⟨_,t,rfl,k1,k2,HB3.out⟩
  ·simp only [Nat.one_mul,Nat.sub_self] at *
   have hwq:IntKind.i64.wrap ((1:Int) + 1)=2:=by rw [IntKind.wrap_i64];omega
   have hwq':IntKind.i64.wrap (2:Int)=2:=by rw [IntKind.wrap_i64];omega
   go_enter Tryz.func74,Tryz.ntmps74
   go_wp2_with fail
   go_region_held3 (fun w'=>(w'.cell? ⟨b,off + 7,none⟩=some (.slice x.p x.n x.c)∧w'.cell? ⟨b,off + 7 + 1,none⟩=some (.int .i64 x.pl)∧w'.cell? ⟨b,off + 7 + 2,none⟩=some (.int .i64 x.sp.a)∧w'.cell? ⟨b,off + 7 + 3,none⟩=some (.int .i64 x.sp.s)∧w'.cell? ⟨b,off + 7 + 4,none⟩=some (.int .i64 x.sp.b)∧w'.cell? ⟨b,off + 7 + 5,none⟩=some (.bool x.sp.lf)∧w'.cell? ⟨b,off + 7 + 6,none⟩=some (.bool x.sp.cr))∧True) (go_keep) (first
    | (go_at_call 74;refine (B1.out _ (by repeat (first | exact Below.refl _ _ | apply Below.drew))).mono ?_;clear B1;rintro e w1 ⟨u1,rfl,T1,hb1⟩;clear c0 c1;have HB1:=zh hb1;obtain ⟨c0,c1⟩:=C.out w1 hb1;clear hb1)
    | (go_at_call 74;refine (B2.out _ _ _ HV.out T1 (by repeat (first | exact HB1.out | apply Below.drew))).mono ?_;rintro e w2 ⟨u2,rfl,T2,hb1⟩;clear c0 c1;have HB2:=zh hb1;obtain ⟨c0,c1⟩:=C.out w2 hb1;clear hb1)
    | (go_at_call 110;refine (B3.out _ _ _ T2 (by repeat (first | exact HB2.out | apply Below.drew))).mono ?_;rintro e w3 ⟨u3,rfl,T3,hb1⟩;clear c0 c1;have HB3:=zh hb1;obtain ⟨c0,c1⟩:=C.out w3 hb1;clear hb1))
   all_goals
    go_wp2_with fail
    go_ret
    obtain ⟨t,k1,k2⟩:=T3.out
    exact ⟨_,t,rfl,k1,k2,HB3.out⟩
 ·have HV:=zh HF.out
  clear HF HE
  generalize xs.length=n at *
  go_enter Tryz.func74,Tryz.ntmps74
  go_wp2_with fail
  go_region_held3 (fun w'=>(w'.cell? ⟨b,off + m * 7,none⟩=some (.slice x.p x.n x.c)∧w'.cell? ⟨b,off + m * 7 + 1,none⟩=some (.int .i64 x.pl)∧w'.cell? ⟨b,off + m * 7 + 2,none⟩=some (.int .i64 x.sp.a)∧w'.cell? ⟨b,off + m * 7 + 3,none⟩=some (.int .i64 x.sp.s)∧w'.cell? ⟨b,off + m * 7 + 4,none⟩=some (.int .i64 x.sp.b)∧w'.cell? ⟨b,off + m * 7 + 5,none⟩=some (.bool x.sp.lf)∧w'.cell? ⟨b,off + m * 7 + 6,none⟩=some (.bool x.sp.cr))∧True) (go_keep) (first
   | (go_at_call 74;refine (B1.out _ (by repeat (first | exact Below.refl _ _ | apply Below.drew))).mono ?_;clear B1;rintro e w1 ⟨u1,rfl,T1,hb1⟩;clear c0 c1;have HB1:=zh hb1;obtain ⟨c0,c1⟩:=C.out w1 hb1;clear hb1)
   | (go_at_call 74;refine (B2.out _ _ _ HV.out T1 (by repeat (first | exact HB1.out | apply Below.drew))).mono ?_;rintro e w2 ⟨u2,rfl,T2,hb1⟩;clear c0 c1;have HB2:=zh hb1;obtain ⟨c0,c1⟩:=C.out w2 hb1;clear hb1)
   | (go_at_call 110;refine (B3.out _ _ _ T2 (by repeat (first | exact HB2.out | apply Below.drew))).mono ?_;rintro e w3 ⟨u3,rfl,T3,hb1⟩;clear c0 c1;have HB3:=zh hb1;obtain ⟨c0,c1⟩:=C.out w3 hb1;clear hb1))
  go_wp2_with fail
  go_ret
  obtain ⟨t,k1,k2⟩:=T3.out
  exact ⟨_,t,rfl,k1,k2,HB3.out⟩
theorem build_any (n:Nat):∀ (xs:List It) (v:Value) (w:World),xs.length≤n→RdR w v xs→wt xs≤4611686018427387904→Calls Tryz.prog 74 #[v] w fun e w'=>∃ u t,e=.returned (.pointer u)∧Tin w' t u∧Built t xs∧Below w.heap.size w w':=by
 have nilc:∀ (v:Value) (w:World),RdR w v []→Calls Tryz.prog 74 #[v] w fun e w'=>∃ u t,e=.returned (.pointer u)∧Tin w' t u∧Built t []∧Below w.heap.size w w':=by
  intro v w h
  obtain ⟨ao,cap,rfl,h1,h2,h0,h3⟩:=h
  clear h3 h0
  simp only [List.length_nil] at *
  go_enter Tryz.func74,Tryz.ntmps74
  go_wp2_with fail
  go_ret
  exact ⟨none,.nil,rfl,rfl,⟨rfl,trivial,by simp [Tr.ht,dig_zero]⟩,Below.refl _ _⟩
 induction n with
 | zero =>
   intro xs v w hn h _
   obtain rfl:xs=[]:=List.length_eq_zero_iff.1 (by omega)
   exact nilc v w h
 | succ n ih =>
   intro xs v w hn h hw
   by_cases he:xs=[]
   ·subst he;exact nilc v w h
   ·have hp:0 < xs.length:=List.length_pos_iff.2 he
    have h':=h
    obtain ⟨b,off,cap,rfl,h1,h2,h3,h4⟩:=h.at hp
    exact build_step xs b off cap w h' hp h1 h2 h3 hw h4 (fun ys v w hy hr hw'=>ih ys v w (by omega) hr hw')
def TT (w:World) (v:Value) (xs:List It):Prop:=∃ u t,v=.agg #[.pointer u]∧Tin w t u∧t.list=xs∧t.Bal
theorem TT.ext {w w':World} {v:Value} {xs:List It} (h:TT w v xs) (hb:Below w.heap.size w w'):TT w' v xs:=by
 obtain ⟨u,t,h1,h2,h3⟩:=h
 exact ⟨u,t,h1,h2.ext hb,h3⟩
theorem Of_any (v:Value) (xs:List It) (w:World) (h:RdR w v xs) (hw:wt xs≤4611686018427387904) :
  Calls Tryz.prog 51 #[v] w fun e w'=>∃ u,e=.returned (.agg #[.pointer u])∧TT w' (.agg #[.pointer u]) xs∧Below w.heap.size w w':=by
 have K:Hid (∀ w',Below w.heap.size w w'→Calls Tryz.prog 74 #[v] w' fun e w''=>∃ u,e=.returned (.pointer u)∧Hid (∃ t,Tin w'' t u∧Built t xs)∧Below w'.heap.size w' w''):=fun w' hb=>(build_any _ xs v w' (Nat.le_refl _) (h.ext hb) hw).mono fun _ _ ⟨u,t,k1,k2,k3,k4⟩=>⟨u,k1,⟨t,k2,k3⟩,k4⟩
 obtain ⟨ao,cap,rfl,_⟩:=h
 obtain ⟨w0,hw0⟩:∃ w0,w0=w.alloc (.cells #[.pointer none] 90):=⟨_,rfl⟩
 have hA:w0.heap[w.heap.size]?=some (.cells #[.pointer none] 90 (0,0)):=by rw [hw0];exact heap_alloc_new _ _
 have hb0:Below w.heap.size w w0:=by rw [hw0];exact zxa (Below.refl _ _) _
 have hlt:w.heap.size < w0.heap.size:=by first | trivial | (rw [hw0];simp)
 go_enter Tryz.func51,Tryz.ntmps51
 go_wp2_with fail
 rw [← hw0]
 clear hw0
 refine (K.out w0 hb0).mono ?_
 rintro e w1 ⟨u,rfl,T1,hb1⟩
 have hA1:w1.heap[w.heap.size]?=some (.cells #[.pointer none] 90 (0,0)):=by rw [hb1.block _ hlt];exact hA
 have z0:w1.cell? ⟨w.heap.size,0,none⟩=some (.pointer none):=by (rw [cell_of_row w1 _ _ _ _ _ hA1];rfl)
 have zf:∀ i,w1.frozen? ⟨w.heap.size,i,none⟩=false:=by intro i;simp [World.frozen?,hA1]
 have HB1:=zh hb1
 have HB0:=zh hb0
 have HA1:=zh hA1
 clear hb1 hb0 hA hA1
 go_wp2_with fail
 obtain ⟨t,k1,k2,k3,k4⟩:=T1.out
 obtain ⟨p1,p2⟩:=set1 HA1.out 0 (.pointer u)
 exact bodyPost_ret (v:=.agg #[.pointer u]) (by simp [results,Tryz.results51,go_sem,z0]) rfl ⟨u,rfl,⟨u,t,rfl,k1.put HA1.out (by decide) p2,k2,k3⟩,zbp (zxt HB0.out HB1.out) (by have:=HB1.out.size;omega) p2 (Nat.le_refl _)⟩
theorem Size_any (u:Option Addr) (xs:List It) (w:World) (h:TT w (.agg #[.pointer u]) xs):Calls Tryz.prog 94 #[.agg #[.pointer u]] w fun e w'=>e=.returned (.int .i64 xs.length)∧Below w.heap.size w w':=by
 obtain ⟨u',t,hu,ht,hl,_⟩:=h
 obtain rfl:u=u':=by simpa using hu
 have K:Hid (∀ w',Below w.heap.size w w'→Calls Tryz.prog 101 #[.pointer u] w' fun e w''=>e=.returned (.int .i64 xs.length)∧w''=w'):=fun w' hb=>by rw [← hl];exact count_any t u w' (ht.ext hb)
 clear ht hl hu
 go_enter Tryz.func94,Tryz.ntmps94
 go_wp2_with (go_at_call 101;refine (K.out _ (by repeat (first | exact Below.refl _ _ | refine zxa ?_ _))).mono ?_;rintro e w1 ⟨rfl,rfl⟩)
 go_ret
 exact ⟨rfl,zxa (Below.refl _ _) _⟩
theorem Sum_any (u:Option Addr) (xs:List It) (w:World) (h:TT w (.agg #[.pointer u]) xs):Calls Tryz.prog 37 #[.agg #[.pointer u]] w fun e w'=>∃ s,Hid (s=rA.su xs)∧e=.returned (.agg #[.int .i64 s.a,.int .i64 s.s,.int .i64 s.b,.bool s.lf,.bool s.cr])∧Below w.heap.size w w':=by
 obtain ⟨u',t,hu,ht,hl,_⟩:=h
 obtain rfl:u=u':=by simpa using hu
 have K:Hid (∀ w',Below w.heap.size w w'→Calls Tryz.prog 65 #[.pointer u] w' fun e w''=>∃ s,Hid (s=rA.su xs)∧e=.returned (.agg #[.int .i64 s.a,.int .i64 s.s,.int .i64 s.b,.bool s.lf,.bool s.cr])∧Below w'.heap.size w' w''):=fun w' hb=>by rw [← hl];exact total_any t u w' (ht.ext hb)
 obtain ⟨w0,hw0⟩:∃ w0,w0=(w.alloc (.cells #[.pointer u] 90)).alloc (.cells #[.int .i64 0,.int .i64 0,.int .i64 0,.bool false,.bool false] 94):=⟨_,rfl⟩
 have hA:Blk 94 w0 (w.heap.size + 1) Rs.zero:=by
  have:=Blk.new 94 (w.alloc (.cells #[.pointer u] 90)) Rs.zero
  rw [World.size_alloc] at this
  rw [hw0];exact this
 have hb0:Below w.heap.size w w0:=by rw [hw0];exact zxa (zxa (Below.refl _ _) _) _
 clear ht hl hu
 go_enter Tryz.func37,Tryz.ntmps37
 go_wp2_with fail
 rw [← hw0]
 clear hw0
 refine (K.out w0 hb0).mono ?_
 rintro e w1 ⟨s,HS,rfl,hb1⟩
 have hA1:=hA.ext hb1
 obtain ⟨z0,z1,z2,z3,zf⟩:=hA1.cells
 have HB:=zh (zxt hb0 hb1)
 have hsz:w.heap.size + 1 < w1.heap.size:=hA1.lt
 clear hb0 hb1
 go_wp2_with fail
 obtain ⟨p1,p2⟩:=hA1.put s
 exact bodyPost_ret (v:=.agg #[.int .i64 s.a,.int .i64 s.s,.int .i64 s.b,.bool s.lf,.bool s.cr]) (by simp [results,Tryz.results37,go_sem,z0]) rfl ⟨s,HS,rfl,zbp HB.out (by omega) p2 (by omega)⟩
end Go.Proofs.YtdhciadajendnaaGreat.P
namespace Go.Proofs.YtdhciadajendnaaGreat.P
open Go.RowKit Go.Shelf
attribute [local go_sem] Oper.semAt_some
theorem hdd (k:Nat):Fence.wide.depth.isSome=true→1≤k:=fun h=>by cases h
theorem round_any {m m':Nat} {P:Program} {l:Nat} {f:FuncId} {tmps:Array Value} {assign body:Code} {w:World} {R:Ending→World→Prop} (h:RoundIn Fence.wide m P l f tmps assign body w R):RoundIn Fence.wide m' P l f tmps assign body w R:=⟨h.1,fun c cs _=>h.2 c cs (fun d h=>by cases h)⟩
theorem yield_any {m:Nat} (m':Nat) {P:Program} {l:Nat} {args:Array Value} {W:World} {R:Ending→World→Prop} (h:YieldAt Fence.wide m P l args W R):YieldAt Fence.wide m' P l args W R:=by
 obtain ⟨fn,tmps,assign,body,hy,hR⟩:=h
 exact ⟨fn,tmps,assign,body,hy,round_any hR⟩
def OnX {σ:Type} (G:Guest σ It) (s:σ) (pre xs:List It) (W:World) (e:Ending) (W':World):Prop :=
 (e=.returned (.bool true)∧∃ s',G.J s' (pre ++ xs) W'∧Kps (G.own s) W W'∧Newer G.own s s' W)∨(e=.returned (.bool false)∧∃ s' q,q <+: xs∧G.Jx s' (pre ++ q) W'∧Kps (G.own s) W W'∧Newer G.own s s' W)
theorem Newer.trans {σ:Type} {own:σ→Nat→Prop} {s s' s'':σ} {W W':World} (h:Newer own s s' W) (h':Newer own s' s'' W') (hz:W.heap.size≤W'.heap.size):Newer own s s'' W:=fun k hk=>by
 rcases h' k hk with h1 | h1
 ·exact h k h1
 ·exact .inr (by omega)
theorem Kps.next {σ:Type} {own:σ→Nat→Prop} {s s':σ} {A B C:World} (h:Kps (own s) A B) (hn:Newer own s s' A) (k:Kps (own s') B C):Kps (own s) A C :=
 h.trans k (fun i hi hp=>by rcases hn i hp with h1 | h1;exact h1;omega)
theorem OnX.next {σ:Type} {G:Guest σ It} {s s':σ} {pre xs ys:List It} {W W' W'':World} {e:Ending} (k:Kps (G.own s) W W') (hn:Newer G.own s s' W) (h:OnX G s' (pre ++ xs) ys W' e W''):OnX G s pre (xs ++ ys) W e W'':=by
 rcases h with ⟨rfl,t,h1,h2,h3⟩ | ⟨rfl,t,q,h0,h1,h2,h3⟩
 ·exact .inl ⟨rfl,t,by rw [← List.append_assoc];exact h1,k.next hn h2,hn.trans h3 k.size⟩
 ·refine .inr ⟨rfl,t,xs ++ q,?_,by rw [← List.append_assoc];exact h1,k.next hn h2,hn.trans h3 k.size⟩
  obtain ⟨z,hz⟩:=h0
  exact ⟨z,by rw [List.append_assoc,hz]⟩
def RdX {σ α:Type} (G:Guest σ α) (s:σ) (pre:List α) (x:α) (W:World) (e:Ending) (W':World):Prop :=
 (e=.returned (.bool true)∧∃ s',G.J s' (pre ++ [x]) W'∧Kps (G.own s) W W'∧Newer G.own s s' W)∨(e=.returned (.bool false)∧∃ s',G.Jx s' (pre ++ [x]) W'∧Kps (G.own s) W W'∧Newer G.own s s' W)
theorem own_on {σ α:Type} {G:Guest σ α} {s s':σ} {w0 W W':World} (hB:Below w0.heap.size w0 W) (ho:∀ k,G.own s k→w0.heap.size≤k) (k:Kps (G.own s) W W') (hn:Newer G.own s s' W):Below w0.heap.size w0 W'∧∀ k,G.own s' k→w0.heap.size≤k:=by
 have h1:=hB.size
 refine ⟨hB.trans (k.below h1 ho),fun i hi=>?_⟩
 rcases hn i hi with h | h
 ·exact ho i h
 ·omega
set_option maxHeartbeats 4000000 in
theorem walk_in {σ:Type} (G:Guest σ It) (l:Nat) (full:List It) (w0:World)
  (hY:∀ m s pre x W1,G.J s pre W1→pre ++ [x] <+: full→YieldAt Fence.wide m Tryz.prog l #[.agg #[.slice x.p x.n x.c,.int .i64 x.pl,.int .i64 x.sp.a,.int .i64 x.sp.s,.int .i64 x.sp.b,.bool x.sp.lf,.bool x.sp.cr]] W1 (RdX G s pre x W1)) (t:Tr It) :
  ∀ (n:Nat) (u:Option Addr) (fr:Nat) (s:σ) (pre:List It) (W:World),Tin w0 t u→Below w0.heap.size w0 W→(∀ k,G.own s k→w0.heap.size≤k)→t.list.length≤4611686018427387904→fr≤9223372036854775807→G.J s pre W→pre ++ t.list.drop fr <+: full →
    CallsIn Fence.wide n Tryz.prog 67 #[.pointer u,.int .i64 fr,.func (.yield l) #[] #[]] W (OnX G s pre (t.list.drop fr) W):=by
 induction t using Tr.ind with
 | nil =>
   intro n u fr s pre W hT hB ho hl hf hJ hN
   have CN:CallsIn Fence.wide (n - 1) Tryz.prog 101 #[.pointer u] W fun e w'=>e=.returned (.int .i64 0)∧w'=W:=callsIn_wide.2 (count_any .nil u W (hT.ext hB))
   have HE:Hid (OnX G s pre ((Tr.nil:Tr It).list.drop fr) W (.returned (.bool true)) W):=.inl ⟨rfl,s,by simpa [Tr.list] using hJ,Kps.refl _ _,fun k h=>.inl h⟩
   have h00:(0:Int)≤(fr:Int):=by omega
   clear hT hY
   refine callsIn_of_wp Tryz.func67 rfl trivial ?_ rfl
   simp only [Tryz.ntmps67,List.size_toArray,List.length_cons,List.length_nil,Nat.reduceAdd,Nat.reduceSub,Array.replicate_succ,Array.replicate_zero,List.push_toArray,List.append_toArray,List.nil_append,List.cons_append]
   gi_wp2_with (refine ⟨trivial,hdd _,?_⟩;gi_at_call 101;refine CN.mono ?_;clear CN;rintro e W1 ⟨rfl,hw1⟩;obtain rfl:W=W1:=hw1.symm)
   go_ret
   exact HE.out
 | node tl x tr ihl ihr =>
   intro n u fr s pre W hT hB ho hl hf hJ hN
   have CN:=zh (callsIn_wide (n:=n - 1) |>.2 (count_any (.node tl x tr) u W (hT.ext hB)))
   have HLEN:Hid ((Tr.node tl x tr).list.length=tl.list.length + 1 + tr.list.length):=by unfold Hid;simp only [Tr.list,List.length_append,List.length_cons];omega
   by_cases hge:(Tr.node tl x tr).list.length≤fr
   ·have HE:Hid (OnX G s pre ((Tr.node tl x tr).list.drop fr) W (.returned (.bool true)) W):=.inl ⟨rfl,s,by rw [List.drop_of_length_le hge,List.append_nil];exact hJ,Kps.refl _ _,fun k h=>.inl h⟩
    generalize (Tr.node tl x tr).list.length=nn at *
    have hge':(nn:Int)≤(fr:Int):=by omega
    clear hT hY ihl ihr
    refine callsIn_of_wp Tryz.func67 rfl trivial ?_ rfl
    simp only [Tryz.ntmps67,List.size_toArray,List.length_cons,List.length_nil,Nat.reduceAdd,Nat.reduceSub,Array.replicate_succ,Array.replicate_zero,List.push_toArray,List.append_toArray,List.nil_append,List.cons_append]
    gi_wp2_with (refine ⟨trivial,hdd _,?_⟩;gi_at_call 101;refine CN.out.mono ?_;clear CN;rintro e W1 ⟨rfl,hw1⟩;obtain rfl:W=W1:=hw1.symm)
    go_ret
    exact HE.out
   ·obtain ⟨g,lv,rv,rfl,hb,hlt,hrt⟩:=hT
    have hgw:g < w0.heap.size:=(Array.getElem?_eq_some_iff.1 hb).1
    have HN:Hid (∀ W',Below w0.heap.size w0 W'→C7s W' g x∧W'.cell? ⟨g,7,none⟩=some (.pointer lv)∧W'.cell? ⟨g,8,none⟩=some (.pointer rv)∧g < W'.heap.size):=fun W' hB'=>by
     have hb':=hB'.block g hgw
     rw [hb] at hb'
     refine ⟨?_,?_,?_,(Array.getElem?_eq_some_iff.1 hb').1⟩
     ·refine ⟨?_,?_,?_,?_,?_,?_,?_⟩ <;> (rw [cell_of_row W' g _ _ _ _ hb'];rfl)
     ·rw [cell_of_row W' g _ _ _ _ hb'];rfl
     ·rw [cell_of_row W' g _ _ _ _ hb'];rfl
    have CL:=zh (callsIn_wide (n:=n - 1) |>.2 (count_any tl lv W (hlt.ext hB)))
    have e1:(Tr.node tl x tr).list.drop fr=tl.list.drop fr ++ (x :: tr.list).drop (fr - tl.list.length):=by simp only [Tr.list];rw [List.drop_append]
    rw [e1] at hN
    rw [e1]
    have hlen:=HLEN.out
    have WL:=zh (ihl (n - 1) lv fr s pre W hlt hB ho (by omega) hf hJ (by rw [← List.append_assoc] at hN;exact (List.prefix_append _ _).trans hN))
    obtain ⟨c0,c1,c2,hgl⟩:=HN.out W hB
    have hlt':¬ ((Tr.node tl x tr).list.length:Int)≤(fr:Int):=by omega
    have HB:=zh hB
    have HO:=zh ho
    have HRT:=zh hrt
    have HNN:=zh hN
    have HLL:=zh hl
    clear hb e1 hB ho hrt hlt hN hJ ihl hl
    generalize hnn:(Tr.node tl x tr).list.length=nn at *
    refine callsIn_of_wp Tryz.func67 rfl trivial ?_ rfl
    simp only [Tryz.ntmps67,List.size_toArray,List.length_cons,List.length_nil,Nat.reduceAdd,Nat.reduceSub,Array.replicate_succ,Array.replicate_zero,List.push_toArray,List.append_toArray,List.nil_append,List.cons_append]
    gi_wp2_with fail
    refine ⟨trivial,hdd _,?_⟩
    refine CN.out.mono ?_
    rintro e W1 ⟨rfl,hw1⟩
    obtain rfl:W=W1:=hw1.symm
    gi_wp2_with fail
    refine ⟨trivial,hdd _,?_⟩
    refine CL.out.mono ?_
    rintro e W1 ⟨rfl,hw1⟩
    obtain rfl:W=W1:=hw1.symm
    clear CN CL
    gi_wp2_with fail
    refine ⟨trivial,hdd _,?_⟩
    refine WL.out.mono ?_
    clear WL c0 c1 c2 hgl
    rintro e W1 (⟨rfl,s1,hJ1,k1,n1⟩ | ⟨rfl,s1,q,hq,hx1,k1,n1⟩)
    case inr =>
     have HE:Hid (OnX G s pre (tl.list.drop fr ++ (x :: tr.list).drop (fr - tl.list.length)) W (.returned (.bool false)) W1):=.inr ⟨rfl,s1,q,hq.trans (List.prefix_append _ _),hx1,k1,n1⟩
     clear hY ihr
     gi_wp2_with fail
     go_ret
     exact HE.out
    obtain ⟨hB1,ho1⟩:=own_on HB.out HO.out k1 n1
    obtain ⟨c0,c1,c2,hgl⟩:=HN.out W1 hB1
    have K1:=zh k1
    have N1:=zh n1
    by_cases hle:fr≤tl.list.length
    ·have e2:(x :: tr.list).drop (fr - tl.list.length)=[x] ++ tr.list.drop 0:=by rw [show fr - tl.list.length=0 by omega];rfl
     have HNN2:Hid (pre ++ tl.list.drop fr ++ [x] ++ tr.list <+: full):=by have h:=HNN.out;rw [e2,List.drop_zero,← List.append_assoc,← List.append_assoc] at h;exact h
     have E2:=zh e2
     obtain ⟨fn,tmps,assign,body,hy,hR⟩:=hY (n - 1) s1 (pre ++ tl.list.drop fr) x W1 hJ1 ((List.prefix_append _ _).trans HNN2.out)
     have HR:=zh hR
     have hle':(fr:Int)≤(tl.list.length:Int):=by omega
     have hmx:(fr:Int) - tl.list.length - 1 < 0:=by omega
     have hmx':¬ 0≤(fr:Int) - tl.list.length - 1:=by omega
     have HB1:=zh hB1
     have HO1:=zh ho1
     have hl1:tl.list.length≤4611686018427387904:=by have:=HLL.out;have:=HLEN.out;omega
     clear hR e2 hB1 ho1 hJ1 k1 n1
     generalize hnl:tl.list.length=nl at *
     gi_wp2_with fail
     refine ⟨hdd _,?_⟩
     refine HR.out.mono ?_
     clear hy HR c0 c1 c2 hgl
     rintro e W2 (⟨rfl,s2,hJ2,k2,n2⟩ | ⟨rfl,s2,hx2,k2,n2⟩)
     case inr =>
      have HE:Hid (OnX G s pre (tl.list.drop fr ++ (x :: tr.list).drop (fr - nl)) W (.returned (.bool false)) W2):=by rw [E2.out];exact OnX.next K1.out N1.out (.inr ⟨rfl,s2,[x],List.prefix_append _ _,hx2,k2,n2⟩)
      clear ihr hY
      gi_wp2_with fail
      go_ret
      exact HE.out
     obtain ⟨hB2,ho2⟩:=own_on HB1.out HO1.out k2 n2
     obtain ⟨c0,c1,c2,hgl⟩:=HN.out W2 hB2
     have WR:=zh (ihr (n - 1) rv 0 s2 (pre ++ tl.list.drop fr ++ [x]) W2 HRT.out hB2 ho2 (by have:=HLL.out;have:=HLEN.out;omega) (by omega) hJ2 (by rw [List.drop_zero];exact HNN2.out))
     have K2:=zh k2
     have N2:=zh n2
     clear hB2 ho2 hJ2 k2 n2 ihr hY
     gi_wp2_with fail
     refine ⟨trivial,hdd _,?_⟩
     refine WR.out.mono ?_
     clear WR c0 c1 c2 hgl
     intro e W3 h3
     have HE:Hid (OnX G s pre (tl.list.drop fr ++ (x :: tr.list).drop (fr - nl)) W e W3):=by rw [E2.out];exact OnX.next K1.out N1.out (OnX.next K2.out N2.out h3)
     rcases h3 with ⟨rfl,_⟩ | ⟨rfl,_⟩
     ·gi_wp2_with fail
      go_ret
      exact HE.out
     ·gi_wp2_with fail
      go_ret
      exact HE.out
    ·have e2:(x :: tr.list).drop (fr - tl.list.length)=tr.list.drop (fr - tl.list.length - 1):=by
      obtain ⟨m,hm⟩:∃ m,fr - tl.list.length=m + 1:=⟨fr - tl.list.length - 1,by omega⟩
      rw [hm];rfl
     have HNN2:Hid (pre ++ tl.list.drop fr ++ tr.list.drop (fr - tl.list.length - 1) <+: full):=by have h:=HNN.out;rw [e2,← List.append_assoc] at h;exact h
     have E2:=zh e2
     obtain ⟨q,hq⟩:∃ q:Nat,q=fr - tl.list.length - 1:=⟨_,rfl⟩
     rw [← hq] at HNN2 E2
     have hle':¬ (fr:Int)≤(tl.list.length:Int):=by omega
     have hled:decide ((fr:Int)≤(tl.list.length:Int))=false:=by simpa using hle'
     have hsb:(fr:Int) - tl.list.length - 1=(q:Int):=by omega
     have hq0:¬ (q:Int) < 0:=by omega
     have hfr:(fr:Int)≤9223372036854775807:=by omega
     have WR:=zh (ihr (n - 1) rv q s1 (pre ++ tl.list.drop fr) W1 HRT.out hB1 ho1 (by have:=HLL.out;have:=HLEN.out;omega) (by omega) hJ1 HNN2.out)
     have hl1:tl.list.length≤4611686018427387904:=by have:=HLL.out;have:=HLEN.out;omega
     clear e2 hB1 ho1 hJ1 k1 n1 ihr hY hq
     generalize hnl:tl.list.length=nl at *
     gi_wp2_with fail
     refine ⟨fun _ h=>(by cases h),?_⟩
     gi_wp2_with fail
     refine ⟨trivial,hdd _,?_⟩
     refine WR.out.mono ?_
     clear WR c0 c1 c2 hgl
     intro e W3 h3
     have HE:Hid (OnX G s pre (tl.list.drop fr ++ (x :: tr.list).drop (fr - nl)) W e W3):=by rw [E2.out];exact OnX.next K1.out N1.out h3
     rcases h3 with ⟨rfl,_⟩ | ⟨rfl,_⟩
     ·gi_wp2_with fail
      go_ret
      exact HE.out
     ·gi_wp2_with fail
      go_ret
      exact HE.out
theorem Items_any (u:Option Addr) (fr:Int) (m:Nat) (w:World) (hm:(m:Int)=max fr 0) :
  Calls Tryz.prog 38 #[.agg #[.pointer u],.int .i64 fr] w fun e w'=>e=.returned (.func (.func 66) #[] #[.pointer (some ⟨w.heap.size,0,none⟩),.pointer (some ⟨w.heap.size + 1,0,none⟩)]) ∧
   w'=(w.alloc (.cells #[.pointer u] 90)).alloc (.cells #[.int .i64 m] 3):=by
 by_cases h:fr < 0
 ·obtain rfl:m=0:=by omega
  clear hm
  go_enter Tryz.func38,Tryz.ntmps38
  go_wp2_with fail
  go_ret
  exact ⟨rfl,rfl⟩
 ·have hfm:fr=(m:Int):=by omega
  have hnn:¬ (m:Int) < 0:=by omega
  clear hm h
  subst hfm
  go_enter Tryz.func38,Tryz.ntmps38
  go_wp2_with fail
  go_ret
  exact ⟨rfl,rfl⟩
theorem items_stops (n:Nat) (t:Tr It) (u:Option Addr) (m:Nat) (w:World) (a b n₀:Nat) (hn:n₀≤w.heap.size) (ha:a < w.heap.size) (hb:b < w.heap.size) (wT:World) (hwT:wT.heap.size=n₀) (hBT:Below n₀ wT w) (hT:Tin wT t u) (hl:t.list.length≤4611686018427387904) (hm:m≤9223372036854775807)
  (hA:w.heap[a]?=some (.cells #[.pointer u] 90 (0,0))) (hB:w.heap[b]?=some (.cells #[.int .i64 m] 3 (0,0))) :
  SeqX Fence.wide n Tryz.prog 66 #[.pointer (some ⟨a,0,none⟩),.pointer (some ⟨b,0,none⟩)] (fun x:It=>#[.agg #[.slice x.p x.n x.c,.int .i64 x.pl,.int .i64 x.sp.a,.int .i64 x.sp.s,.int .i64 x.sp.b,.bool x.sp.lf,.bool x.sp.cr]]) (fun k=>k < n₀∨k=a∨k=b) (fun xs=>xs=t.list.drop m) (fun pre=>pre <+: t.list.drop m) w:=by
 intro l σ G s W hK hrel _ hY h0
 have hbW:Below wT.heap.size wT W:=by
  rw [hwT]
  exact ⟨hK.os.trans hBT.os,hK.tape.trans hBT.tape,hK.output.trans hBT.output,by have:=hK.size;omega,fun k hk=>(hK.same k (by omega) (fun e=>e (.inl hk))).trans (hBT.block k hk)⟩
 have hA':W.heap[a]?=some (.cells #[.pointer u] 90 (0,0)):=(hK.same a ha (fun e=>e (.inr (.inl rfl)))).trans hA
 have hB':W.heap[b]?=some (.cells #[.int .i64 m] 3 (0,0)):=(hK.same b hb (fun e=>e (.inr (.inr rfl)))).trans hB
 have c0:W.cell? ⟨a,0,none⟩=some (.pointer u):=by rw [cell_of_row W a _ _ _ _ hA'];rfl
 have c1:W.cell? ⟨b,0,none⟩=some (.int .i64 m):=by rw [cell_of_row W b _ _ _ _ hB'];rfl
 have hw:=zh (walk_in G l (t.list.drop m) wT (fun k s pre x W1 hj hlen=>yield_any k (hY s pre x W1 hj hlen)) t (n - 1) u m s [] W hT hbW (fun k ho=>by
  rw [hwT]
  by_cases hk:k < n₀
  ·exact absurd ho (hrel k (.inl hk)).2
  ·omega) hl hm h0 (List.prefix_refl _))
 clear hY hA' hB' hA hB hT hbW
 generalize t.list.drop m=xs at *
 refine callsIn_of_wp Tryz.func66 rfl trivial ?_ rfl
 simp only [Tryz.ntmps66,List.size_toArray,List.length_cons,List.length_nil,Nat.reduceAdd,Nat.reduceSub,Array.replicate_succ,Array.replicate_zero,List.push_toArray,List.append_toArray,List.nil_append,List.cons_append]
 gi_wp2_with fail
 refine ⟨trivial,hdd _,?_⟩
 refine hw.out.mono ?_
 rintro e W1 (⟨rfl,s1,hJ1,k1,n1⟩ | ⟨rfl,s1,q,hq,hx1,k1,n1⟩)
 ·have HE:=zh (show ∃ s',Kps (G.own s) W W1∧Newer G.own s s' W∧((∃ ys,ys=xs∧G.J s' ys W1)∨(∃ pre,pre <+: xs∧G.Jx s' pre W1)) from ⟨s1,k1,n1,.inl ⟨xs,rfl,by simpa using hJ1⟩⟩)
  clear hw hJ1
  gi_wp2_with fail
  go_end0
  exact ⟨⟨_,rfl⟩,HE.out⟩
 ·have HE:=zh (show ∃ s',Kps (G.own s) W W1∧Newer G.own s s' W∧((∃ ys,ys=xs∧G.J s' ys W1)∨(∃ pre,pre <+: xs∧G.Jx s' pre W1)) from ⟨s1,k1,n1,.inr ⟨q,hq,by simpa using hx1⟩⟩)
  clear hw hx1
  gi_wp2_with fail
  go_end0
  exact ⟨⟨_,rfl⟩,HE.out⟩
end Go.Proofs.YtdhciadajendnaaGreat.P
