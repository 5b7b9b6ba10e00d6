import Derived.Test.YtjjfakokakamaaaGreatJ03
import Derived.OwnWalk
import Derived.Deep.CutRange
import Derived.Laws.CopyOwn
namespace Go.Proofs.YtjjfakokakamaaaGreat.P
open Go.RowKit
theorem RdR.at {w:World} {v:Value} {xs:List It} (h:RdR w v xs) (hn:0 < xs.length):∃ b off cap,v=.slice (some ⟨b,off,none⟩) xs.length cap∧xs.length≤cap∧cap≤9223372036854775807∧b < w.heap.size∧∀ i,i < xs.length→(w.cell? ⟨b,off + i * 7,none⟩=some (.slice (xs[i]?.getD It.zero).p (xs[i]?.getD It.zero).n (xs[i]?.getD It.zero).c)∧w.cell? ⟨b,off + i * 7 + 1,none⟩=some (.int .i64 (xs[i]?.getD It.zero).pl)∧w.cell? ⟨b,off + i * 7 + 2,none⟩=some (.int .i64 (xs[i]?.getD It.zero).sp.a)∧w.cell? ⟨b,off + i * 7 + 3,none⟩=some (.int .i64 (xs[i]?.getD It.zero).sp.s)∧w.cell? ⟨b,off + i * 7 + 4,none⟩=some (.int .i64 (xs[i]?.getD It.zero).sp.b)∧w.cell? ⟨b,off + i * 7 + 5,none⟩=some (.bool (xs[i]?.getD It.zero).sp.lf)∧w.cell? ⟨b,off + i * 7 + 6,none⟩=some (.bool (xs[i]?.getD It.zero).sp.cr))∧True:=by
 obtain ⟨ao,cap,rfl,h1,h2,h0,h3⟩:=h
 obtain ⟨b,off,rfl,hb,hc⟩:=h3 (by intro h;subst h;simp at hn)
 exact ⟨b,off,cap,rfl,h1,h2,hb,hc⟩
theorem RdR.upto {w:World} {b off n cap:Nat} {xs:List It} (h:RdR w (.slice (some ⟨b,off,none⟩) n cap) xs) (m:Nat) (hm:m≤xs.length):RdR w (.slice (some ⟨b,off,none⟩) m cap) (xs.take m):=by
 obtain ⟨ao,cap',hv,h1,h2,h0,h3⟩:=h
 simp only [Value.slice.injEq] at hv
 obtain ⟨rfl,rfl,rfl⟩:=hv
 have hl:(xs.take m).length=m:=by rw [List.length_take];omega
 refine ⟨_,cap,by rw [hl],by rw [hl];omega,h2,h0,fun hn=>?_⟩
 obtain ⟨b',off',ha,hlt,hc⟩:=h3 (by intro h;subst h;simp at hn)
 simp at ha
 obtain ⟨rfl,rfl⟩:=ha
 refine ⟨b,off,rfl,hlt,fun i hi=>?_⟩
 rw [hl] at hi
 rw [List.getElem?_take,if_pos hi]
 exact hc i (by omega)
theorem RdR.from {w:World} {b off n cap:Nat} {xs:List It} (h:RdR w (.slice (some ⟨b,off,none⟩) n cap) xs) (m:Nat) (hm:m≤xs.length):RdR w (.slice (some ⟨b,off + m * 7,none⟩) (n - m) (cap - m)) (xs.drop m):=by
 obtain ⟨ao,cap',hv,h1,h2,h0,h3⟩:=h
 simp only [Value.slice.injEq] at hv
 obtain ⟨rfl,rfl,rfl⟩:=hv
 refine ⟨_,cap - m,by rw [List.length_drop],by rw [List.length_drop];omega,by omega,(fun h=>by cases h),fun hn=>?_⟩
 obtain ⟨b',off',ha,hlt,hc⟩:=h3 (by intro h;subst h;simp at hn)
 simp at ha
 obtain ⟨rfl,rfl⟩:=ha
 refine ⟨b,off + m * 7,rfl,hlt,fun i hi=>?_⟩
 rw [List.length_drop] at hi
 rw [List.getElem?_drop]
 have:=hc (m + i) (by omega)
 rw [Nat.add_mul,← Nat.add_assoc] at this
 exact this
theorem RdR.from_end {w:World} {ao:Option Addr} {n cap m:Nat} {xs:List It} (h:RdR w (.slice ao n cap) xs) (hc:cap=m):RdR w (.slice ao (n - m) (cap - m)) (xs.drop m):=by
 obtain ⟨ao',cap',hv,h1,h2,h0,h3⟩:=h
 simp only [Value.slice.injEq] at hv
 obtain ⟨rfl,rfl,rfl⟩:=hv
 have e:xs.drop m=[]:=List.drop_of_length_le (by omega)
 refine ⟨_,cap - m,by rw [List.length_drop],by rw [List.length_drop];omega,by omega,(fun h=>by rw [h0 h];omega),fun hn=>absurd e hn⟩
def Built (t:Tr It) (xs:List It):Prop:=t.list=xs∧t.Bal∧t.ht=dig xs.length
theorem Built.mk' {xs:List It} {a b:Tr It} (hn:0 < xs.length) (m:Nat) (hm:m=xs.length / 2) (ha:Built a (xs.take m)) (hb:Built b (xs.drop (m + 1))):Built (.node a (xs[m]?.getD It.zero) b) xs:=by
 obtain ⟨a1,a2,a3⟩:=ha
 obtain ⟨b1,b2,b3⟩:=hb
 have hlt:m < xs.length:=by omega
 have la:(xs.take m).length=xs.length / 2:=by rw [List.length_take];omega
 have lb:(xs.drop (m + 1)).length=xs.length - xs.length / 2 - 1:=by rw [List.length_drop];omega
 rw [la] at a3
 rw [lb] at b3
 have d1:=dig_pos hn
 have d2:dig (xs.length - xs.length / 2 - 1)≤dig (xs.length / 2):=dig_mono (by omega)
 have d3:dig (xs.length / 2)≤dig (xs.length - xs.length / 2 - 1) + 1:=Nat.le_trans (dig_mono (by omega)) (dig_step _)
 refine ⟨?_,⟨a2,b2,by omega,by omega⟩,?_⟩
 ·rw [Tr.list,a1,b1,List.getElem?_eq_getElem hlt]
  simp only [Option.getD_some]
  rw [List.getElem_cons_drop,List.take_append_drop]
 ·simp only [Tr.ht];omega
set_option maxRecDepth 100000 in
set_option maxHeartbeats 2000000 in
theorem build_step (xs:List It) (b off cap:Nat) (w:World) (h:RdR w (.slice (some ⟨b,off,none⟩) xs.length cap) xs) (hn:0 < xs.length) (hc:xs.length≤cap) (hcm:cap≤9223372036854775807) (hbl:b < w.heap.size) (hw:wt xs≤4611686018427387904)
  (hcell:∀ i,i < xs.length→(w.cell? ⟨b,off + i * 7,none⟩=some (.slice (xs[i]?.getD It.zero).p (xs[i]?.getD It.zero).n (xs[i]?.getD It.zero).c)∧w.cell? ⟨b,off + i * 7 + 1,none⟩=some (.int .i64 (xs[i]?.getD It.zero).pl)∧w.cell? ⟨b,off + i * 7 + 2,none⟩=some (.int .i64 (xs[i]?.getD It.zero).sp.a)∧w.cell? ⟨b,off + i * 7 + 3,none⟩=some (.int .i64 (xs[i]?.getD It.zero).sp.s)∧w.cell? ⟨b,off + i * 7 + 4,none⟩=some (.int .i64 (xs[i]?.getD It.zero).sp.b)∧w.cell? ⟨b,off + i * 7 + 5,none⟩=some (.bool (xs[i]?.getD It.zero).sp.lf)∧w.cell? ⟨b,off + i * 7 + 6,none⟩=some (.bool (xs[i]?.getD It.zero).sp.cr))∧True)
  (ih:∀ (ys:List It) (v:Value) (w:World),ys.length < xs.length→RdR w v ys→wt ys≤4611686018427387904→Calls Tryz.prog 105 #[v] w fun e w'=>∃ u t,e=.returned (.pointer u)∧Tin w' t u∧Built t ys∧Below w.heap.size w w') :
  Calls Tryz.prog 105 #[.slice (some ⟨b,off,none⟩) xs.length cap] w fun e w'=>∃ u t,e=.returned (.pointer u)∧Tin w' t u∧Built t xs∧Below w.heap.size w w':=by
 obtain ⟨m,hm⟩:∃ m,m=xs.length / 2:=⟨_,rfl⟩
 obtain ⟨q,hq⟩:∃ q,q=m + 1:=⟨_,rfl⟩
 have hmlt:m < xs.length:=by omega
 have hlen:=Nat.le_trans (wt_len xs) hw
 have w1:wt (xs.take m) + wt (xs.drop m)=wt xs:=by rw [← wt_app,List.take_append_drop]
 have w2:wt (xs.take q) + wt (xs.drop q)=wt xs:=by rw [← wt_app,List.take_append_drop]
 have hbr:∀ (a c:Tr It),Built a (xs.take m)→Built c (xs.drop q)→wt (a.list ++ (xs[m]?.getD It.zero) :: c.list)≤4611686018427387904:=by
  intro a c ha hc'
  have:=(Built.mk' hn m hm ha (by rw [← hq];exact hc')).1
  rw [Tr.list] at this
  rw [this];exact hw
 have B1:Hid (∀ w',Below w.heap.size w w'→Calls Tryz.prog 105 #[.slice (some ⟨b,off,none⟩) m cap] w' fun e w''=>∃ u,e=.returned (.pointer u)∧Hid (∃ t,Tin w'' t u∧Built t (xs.take m))∧Below w.heap.size w w''):=fun w' hb=>(ih (xs.take m) _ w' (by rw [List.length_take];omega) ((h.upto m (by omega)).ext hb) (by omega)).mono fun _ _ ⟨u,t,k1,k2,k3,k4⟩=>⟨u,k1,⟨t,k2,k3⟩,ext_trans hb k4⟩
 have B2:Hid (∀ v u w',RdR w v (xs.drop q)→Hid (∃ t,Tin w' t u∧Built t (xs.take m))→Below w.heap.size w w'→Calls Tryz.prog 105 #[v] w' fun e w''=>∃ u',e=.returned (.pointer u')∧Hid ((∃ t,Tin w'' t u∧Built t (xs.take m))∧∃ t,Tin w'' t u'∧Built t (xs.drop q))∧Below w.heap.size w w''):=fun v u w' hv ht hb=>(ih (xs.drop q) v w' (by rw [List.length_drop];omega) (hv.ext hb) (by omega)).mono fun _ _ ⟨u',t,k1,k2,k3,k4⟩=>by
  obtain ⟨t0,j1,j2⟩:=ht.out
  exact ⟨u',k1,⟨⟨t0,j1.ext k4,j2⟩,t,k2,k3⟩,ext_trans hb k4⟩
 have B3:Hid (∀ u u' w',Hid ((∃ t,Tin w' t u∧Built t (xs.take m))∧∃ t,Tin w' t u'∧Built t (xs.drop q))→Below w.heap.size w w'→Calls Tryz.prog 126 #[.pointer u,.agg #[.slice (xs[m]?.getD It.zero).p (xs[m]?.getD It.zero).n (xs[m]?.getD It.zero).c,.int .i64 (xs[m]?.getD It.zero).pl,.int .i64 (xs[m]?.getD It.zero).sp.a,.int .i64 (xs[m]?.getD It.zero).sp.s,.int .i64 (xs[m]?.getD It.zero).sp.b,.bool (xs[m]?.getD It.zero).sp.lf,.bool (xs[m]?.getD It.zero).sp.cr],.pointer u'] w' fun e w''=>∃ u',e=.returned (.pointer u')∧Hid (∃ t,Tin w'' t u'∧Built t xs)∧Below w.heap.size w w''):=fun u u' w' ht hb=>by
  obtain ⟨⟨a,a1,a2⟩,c,c1,c2⟩:=ht.out
  exact (branch_any a c _ u u' w' a1 c1 (hbr a c a2 c2)).mono fun _ _ ⟨v,k1,k2,k3⟩=>⟨v,k1,⟨_,k2,Built.mk' hn m hm a2 (by rw [← hq];exact c2)⟩,ext_trans hb k3⟩
 have C:Hid (∀ w',Below w.heap.size w w'→(w'.cell? ⟨b,off + m * 7,none⟩=some (.slice (xs[m]?.getD It.zero).p (xs[m]?.getD It.zero).n (xs[m]?.getD It.zero).c)∧w'.cell? ⟨b,off + m * 7 + 1,none⟩=some (.int .i64 (xs[m]?.getD It.zero).pl)∧w'.cell? ⟨b,off + m * 7 + 2,none⟩=some (.int .i64 (xs[m]?.getD It.zero).sp.a)∧w'.cell? ⟨b,off + m * 7 + 3,none⟩=some (.int .i64 (xs[m]?.getD It.zero).sp.s)∧w'.cell? ⟨b,off + m * 7 + 4,none⟩=some (.int .i64 (xs[m]?.getD It.zero).sp.b)∧w'.cell? ⟨b,off + m * 7 + 5,none⟩=some (.bool (xs[m]?.getD It.zero).sp.lf)∧w'.cell? ⟨b,off + m * 7 + 6,none⟩=some (.bool (xs[m]?.getD It.zero).sp.cr))∧True):=fun w' hb=>⟨(by first | trivial | exact C7.ext hb hbl (hcell m hmlt).1 | exact C5.ext hb hbl (hcell m hmlt).1 | exact (hb.cell (p:=⟨b,off + m * 7,none⟩) hbl).trans (hcell m hmlt).1 | exact (hb.cell (p:=⟨b,off + m * 7,none⟩) hbl).trans (hcell m hmlt).1),(by first | trivial | exact C7.ext hb hbl (hcell m hmlt).2 | exact C5.ext hb hbl (hcell m hmlt).2 | exact (hb.cell (p:=⟨b,off + m * 7 + 1,none⟩) hbl).trans (hcell m hmlt).2 | exact (hb.cell (p:=⟨b,off + m * 7 + 1,none⟩) hbl).trans (hcell m hmlt).2)⟩
 obtain ⟨c0,c1⟩:=C.out w (Below.refl _ _)
 have hd1:(xs.length:Int) / 2=(m:Int):=by omega
 have hd2:Int.tdiv (xs.length:Int) 2=(m:Int):=by rw [Int.tdiv_eq_ediv_of_nonneg (by omega)];omega
 have hwq:IntKind.i64.wrap ((m:Int) + 1)=(q:Int):=by rw [IntKind.wrap_i64];omega
 have hne:¬ xs.length=0:=by omega
 have hne':¬ (xs.length:Int)=0:=by omega
 have i1:(0:Int)≤(m:Int):=by omega
 have i2:(m:Int) < (xs.length:Int):=by omega
 have i3:(m:Int)≤(cap:Int):=by omega
 have i4:(q:Int)≤(xs.length:Int):=by omega
 have i5:(0:Int)≤(q:Int):=by omega
 have HF:=hidIt (h.from q (by omega))
 have HE:Hid (cap=q→RdR w (.slice (some ⟨b,off,none⟩) (xs.length - q) (cap - q)) (xs.drop q)):=fun he=>h.from_end he
 have HQ:=hidIt hq
 have HM:=hidIt hm
 clear h hcell ih w1 w2 hbr hw hq hm
 generalize xs[m]?.getD It.zero=x at *
 by_cases hcq:cap=q
 ·have e1:(xs.length=1∧cap=1∧m=0∧q=1)∨(xs.length=2∧cap=2∧m=1∧q=2):=by have h1:=HM.out;have h2:=HQ.out;omega
  have HV:=hidIt (HE.out hcq)
  clear HF HE hcq hd1 hd2 hwq hne hne' i1 i2 i3 i4 i5 HQ HM hmlt hlen hn hc hcm
  generalize xs.length=n at *
  rcases e1 with ⟨rfl,rfl,rfl,rfl⟩ | ⟨rfl,rfl,rfl,rfl⟩
  ·simp only [Nat.zero_mul,Nat.add_zero,Nat.sub_self] at *
   have hwq:IntKind.i64.wrap ((0:Int) + 1)=1:=by rw [IntKind.wrap_i64];omega
   have hwq':IntKind.i64.wrap (1:Int)=1:=by rw [IntKind.wrap_i64];omega
   go_enter Tryz.func105,Tryz.ntmps105
   go_wp2_with fail
   go_region_held3 (fun w'=>(w'.cell? ⟨b,off,none⟩=some (.slice x.p x.n x.c)∧w'.cell? ⟨b,off + 1,none⟩=some (.int .i64 x.pl)∧w'.cell? ⟨b,off + 2,none⟩=some (.int .i64 x.sp.a)∧w'.cell? ⟨b,off + 3,none⟩=some (.int .i64 x.sp.s)∧w'.cell? ⟨b,off + 4,none⟩=some (.int .i64 x.sp.b)∧w'.cell? ⟨b,off + 5,none⟩=some (.bool x.sp.lf)∧w'.cell? ⟨b,off + 6,none⟩=some (.bool x.sp.cr))∧True) (go_keep) (first
    | (go_at_call 105;refine (B1.out _ (by repeat (first | exact Below.refl _ _ | apply Below.drew))).mono ?_;clear B1;rintro e w1 ⟨u1,rfl,T1,hb1⟩;clear c0 c1;have HB1:=hidIt hb1;obtain ⟨c0,c1⟩:=C.out w1 hb1;clear hb1)
    | (go_at_call 105;refine (B2.out _ _ _ HV.out T1 (by repeat (first | exact HB1.out | apply Below.drew))).mono ?_;rintro e w2 ⟨u2,rfl,T2,hb1⟩;clear c0 c1;have HB2:=hidIt hb1;obtain ⟨c0,c1⟩:=C.out w2 hb1;clear hb1)
    | (go_at_call 126;refine (B3.out _ _ _ T2 (by repeat (first | exact HB2.out | apply Below.drew))).mono ?_;rintro e w3 ⟨u3,rfl,T3,hb1⟩;clear c0 c1;have HB3:=hidIt hb1;obtain ⟨c0,c1⟩:=C.out w3 hb1;clear hb1))
   all_goals
    go_wp2_with fail
    go_ret
    obtain ⟨t,k1,k2⟩:=T3.out
    exact ⟨_,t,rfl,k1,k2,HB3.out⟩
  ·simp only [Nat.one_mul,Nat.sub_self] at *
   have hwq:IntKind.i64.wrap ((1:Int) + 1)=2:=by rw [IntKind.wrap_i64];omega
   have hwq':IntKind.i64.wrap (2:Int)=2:=by rw [IntKind.wrap_i64];omega
   go_enter Tryz.func105,Tryz.ntmps105
   go_wp2_with fail
   go_region_held3 (fun w'=>(w'.cell? ⟨b,off + 7,none⟩=some (.slice x.p x.n x.c)∧w'.cell? ⟨b,off + 7 + 1,none⟩=some (.int .i64 x.pl)∧w'.cell? ⟨b,off + 7 + 2,none⟩=some (.int .i64 x.sp.a)∧w'.cell? ⟨b,off + 7 + 3,none⟩=some (.int .i64 x.sp.s)∧w'.cell? ⟨b,off + 7 + 4,none⟩=some (.int .i64 x.sp.b)∧w'.cell? ⟨b,off + 7 + 5,none⟩=some (.bool x.sp.lf)∧w'.cell? ⟨b,off + 7 + 6,none⟩=some (.bool x.sp.cr))∧True) (go_keep) (first
    | (go_at_call 105;refine (B1.out _ (by repeat (first | exact Below.refl _ _ | apply Below.drew))).mono ?_;clear B1;rintro e w1 ⟨u1,rfl,T1,hb1⟩;clear c0 c1;have HB1:=hidIt hb1;obtain ⟨c0,c1⟩:=C.out w1 hb1;clear hb1)
    | (go_at_call 105;refine (B2.out _ _ _ HV.out T1 (by repeat (first | exact HB1.out | apply Below.drew))).mono ?_;rintro e w2 ⟨u2,rfl,T2,hb1⟩;clear c0 c1;have HB2:=hidIt hb1;obtain ⟨c0,c1⟩:=C.out w2 hb1;clear hb1)
    | (go_at_call 126;refine (B3.out _ _ _ T2 (by repeat (first | exact HB2.out | apply Below.drew))).mono ?_;rintro e w3 ⟨u3,rfl,T3,hb1⟩;clear c0 c1;have HB3:=hidIt hb1;obtain ⟨c0,c1⟩:=C.out w3 hb1;clear hb1))
   all_goals
    go_wp2_with fail
    go_ret
    obtain ⟨t,k1,k2⟩:=T3.out
    exact ⟨_,t,rfl,k1,k2,HB3.out⟩
 ·have HV:=hidIt HF.out
  clear HF HE
  generalize xs.length=n at *
  go_enter Tryz.func105,Tryz.ntmps105
  go_wp2_with fail
  go_region_held3 (fun w'=>(w'.cell? ⟨b,off + m * 7,none⟩=some (.slice x.p x.n x.c)∧w'.cell? ⟨b,off + m * 7 + 1,none⟩=some (.int .i64 x.pl)∧w'.cell? ⟨b,off + m * 7 + 2,none⟩=some (.int .i64 x.sp.a)∧w'.cell? ⟨b,off + m * 7 + 3,none⟩=some (.int .i64 x.sp.s)∧w'.cell? ⟨b,off + m * 7 + 4,none⟩=some (.int .i64 x.sp.b)∧w'.cell? ⟨b,off + m * 7 + 5,none⟩=some (.bool x.sp.lf)∧w'.cell? ⟨b,off + m * 7 + 6,none⟩=some (.bool x.sp.cr))∧True) (go_keep) (first
   | (go_at_call 105;refine (B1.out _ (by repeat (first | exact Below.refl _ _ | apply Below.drew))).mono ?_;clear B1;rintro e w1 ⟨u1,rfl,T1,hb1⟩;clear c0 c1;have HB1:=hidIt hb1;obtain ⟨c0,c1⟩:=C.out w1 hb1;clear hb1)
   | (go_at_call 105;refine (B2.out _ _ _ HV.out T1 (by repeat (first | exact HB1.out | apply Below.drew))).mono ?_;rintro e w2 ⟨u2,rfl,T2,hb1⟩;clear c0 c1;have HB2:=hidIt hb1;obtain ⟨c0,c1⟩:=C.out w2 hb1;clear hb1)
   | (go_at_call 126;refine (B3.out _ _ _ T2 (by repeat (first | exact HB2.out | apply Below.drew))).mono ?_;rintro e w3 ⟨u3,rfl,T3,hb1⟩;clear c0 c1;have HB3:=hidIt hb1;obtain ⟨c0,c1⟩:=C.out w3 hb1;clear hb1))
  go_wp2_with fail
  go_ret
  obtain ⟨t,k1,k2⟩:=T3.out
  exact ⟨_,t,rfl,k1,k2,HB3.out⟩
theorem build_any (n:Nat):∀ (xs:List It) (v:Value) (w:World),xs.length≤n→RdR w v xs→wt xs≤4611686018427387904→Calls Tryz.prog 105 #[v] w fun e w'=>∃ u t,e=.returned (.pointer u)∧Tin w' t u∧Built t xs∧Below w.heap.size w w':=by
 have nilc:∀ (v:Value) (w:World),RdR w v []→Calls Tryz.prog 105 #[v] w fun e w'=>∃ u t,e=.returned (.pointer u)∧Tin w' t u∧Built t []∧Below w.heap.size w w':=by
  intro v w h
  obtain ⟨ao,cap,rfl,h1,h2,h0,h3⟩:=h
  clear h3 h0
  simp only [List.length_nil] at *
  go_enter Tryz.func105,Tryz.ntmps105
  go_wp2_with fail
  go_ret
  exact ⟨none,.nil,rfl,rfl,⟨rfl,trivial,by simp [Tr.ht,dig_zero]⟩,Below.refl _ _⟩
 induction n with
 | zero =>
   intro xs v w hn h _
   obtain rfl:xs=[]:=List.length_eq_zero_iff.1 (by omega)
   exact nilc v w h
 | succ n ih =>
   intro xs v w hn h hw
   by_cases he:xs=[]
   ·subst he;exact nilc v w h
   ·have hp:0 < xs.length:=List.length_pos_iff.2 he
    have h':=h
    obtain ⟨b,off,cap,rfl,h1,h2,h3,h4⟩:=h.at hp
    exact build_step xs b off cap w h' hp h1 h2 h3 hw h4 (fun ys v w hy hr hw'=>ih ys v w (by omega) hr hw')
def TT (w:World) (v:Value) (xs:List It):Prop:=∃ u t,v=.agg #[.pointer u]∧Tin w t u∧t.list=xs∧t.Bal
theorem TT.ext {w w':World} {v:Value} {xs:List It} (h:TT w v xs) (hb:Below w.heap.size w w'):TT w' v xs:=by
 obtain ⟨u,t,h1,h2,h3⟩:=h
 exact ⟨u,t,h1,h2.ext hb,h3⟩
theorem TT.nil (w:World):TT w (.agg #[.pointer none]) []:=⟨none,.nil,rfl,rfl,rfl,trivial⟩
theorem Of_any (v:Value) (xs:List It) (w:World) (h:RdR w v xs) (hw:wt xs≤4611686018427387904) :
  Calls Tryz.prog 74 #[v] w fun e w'=>∃ u,e=.returned (.agg #[.pointer u])∧TT w' (.agg #[.pointer u]) xs∧Below w.heap.size w w':=by
 have K:Hid (∀ w',Below w.heap.size w w'→Calls Tryz.prog 105 #[v] w' fun e w''=>∃ u,e=.returned (.pointer u)∧Hid (∃ t,Tin w'' t u∧Built t xs)∧Below w'.heap.size w' w''):=fun w' hb=>(build_any _ xs v w' (Nat.le_refl _) (h.ext hb) hw).mono fun _ _ ⟨u,t,k1,k2,k3,k4⟩=>⟨u,k1,⟨t,k2,k3⟩,k4⟩
 obtain ⟨ao,cap,rfl,_⟩:=h
 obtain ⟨w0,hw0⟩:∃ w0,w0=w.alloc (.cells #[.pointer none] 114):=⟨_,rfl⟩
 have hA:w0.heap[w.heap.size]?=some (.cells #[.pointer none] 114 (0,0)):=by rw [hw0];exact heap_alloc_new _ _
 have hb0:Below w.heap.size w w0:=by rw [hw0];exact ext_alloc (Below.refl _ _) _
 have hlt:w.heap.size < w0.heap.size:=by first | trivial | (rw [hw0];simp)
 go_enter Tryz.func74,Tryz.ntmps74
 go_wp2_with fail
 rw [← hw0]
 clear hw0
 refine (K.out w0 hb0).mono ?_
 rintro e w1 ⟨u,rfl,T1,hb1⟩
 have hA1:w1.heap[w.heap.size]?=some (.cells #[.pointer none] 114 (0,0)):=by rw [hb1.block _ hlt];exact hA
 have z0:w1.cell? ⟨w.heap.size,0,none⟩=some (.pointer none):=by first | trivial | (refine ⟨?_,?_,?_,?_,?_,?_,?_⟩ <;> (rw [cell_of_row w1 _ _ _ _ _ hA1];rfl)) | (refine ⟨?_,?_,?_,?_,?_⟩ <;> (rw [cell_of_row w1 _ _ _ _ _ hA1];rfl)) | (rw [cell_of_row w1 _ _ _ _ _ hA1];rfl)
 have zf:∀ i,w1.frozen? ⟨w.heap.size,i,none⟩=false:=by intro i;simp [World.frozen?,hA1]
 have HB1:=hidIt hb1
 have HB0:=hidIt hb0
 have HA1:=hidIt hA1
 clear hb1 hb0 hA hA1
 go_wp2_with fail
 obtain ⟨t,k1,k2,k3,k4⟩:=T1.out
 obtain ⟨p1,p2⟩:=set1 HA1.out 0 (.pointer u)
 exact bodyPost_ret (v:=.agg #[.pointer u]) (by simp [results,Tryz.results74,go_sem,z0]) rfl ⟨u,rfl,⟨u,t,rfl,k1.put HA1.out (by decide) p2,k2,k3⟩,below_put (ext_trans HB0.out HB1.out) (by have:=HB1.out.size;omega) p2 (Nat.le_refl _)⟩
theorem Size_any (u:Option Addr) (xs:List It) (w:World) (h:TT w (.agg #[.pointer u]) xs):Calls Tryz.prog 90 #[.agg #[.pointer u]] w fun e w'=>e=.returned (.int .i64 xs.length)∧Below w.heap.size w w':=by
 obtain ⟨u',t,hu,ht,hl,_⟩:=h
 obtain rfl:u=u':=by simpa using hu
 have K:Hid (∀ w',Below w.heap.size w w'→Calls Tryz.prog 102 #[.pointer u] w' fun e w''=>e=.returned (.int .i64 xs.length)∧w''=w'):=fun w' hb=>by rw [← hl];exact count_any t u w' (ht.ext hb)
 clear ht hl hu
 go_enter Tryz.func90,Tryz.ntmps90
 go_wp2_with (go_at_call 102;refine (K.out _ (by repeat (first | exact Below.refl _ _ | refine ext_alloc ?_ _))).mono ?_;rintro e w1 ⟨rfl,rfl⟩)
 go_ret
 exact ⟨rfl,ext_alloc (Below.refl _ _) _⟩
theorem Sum_any (u:Option Addr) (xs:List It) (w:World) (h:TT w (.agg #[.pointer u]) xs):Calls Tryz.prog 56 #[.agg #[.pointer u]] w fun e w'=>∃ s,Hid (s=rA.su xs)∧e=.returned (.agg #[.int .i64 s.a,.int .i64 s.s,.int .i64 s.b,.bool s.lf,.bool s.cr])∧Below w.heap.size w w':=by
 obtain ⟨u',t,hu,ht,hl,_⟩:=h
 obtain rfl:u=u':=by simpa using hu
 have K:Hid (∀ w',Below w.heap.size w w'→Calls Tryz.prog 96 #[.pointer u] w' fun e w''=>∃ s,Hid (s=rA.su xs)∧e=.returned (.agg #[.int .i64 s.a,.int .i64 s.s,.int .i64 s.b,.bool s.lf,.bool s.cr])∧Below w'.heap.size w' w''):=fun w' hb=>by rw [← hl];exact total_any t u w' (ht.ext hb)
 obtain ⟨w0,hw0⟩:∃ w0,w0=(w.alloc (.cells #[.pointer u] 114)).alloc (.cells #[.int .i64 0,.int .i64 0,.int .i64 0,.bool false,.bool false] 119):=⟨_,rfl⟩
 have hA:Blk 119 w0 (w.heap.size + 1) Rs.zero:=by
  have:=Blk.new 119 (w.alloc (.cells #[.pointer u] 114)) Rs.zero
  rw [World.size_alloc] at this
  rw [hw0];exact this
 have hb0:Below w.heap.size w w0:=by rw [hw0];exact ext_alloc (ext_alloc (Below.refl _ _) _) _
 clear ht hl hu
 go_enter Tryz.func56,Tryz.ntmps56
 go_wp2_with fail
 rw [← hw0]
 clear hw0
 refine (K.out w0 hb0).mono ?_
 rintro e w1 ⟨s,HS,rfl,hb1⟩
 have hA1:=hA.ext hb1
 obtain ⟨z0,z1,z2,z3,zf⟩:=hA1.cells
 have HB:=hidIt (ext_trans hb0 hb1)
 have hsz:w.heap.size + 1 < w1.heap.size:=hA1.lt
 clear hb0 hb1
 go_wp2_with fail
 obtain ⟨p1,p2⟩:=hA1.put s
 exact bodyPost_ret (v:=.agg #[.int .i64 s.a,.int .i64 s.s,.int .i64 s.b,.bool s.lf,.bool s.cr]) (by simp [results,Tryz.results56,go_sem,z0]) rfl ⟨s,HS,rfl,below_put HB.out (by omega) p2 (by omega)⟩
end Go.Proofs.YtjjfakokakamaaaGreat.P

namespace Go.Proofs.YtjjfakokakamaaaGreat.P
open Go.RowKit
def Typ (T:TypeId) (w:World) (b:Nat):Prop:=∃ cs,w.heap[b]?=some (.cells cs T (0,0))
theorem Typ.lt {T:TypeId} {w:World} {b:Nat} (h:Typ T w b):b < w.heap.size:=by obtain ⟨_,h⟩:=h;exact (Array.getElem?_eq_some_iff.1 h).1
theorem Typ.uniq {T U:TypeId} {w:World} {b:Nat} (h:Typ T w b) (k:Typ U w b):T=U:=by
 obtain ⟨_,h⟩:=h
 obtain ⟨_,k⟩:=k
 rw [h] at k
 simp only [Option.some.injEq,Obj.cells.injEq] at k
 exact k.2.1
theorem Typ.ext {T:TypeId} {w w':World} {b:Nat} (h:Typ T w b) (hb:Below w.heap.size w w'):Typ T w' b:=by
 obtain ⟨cs,h1⟩:=h
 exact ⟨cs,(hb.block b (Array.getElem?_eq_some_iff.1 h1).1).trans h1⟩
def RwU (w:World) (b o:Nat) (zs:List Int):Prop:=∃ cs:Array Value,w.heap[b]?=some (.cells cs 5 (0,0))∧(cs.toList.drop o).take zs.length=zs.map (Value.int .u8)
theorem RwU.typ {w:World} {b o:Nat} {zs:List Int} (h:RwU w b o zs):Typ 5 w b:=by obtain ⟨cs,h,_⟩:=h;exact ⟨cs,h⟩
theorem RwU.lt {w:World} {b o:Nat} {zs:List Int} (h:RwU w b o zs):b < w.heap.size:=h.typ.lt
theorem RwU.same {w w':World} {b o:Nat} {zs:List Int} (h:RwU w b o zs) (hb:w'.heap[b]?=w.heap[b]?):RwU w' b o zs:=by obtain ⟨cs,h1,h2⟩:=h;exact ⟨cs,by rw [hb];exact h1,h2⟩
theorem RwU.ext {w w':World} {b o:Nat} {zs:List Int} (h:RwU w b o zs) (hb:Below w.heap.size w w'):RwU w' b o zs:=h.same (hb.block b h.lt)
theorem RwU.rd {w:World} {b o:Nat} {zs:List Int} (h:RwU w b o zs) (c:Nat) (h1:zs.length≤c) (h2:c≤9223372036854775807):Rd .u8 w (.slice (some ⟨b,o,none⟩) zs.length c) zs:=by
 obtain ⟨cs,h3,h4⟩:=h
 refine ⟨_,c,rfl,h1,by unfold maxLen;exact h2,fun _=>⟨b,o,rfl,(Array.getElem?_eq_some_iff.1 h3).1,fun i hi=>?_⟩⟩
 rw [cell_of_row w b _ cs _ _ h3]
 have:=congrArg (fun l=>l[i]?) h4
 simp only [List.getElem?_take,List.getElem?_map,if_pos hi,List.getElem?_drop] at this
 rw [List.getElem?_eq_getElem hi] at this ⊢
 simpa using this
theorem RwU.part {w:World} {b o:Nat} {zs:List Int} (h:RwU w b o zs) (i n:Nat) (hi:i + n≤zs.length):RwU w b (o + i) ((zs.drop i).take n):=by
 obtain ⟨cs,h3,h4⟩:=h
 refine ⟨cs,h3,?_⟩
 have e:(((cs.toList.drop o).take zs.length).drop i).take n=((zs.map (Value.int .u8)).drop i).take n:=by rw [h4]
 rw [List.drop_take,List.drop_drop,List.take_take,Nat.min_eq_left (by omega)] at e
 rw [List.length_take,List.length_drop,Nat.min_eq_left (by omega),e]
 simp
theorem RwU.of {w:World} {b:Nat} {zs:List Int} (h:w.heap[b]?=some (.cells (zs.map (Value.int .u8)).toArray 5 (0,0))):RwU w b 0 zs:=⟨_,h,by show ((zs.map (Value.int .u8)).drop 0).take _=_;rw [List.drop_zero,List.take_of_length_le (by rw [List.length_map];exact Nat.le_refl _)]⟩
structure Pc (enc:Int) (L:List Int) (w:World) (x:It) (g:List Int):Prop where
 gr:Gr enc g
 mem:∃ b o,x.p=some ⟨b,o,none⟩∧RwU w b o (Cx.encB enc g)
 xn:x.n=ln enc g
 xc:x.c=ln enc g
 sp:x.sp=spn enc g
 pl:x.pl=-1∨∃ i:Nat,x.pl=(off enc L i:Nat)∧((Cx.dec enc L).drop i).take g.length=g∧i + g.length≤(Cx.dec enc L).length
theorem Pc.same {enc:Int} {L:List Int} {w w':World} {x:It} {g:List Int} (h:Pc enc L w x g) (hb:∀ b,Typ 5 w b→w'.heap[b]?=w.heap[b]?):Pc enc L w' x g:=by
 obtain ⟨h1,⟨b,o,h2,h3⟩,h4,h5,h6,h7⟩:=h
 exact ⟨h1,⟨b,o,h2,h3.same (hb b h3.typ)⟩,h4,h5,h6,h7⟩
theorem Pc.ext {enc:Int} {L:List Int} {w w':World} {x:It} {g:List Int} (h:Pc enc L w x g) (hb:Below w.heap.size w w'):Pc enc L w' x g:=h.same fun b hb'=>hb.block b hb'.lt
theorem Pc.rd {enc:Int} {L:List Int} {w:World} {x:It} {g:List Int} (h:Pc enc L w x g) (hl:ln enc g≤4611686018427387904):Rd .u8 w (.slice x.p x.n x.c) (Cx.encB enc g):=by
 obtain ⟨h1,⟨b,o,h2,h3⟩,h4,h5,h6,h7⟩:=h
 rw [h2,h4,h5]
 exact h3.rd _ (Nat.le_refl _) (by omega)
theorem Pc.low {enc:Int} {L:List Int} {w:World} {x:It} {g:List Int} (h:Pc enc L w x g):-1≤x.pl:=by
 rcases h.pl with e | ⟨i,e,_⟩
 ·omega
 ·omega
theorem Pc.end {enc:Int} (he:Cx.En enc) {L:List Int} (hL:Byt L) {w:World} {x:It} {g:List Int} (h:Pc enc L w x g):x.pl + ln enc g≤max (L.length:Int) (ln enc g):=by
 rcases h.pl with e | ⟨i,e,h1,h2⟩
 ·omega
 ·have:=(Gr.load he hL h1 h2 h.gr.ne).2.2.2
  omega
abbrev PG:=It × List Int
def xsOf (ps:List PG):List It:=ps.map Prod.fst
def asOf (ps:List PG):List Int:=ps.flatMap Prod.snd
def sh (enc:Int) (ps:List PG):List (Int × Int):=ps.flatMap fun q=>ctn enc q.1.pl q.2
def Pcs (enc:Int) (L:List Int) (w:World) (ps:List PG):Prop:=∀ q ∈ ps,Pc enc L w q.1 q.2
theorem Pcs.ext {enc:Int} {L:List Int} {w w':World} {ps:List PG} (h:Pcs enc L w ps) (hb:Below w.heap.size w w'):Pcs enc L w' ps:=fun q hq=>(h q hq).ext hb
theorem Pcs.same {enc:Int} {L:List Int} {w w':World} {ps:List PG} (h:Pcs enc L w ps) (hb:∀ b,Typ 5 w b→w'.heap[b]?=w.heap[b]?):Pcs enc L w' ps:=fun q hq=>(h q hq).same hb
theorem Pcs.app {enc:Int} {L:List Int} {w:World} {a b:List PG} (h:Pcs enc L w a) (k:Pcs enc L w b):Pcs enc L w (a ++ b):=fun q hq=>(List.mem_append.1 hq).elim (h q) (k q)
theorem Pcs.nil (enc:Int) (L:List Int) (w:World):Pcs enc L w []:=fun _ h=>by cases h
theorem xsOf_app (a b:List PG):xsOf (a ++ b)=xsOf a ++ xsOf b:=by simp [xsOf]
theorem xsOf_len (a:List PG):(xsOf a).length=a.length:=by simp [xsOf]
theorem asOf_app (a b:List PG):asOf (a ++ b)=asOf a ++ asOf b:=by simp [asOf]
theorem sh_app (enc:Int) (a b:List PG):sh enc (a ++ b)=sh enc a ++ sh enc b:=by simp [sh]
theorem sh_one (enc:Int) (x:It) (g:List Int):sh enc [(x,g)]=ctn enc x.pl g:=by simp [sh]
theorem sh_cons (enc:Int) (q:PG) (a:List PG):sh enc (q :: a)=ctn enc q.1.pl q.2 ++ sh enc a:=by simp [sh]
theorem sh_fst (enc:Int) (a:List PG):(sh enc a).map Prod.fst=asOf a:=by
 induction a with
 | nil=>rfl
 | cons q a ih=>rw [sh_cons,List.map_append,ctn_fst,ih];simp [asOf]
theorem sh_len (enc:Int) (a:List PG):(sh enc a).length=(asOf a).length:=by rw [← sh_fst enc a,List.length_map]
theorem Pcs.fit {enc:Int} {L:List Int} {w:World} {ps:List PG} (h:Pcs enc L w ps):∀ a ∈ asOf ps,Cx.fits enc a=true:=by
 intro a ha
 simp only [asOf,List.mem_flatMap] at ha
 obtain ⟨q,hq,ha⟩:=ha
 exact (h q hq).gr.fit a ha
theorem Pcs.su {enc:Int} {L:List Int} {w:World} {ps:List PG} (h:Pcs enc L w ps):rA.su (xsOf ps)=spn enc (asOf ps):=by
 induction ps with
 | nil=>rfl
 | cons q ps ih =>
   rw [show xsOf (q :: ps)=q.1 :: xsOf ps from rfl,Alg.su_cons,ih (fun r hr=>h r (List.mem_cons_of_mem _ hr)),show asOf (q :: ps)=q.2 ++ asOf ps by simp [asOf],spn_app]
   have:=(h q List.mem_cons_self).sp
   show Rs.add q.1.sp _=_
   rw [this]
theorem Pcs.wt {enc:Int} {L:List Int} {w:World} {ps:List PG} (h:Pcs enc L w ps):wt (xsOf ps)≤4 * ln enc (asOf ps):=by
 induction ps with
 | nil=>exact Nat.zero_le _
 | cons q ps ih =>
   have hq:=h q List.mem_cons_self
   have i:=ih (fun r hr=>h r (List.mem_cons_of_mem _ hr))
   rw [show xsOf (q :: ps)=q.1 :: xsOf ps from rfl,wt_cons,show asOf (q :: ps)=q.2 ++ asOf ps by simp [asOf],ln_app,hq.sp]
   obtain ⟨k1,k2⟩:=spn_a enc q.2 hq.gr.fit
   have k3:=spn_b enc q.2
   have k4:=ln_ge enc q.2
   have k5:=hq.gr.pos
   omega
theorem Pcs.len {enc:Int} {L:List Int} {w:World} {ps:List PG} (h:Pcs enc L w ps):ps.length≤(asOf ps).length:=by
 induction ps with
 | nil=>exact Nat.le_refl _
 | cons q ps ih =>
   have i:=ih (fun r hr=>h r (List.mem_cons_of_mem _ hr))
   have k5:=(h q List.mem_cons_self).gr.pos
   rw [show asOf (q :: ps)=q.2 ++ asOf ps by simp [asOf],List.length_cons,List.length_append]
   omega
def mkp (enc:Int) (b o:Nat):Nat→List (List Int)→List PG
 | _,[]=>[]
 | pl,g :: gs=>(mkx enc b o pl g,g) :: mkp enc b o (pl + ln enc g) gs
theorem mkp_xs (enc:Int) (b o:Nat):∀ (gs:List (List Int)) (pl:Nat),xsOf (mkp enc b o pl gs)=mks enc b o pl gs:=by
 intro gs
 induction gs with
 | nil=>intro pl;rfl
 | cons g gs ih=>intro pl;rw [mkp,mks];show _ :: xsOf _=_;rw [ih]
theorem mkp_as (enc:Int) (b o:Nat):∀ (gs:List (List Int)) (pl:Nat),asOf (mkp enc b o pl gs)=gs.flatten:=by
 intro gs
 induction gs with
 | nil=>intro pl;rfl
 | cons g gs ih=>intro pl;rw [mkp,show asOf ((mkx enc b o pl g,g) :: mkp enc b o (pl + ln enc g) gs)=g ++ asOf (mkp enc b o (pl + ln enc g) gs) by simp [asOf],ih];rfl
theorem mkp_sh (enc:Int) (b o:Nat):∀ (gs:List (List Int)) (pl:Nat),sh enc (mkp enc b o pl gs)=ctn enc (pl:Nat) gs.flatten:=by
 intro gs
 induction gs with
 | nil=>intro pl;rfl
 | cons g gs ih =>
   intro pl
   rw [mkp,sh_cons,ih,List.flatten_cons,ctn_app enc _ _ _ (by omega)]
   congr 2
theorem mkp_pcs (enc:Int) (he:Cx.En enc) (L:List Int) (hL:Byt L) (w:World) (b o:Nat) (hR:RwU w b o L):∀ (gs:List (List Int)) (k:Nat),(∀ g ∈ gs,Gr enc g)→(Cx.dec enc L).drop k=gs.flatten→k≤(Cx.dec enc L).length→Pcs enc L w (mkp enc b o (off enc L k) gs):=by
 intro gs
 induction gs with
 | nil=>intro k _ _ _;exact Pcs.nil _ _ _
 | cons g gs ih =>
   intro k hg hk hkl
   have g1:=hg g List.mem_cons_self
   rw [List.flatten_cons] at hk
   have hlen:=congrArg List.length hk
   rw [List.length_drop,List.length_append] at hlen
   have e1:((Cx.dec enc L).drop k).take g.length=g:=by rw [hk,List.take_left' rfl]
   obtain ⟨_,k2,k3,k4⟩:=Gr.load he hL e1 (by omega) g1.ne
   rw [mkp]
   intro q hq
   rcases List.mem_cons.1 hq with rfl | hq
   ·refine ⟨g1,⟨b,o + off enc L k,rfl,?_⟩,rfl,rfl,rfl,.inr ⟨k,rfl,e1,by show k + g.length≤_;omega⟩⟩
    have:=hR.part (off enc L k) (ln enc g) k4
    rw [k2] at this
    exact this
   ·refine ih (k + g.length) (fun h hh=>hg h (List.mem_cons_of_mem _ hh)) ?_ (by omega) q (by rw [← k3];exact hq)
    rw [← List.drop_drop,hk,List.drop_left' rfl]
end Go.Proofs.YtjjfakokakamaaaGreat.P

namespace Go.Proofs.YtjjfakokakamaaaGreat.P
open Go.RowKit
theorem flat_set (x:It):∀ (xs:List It) (i:Nat),i < xs.length→flat (xs.set i x)=(((((((flat xs).set (i * 7) (.slice x.p x.n x.c)).set (i * 7 + 1) (.int .i64 x.pl)).set (i * 7 + 2) (.int .i64 x.sp.a)).set (i * 7 + 3) (.int .i64 x.sp.s)).set (i * 7 + 4) (.int .i64 x.sp.b)).set (i * 7 + 5) (.bool x.sp.lf)).set (i * 7 + 6) (.bool x.sp.cr):=by
 intro xs
 induction xs with
 | nil=>intro i h;simp at h
 | cons y xs ih =>
   intro i h
   cases i with
   | zero=>rfl
   | succ i =>
     rw [List.set_cons_succ,flat_cons,flat_cons,ih i (by simpa using h)]
     have hs:∀ (l:List Value) (r:Nat) (v:Value),(pcs y ++ l).set ((i + 1) * 7 + r) v=pcs y ++ l.set (i * 7 + r) v:=fun l r v=>by
      rw [List.set_append_right _ _ (by show 7≤_;omega)]
      congr 2
      show _ - 7=_
      omega
     have h0:=hs (flat xs) 0 (.slice x.p x.n x.c)
     simp only [Nat.add_zero] at h0
     rw [h0,hs,hs,hs,hs,hs,hs]
theorem put7 {T:TypeId} {w:World} {g:Nat} {cs:Array Value} (hg:w.heap[g]?=some (.cells cs T (0,0))) (o:Nat) (x:It) :
  let w':=(((((((w.setCell ⟨g,o,none⟩ (.slice x.p x.n x.c)).setCell ⟨g,o + 1,none⟩ (.int .i64 x.pl)).setCell ⟨g,o + 2,none⟩ (.int .i64 x.sp.a)).setCell ⟨g,o + 3,none⟩ (.int .i64 x.sp.s)).setCell ⟨g,o + 4,none⟩ (.int .i64 x.sp.b)).setCell ⟨g,o + 5,none⟩ (.bool x.sp.lf)).setCell ⟨g,o + 6,none⟩ (.bool x.sp.cr))
  w'.heap[g]?=some (.cells (((((((cs.setIfInBounds o (.slice x.p x.n x.c)).setIfInBounds (o + 1) (.int .i64 x.pl)).setIfInBounds (o + 2) (.int .i64 x.sp.a)).setIfInBounds (o + 3) (.int .i64 x.sp.s)).setIfInBounds (o + 4) (.int .i64 x.sp.b)).setIfInBounds (o + 5) (.bool x.sp.lf)).setIfInBounds (o + 6) (.bool x.sp.cr)) T (0,0))∧w.grownBy w' (some g):=by
 obtain ⟨h1,g1⟩:=set1 hg o (.slice x.p x.n x.c)
 obtain ⟨h2,g2⟩:=set1 h1 (o + 1) (.int .i64 x.pl)
 obtain ⟨h3,g3⟩:=set1 h2 (o + 2) (.int .i64 x.sp.a)
 obtain ⟨h4,g4⟩:=set1 h3 (o + 3) (.int .i64 x.sp.s)
 obtain ⟨h5,g5⟩:=set1 h4 (o + 4) (.int .i64 x.sp.b)
 obtain ⟨h6,g6⟩:=set1 h5 (o + 5) (.bool x.sp.lf)
 obtain ⟨h7,g7⟩:=set1 h6 (o + 6) (.bool x.sp.cr)
 exact ⟨h7,grown_trans (grown_trans (grown_trans (grown_trans (grown_trans (grown_trans g1 g2) g3) g4) g5) g6) g7⟩
def RwP (w:World) (b o:Nat) (xs:List It):Prop:=∃ cs:Array Value,w.heap[b]?=some (.cells cs 122 (0,0))∧(cs.toList.drop o).take (xs.length * 7)=flat xs
theorem RwP.typ {w:World} {b o:Nat} {xs:List It} (h:RwP w b o xs):Typ 122 w b:=by obtain ⟨cs,h,_⟩:=h;exact ⟨cs,h⟩
theorem RwP.lt {w:World} {b o:Nat} {xs:List It} (h:RwP w b o xs):b < w.heap.size:=h.typ.lt
theorem RwP.same {w w':World} {b o:Nat} {xs:List It} (h:RwP w b o xs) (hb:w'.heap[b]?=w.heap[b]?):RwP w' b o xs:=by obtain ⟨cs,h1,h2⟩:=h;exact ⟨cs,by rw [hb];exact h1,h2⟩
theorem RwP.ext {w w':World} {b o:Nat} {xs:List It} (h:RwP w b o xs) (hb:Below w.heap.size w w'):RwP w' b o xs:=h.same (hb.block b h.lt)
theorem RwP.cell {w:World} {b o:Nat} {xs:List It} (h:RwP w b o xs) (i:Nat) (hi:i < xs.length):(w.cell? ⟨b,o + i * 7,none⟩=some (.slice (xs[i]?.getD It.zero).p (xs[i]?.getD It.zero).n (xs[i]?.getD It.zero).c)∧w.cell? ⟨b,o + i * 7 + 1,none⟩=some (.int .i64 (xs[i]?.getD It.zero).pl)∧w.cell? ⟨b,o + i * 7 + 2,none⟩=some (.int .i64 (xs[i]?.getD It.zero).sp.a)∧w.cell? ⟨b,o + i * 7 + 3,none⟩=some (.int .i64 (xs[i]?.getD It.zero).sp.s)∧w.cell? ⟨b,o + i * 7 + 4,none⟩=some (.int .i64 (xs[i]?.getD It.zero).sp.b)∧w.cell? ⟨b,o + i * 7 + 5,none⟩=some (.bool (xs[i]?.getD It.zero).sp.lf)∧w.cell? ⟨b,o + i * 7 + 6,none⟩=some (.bool (xs[i]?.getD It.zero).sp.cr)):=by
 obtain ⟨cs,h3,h4⟩:=h
 have h5:∀ r,r < 7→w.cell? ⟨b,o + i * 7 + r,none⟩=(pcs (xs[i]?.getD It.zero))[r]?:=by
  intro r hr
  have h6:=flat_at xs i hi r hr
  rw [← h4,List.getElem?_take,if_pos (by omega),List.getElem?_drop] at h6
  rw [cell_of_row w b _ cs _ (0,0) h3,Nat.add_assoc]
  simpa using h6
 exact ⟨h5 0 (by omega),h5 1 (by omega),h5 2 (by omega),h5 3 (by omega),h5 4 (by omega),h5 5 (by omega),h5 6 (by omega)⟩
theorem RwP.tail {w:World} {b o:Nat} {x:It} {xs:List It} (h:RwP w b o (x :: xs)):RwP w b (o + 7) xs:=by
 obtain ⟨cs,h1,h2⟩:=h
 refine ⟨cs,h1,?_⟩
 have e:(((cs.toList.drop o).take ((x :: xs).length * 7)).drop 7)=(flat (x :: xs)).drop 7:=by rw [h2]
 rw [List.drop_take,List.drop_drop,flat_cons,List.length_cons,show (xs.length + 1) * 7 - 7=xs.length * 7 by omega] at e
 rw [e]
 rfl
theorem drop_set' (l:List Value) (o k:Nat) (v:Value):(l.set (o + k) v).drop o=(l.drop o).set k v:=by
 rw [List.drop_set,if_neg (by omega)]
 congr 1
 omega
theorem RwP.put {w:World} {b o:Nat} {xs:List It} (h:RwP w b o xs) (i:Nat) (hi:i < xs.length) (x:It) :
  let w':=(((((((w.setCell ⟨b,o + i * 7,none⟩ (.slice x.p x.n x.c)).setCell ⟨b,o + i * 7 + 1,none⟩ (.int .i64 x.pl)).setCell ⟨b,o + i * 7 + 2,none⟩ (.int .i64 x.sp.a)).setCell ⟨b,o + i * 7 + 3,none⟩ (.int .i64 x.sp.s)).setCell ⟨b,o + i * 7 + 4,none⟩ (.int .i64 x.sp.b)).setCell ⟨b,o + i * 7 + 5,none⟩ (.bool x.sp.lf)).setCell ⟨b,o + i * 7 + 6,none⟩ (.bool x.sp.cr))
  RwP w' b o (xs.set i x)∧w.grownBy w' (some b):=by
 obtain ⟨cs,h1,h2⟩:=h
 obtain ⟨k1,k2⟩:=put7 h1 (o + i * 7) x
 refine ⟨⟨_,k1,?_⟩,k2⟩
 simp only [Array.toList_setIfInBounds,List.length_set]
 simp only [Nat.add_assoc,drop_set',List.take_set]
 rw [h2,flat_set x xs i hi]
theorem OwnR.row {w:World} {base:Nat} {v:Value} {xs:List It} (h:OwnR w base 122 v xs) (hn:0 < xs.length):∃ g cap,v=.slice (some ⟨g,0,none⟩) xs.length cap∧base≤g∧g < w.heap.size∧xs.length≤cap∧cap≤9223372036854775807∧RwP w g 0 xs:=by
 obtain ⟨_,h2⟩:=h
 rcases h2 with ⟨_,h2⟩ | ⟨g,cap,cur,hv,hb,hg,h3,h4,h5,h6⟩
 ·omega
 ·exact ⟨g,cap,hv,hb,(Array.getElem?_eq_some_iff.1 hg).1,h3,by unfold maxLen at h4;exact h4,⟨cur,hg,by simpa using h6⟩⟩
theorem OwnR.set {w:World} {base g cap:Nat} {xs:List It} (h:OwnR w base 122 (.slice (some ⟨g,0,none⟩) xs.length cap) xs) (i:Nat) (hi:i < xs.length) (x:It) :
  let w':=(((((((w.setCell ⟨g,0 + i * 7,none⟩ (.slice x.p x.n x.c)).setCell ⟨g,0 + i * 7 + 1,none⟩ (.int .i64 x.pl)).setCell ⟨g,0 + i * 7 + 2,none⟩ (.int .i64 x.sp.a)).setCell ⟨g,0 + i * 7 + 3,none⟩ (.int .i64 x.sp.s)).setCell ⟨g,0 + i * 7 + 4,none⟩ (.int .i64 x.sp.b)).setCell ⟨g,0 + i * 7 + 5,none⟩ (.bool x.sp.lf)).setCell ⟨g,0 + i * 7 + 6,none⟩ (.bool x.sp.cr))
  OwnR w' base 122 (.slice (some ⟨g,0,none⟩) xs.length cap) (xs.set i x)∧w.grownBy w' (some g):=by
 obtain ⟨h0,h2⟩:=h
 rcases h2 with ⟨hv,_⟩ | ⟨g',cap',cur,hv,hb,hg,h3,h4,h5,h6⟩
 ·cases hv
 simp only [Value.slice.injEq,Option.some.injEq,Addr.mk.injEq] at hv
 obtain ⟨⟨hg',_⟩,_,hc'⟩:=hv
 subst hg'
 subst hc'
 obtain ⟨k1,k2⟩:=put7 hg (0 + i * 7) x
 refine ⟨⟨by rw [flat_len,List.length_set],.inr ⟨g,cap,_,by rw [List.length_set],hb,k1,by rw [List.length_set];exact h3,h4,?_,?_⟩⟩,k2⟩
 ·simpa using h5
 ·simp only [Array.toList_setIfInBounds,List.length_set,List.take_set,Nat.zero_add]
  rw [h6,flat_set x xs i hi]
end Go.Proofs.YtjjfakokakamaaaGreat.P

namespace Go.Proofs.YtjjfakokakamaaaGreat.P
open Go.RowKit
set_option maxRecDepth 100000 in
set_option maxHeartbeats 1000000 in
theorem copyOf_any (v:Value) (zs:List Int) (w:World) (h:Rd .u8 w v zs) (hl:zs.length≤1099511627776) :
  Calls Tryz.prog 73 #[v] w fun e w'=>e=.returned (.slice (some ⟨w.heap.size,0,none⟩) zs.length zs.length)∧w'.heap[w.heap.size]?=some (.cells (zs.map (Value.int .u8)).toArray 5 (0,0))∧Below w.heap.size w w':=by
 obtain ⟨i0,hi,hz0,hz1,hz2⟩:=info_parts Tryz.info_u8
 obtain ⟨ao,cap,rfl,h1,h2,h3⟩:=h
 have H3:=hidIt h3
 clear h3
 go_enter Tryz.func73,Tryz.ntmps73
 go_upto_region 2 with (refine wpList_make_full w rfl _ _ 32 rfl w.heap.size 5 i0 (.int .u8 0) 1 Tryz.underlying32 hi hz0 hz1 .i64 .i64 _ _ zs.length rfl rfl rfl rfl (by rw [hz2];omega) (by unfold maxLen;omega) (Nat.le_refl _) ?_;intro w1 hO hg;have HO:=hidIt hO;have HG:=hidIt hg;clear hO hg)
 obtain ⟨e1,hh⟩:=HO.out
 rcases hh with ⟨hv,_⟩ | ⟨g,cp,cur,hv,_,hcur,hcp1,hcp2,hcs,htk⟩
 ·cases hv
 simp only [Value.slice.injEq,Option.some.injEq,Addr.mk.injEq] at hv
 obtain ⟨⟨hg0,_,_⟩,_,hcp⟩:=hv
 subst hg0
 subst hcp
 have HCUR:=hidIt (show w1.heap[w.heap.size]?=some (.cells cur.toList.toArray 5 (0,0)) from hcur)
 have hlen:cur.toList.length=zs.length:=by rw [Array.length_toList,hcs,Nat.mul_one]
 have HB1:=hidIt (Below.grown (Below.refl w.heap.size w) HG.out (Nat.le_refl _) (fun k e=>by cases e))
 clear htk e1 hcur
 have HSRC:Hid (0 < (zs.map (Value.int .u8)).length→(some (⟨w.heap.size,0,none⟩:Addr))=some ⟨w.heap.size,0,none⟩∧∃ ad,ao=some ad∧∀ j u,(zs.map (Value.int .u8))[j]?=some u→w1.cell? (ad.add j)=some u):=fun hp=>by
  rw [List.length_map] at hp
  obtain ⟨b,off,rfl,hb,hc⟩:=H3.out (List.length_pos_iff.1 hp)
  refine ⟨rfl,_,rfl,fun j u hj=>?_⟩
  have hjl:j < zs.length:=by
   have:=(List.getElem?_eq_some_iff.1 hj).1
   rwa [List.length_map] at this
  rw [Addr.add_lit,HB1.out.cell (p:=⟨b,off + j,none⟩) hb,hc j hjl,← hj,List.getElem?_map,List.getElem?_eq_getElem hjl]
  rfl
 go_wp2_with (refine wpList_copy_splice rfl _ _ 32 32 rfl 5 Tryz.underlying32 (by rw [hi];simp [hz1]) _ _ _ _ _ _ rfl rfl w.heap.size 0 cur.toList 5 HCUR.out (zs.map (Value.int .u8)) (by simp) HSRC.out (by simp only [List.length_map];omega) (by simp [Value.oneCell']) w.heap.size w HB1.out (Nat.le_refl _) ?_;intro w2 hE hb2;have HE2:=hidIt hE.out;have HB2:=hidIt hb2;clear hE hb2)
 go_ret
 refine ⟨rfl,?_,HB2.out⟩
 have e:=HE2.out
 have es:splice cur.toList 0 (zs.map (Value.int .u8))=zs.map (Value.int .u8):=by
  unfold splice
  rw [List.take_zero,List.nil_append,List.drop_of_length_le (by rw [List.length_map];omega),List.append_nil]
 rw [es] at e
 exact e
end Go.Proofs.YtjjfakokakamaaaGreat.P

namespace Go.Proofs.YtjjfakokakamaaaGreat.P
open Go.RowKit
theorem three_blocks (w:World) (x y:It):∃ w0,w0=((w.alloc (.cells #[.slice x.p x.n x.c,.int .i64 x.pl,.int .i64 x.sp.a,.int .i64 x.sp.s,.int .i64 x.sp.b,.bool x.sp.lf,.bool x.sp.cr] 122)).alloc (.cells #[.slice y.p y.n y.c,.int .i64 y.pl,.int .i64 y.sp.a,.int .i64 y.sp.s,.int .i64 y.sp.b,.bool y.sp.lf,.bool y.sp.cr] 122)).alloc (.cells #[.slice none 0 0,.int .i64 0,.int .i64 0,.int .i64 0,.int .i64 0,.bool false,.bool false] 122) ∧
  BlkI w0 w.heap.size x∧BlkI w0 (w.heap.size + 1) y∧BlkI w0 (w.heap.size + 2) It.zero∧Below w.heap.size w w0∧w0.heap.size=w.heap.size + 3:=by
 refine ⟨_,rfl,?_,?_,?_,?_,by simp⟩
 ·exact BlkI.ext (BlkI.ext (w:=w.alloc _) (heap_alloc_new _ _) (ext_alloc (Below.refl _ _) _)) (ext_alloc (Below.refl _ _) _)
 ·have e:w.heap.size + 1=(w.alloc (.cells #[.slice x.p x.n x.c,.int .i64 x.pl,.int .i64 x.sp.a,.int .i64 x.sp.s,.int .i64 x.sp.b,.bool x.sp.lf,.bool x.sp.cr] 122)).heap.size:=by simp
  rw [e]
  exact BlkI.ext (w:=(w.alloc _).alloc _) (heap_alloc_new _ _) (ext_alloc (Below.refl _ _) _)
 ·have e:w.heap.size + 2=((w.alloc (.cells #[.slice x.p x.n x.c,.int .i64 x.pl,.int .i64 x.sp.a,.int .i64 x.sp.s,.int .i64 x.sp.b,.bool x.sp.lf,.bool x.sp.cr] 122)).alloc (.cells #[.slice y.p y.n y.c,.int .i64 y.pl,.int .i64 y.sp.a,.int .i64 y.sp.s,.int .i64 y.sp.b,.bool y.sp.lf,.bool y.sp.cr] 122)).heap.size:=by simp
  rw [e]
  exact heap_alloc_new _ _
 ·exact ext_alloc (ext_alloc (ext_alloc (Below.refl _ _) _) _) _
theorem Pc.src {enc:Int} {L:List Int} {w:World} {x:It} {g:List Int} (h:Pc enc L w x g):∃ ad,x.p=some ad∧∀ w',Below w.heap.size w w'→∀ j v,((Cx.encB enc g).map (Value.int .u8))[j]?=some v→w'.cell? (ad.add j)=some v:=by
 obtain ⟨b,o,hp,hr⟩:=h.mem
 refine ⟨_,hp,fun w' hb j v hj=>?_⟩
 obtain ⟨cs,h1,h2⟩:=hr.ext hb
 rw [Addr.add_lit,cell_of_row w' b _ cs _ _ h1]
 have hl:j < (Cx.encB enc g).length:=by
  have:=(List.getElem?_eq_some_iff.1 hj).1
  rwa [List.length_map] at this
 rw [← h2,List.getElem?_take,if_pos hl,List.getElem?_drop] at hj
 simpa using hj
set_option maxRecDepth 100000 in
set_option maxHeartbeats 4000000 in
theorem glue_any (enc:Int) (he:Cx.En enc) (L:List Int) (x y:It) (g h:List Int) (w:World) (hx:Pc enc L w x g) (hy:Pc enc L w y h) (hl:ln enc g + ln enc h≤1073741824) :
  Calls Tryz.prog 139 #[.int .i64 enc,.agg #[.slice x.p x.n x.c,.int .i64 x.pl,.int .i64 x.sp.a,.int .i64 x.sp.s,.int .i64 x.sp.b,.bool x.sp.lf,.bool x.sp.cr],.agg #[.slice y.p y.n y.c,.int .i64 y.pl,.int .i64 y.sp.a,.int .i64 y.sp.s,.int .i64 y.sp.b,.bool y.sp.lf,.bool y.sp.cr]] w fun e w'=>∃ (z:It) (ok:Bool),e=.returned (.tuple #[.agg #[.slice z.p z.n z.c,.int .i64 z.pl,.int .i64 z.sp.a,.int .i64 z.sp.s,.int .i64 z.sp.b,.bool z.sp.lf,.bool z.sp.cr],.bool ok])∧Hid (ok=true→Pc enc L w' z (g ++ h)∧z.pl=-1)∧Below w.heap.size w w':=by
 obtain ⟨i0,hi,hz0,hz1,hz2⟩:=info_parts Tryz.info_u8
 obtain ⟨n,hn⟩:∃ n,n=ln enc g:=⟨_,rfl⟩
 obtain ⟨m,hm⟩:∃ m,m=ln enc h:=⟨_,rfl⟩
 obtain ⟨zx,hzx⟩:∃ zx,zx=(Cx.encB enc g).map (Value.int .u8):=⟨_,rfl⟩
 obtain ⟨zy,hzy⟩:∃ zy,zy=(Cx.encB enc h).map (Value.int .u8):=⟨_,rfl⟩
 have lzx:zx.length=n:=by rw [hzx,List.length_map,hn];rfl
 have lzy:zy.length=m:=by rw [hzy,List.length_map,hm];rfl
 obtain ⟨w0,hw0,k1,k2,k3,hb0,hs0⟩:=three_blocks w x y
 have HB0:=hidIt hb0
 have HK:=hidIt (show BlkI w0 w.heap.size x∧BlkI w0 (w.heap.size + 1) y∧BlkI w0 (w.heap.size + 2) It.zero from ⟨k1,k2,k3⟩)
 have n1:=hx.gr.lpos
 have m1:=hy.gr.lpos
 rw [← hn] at n1 hl
 rw [← hm] at m1 hl
 have xn:=hx.xn
 have xc:=hx.xc
 have yn:=hy.xn
 have yc:=hy.xc
 rw [← hn] at xn xc
 rw [← hm] at yn yc
 have HX:Hid ((∀ w',Below w0.heap.size w0 w'→w'.cell? ⟨w.heap.size,0,none⟩=some (.slice x.p n n)∧w'.cell? ⟨w.heap.size + 1,0,none⟩=some (.slice y.p m m))∧True):=⟨fun w' hb=>by
  have a1:=(k1.ext hb).cells.1.1
  have a2:=(k2.ext hb).cells.1.1
  rw [xn,xc] at a1
  rw [yn,yc] at a2
  exact ⟨a1,a2⟩,trivial⟩
 obtain ⟨ax,pax,srx⟩:=hx.src
 obtain ⟨ay,pay,sry⟩:=hy.src
 rw [← hzx] at srx
 rw [← hzy] at sry
 have HPX:=hidIt hx
 have HPY:=hidIt hy
 have HEN:=hidIt he
 have HN:=hidIt hn
 have HM:=hidIt hm
 have HLX:=hidIt lzx
 have HLY:=hidIt lzy
 have HZX:=hidIt hzx
 have HZY:=hidIt hzy
 have HSX:=hidIt (show ∃ ad,x.p=some ad∧∀ w',Below w.heap.size w w'→∀ j v,zx[j]?=some v→w'.cell? (ad.add j)=some v from ⟨ax,pax,srx⟩)
 have HSY:=hidIt (show ∃ ad,y.p=some ad∧∀ w',Below w.heap.size w w'→∀ j v,zy[j]?=some v→w'.cell? (ad.add j)=some v from ⟨ay,pay,sry⟩)
 have h1x:Hid (∀ v ∈ zx,v.oneCell'=true):=by unfold Hid;rw [hzx];intro v hv;rw [List.mem_map] at hv;obtain ⟨_,_,rfl⟩:=hv;rfl
 have h1y:Hid (∀ v ∈ zy,v.oneCell'=true):=by unfold Hid;rw [hzy];intro v hv;rw [List.mem_map] at hv;obtain ⟨_,_,rfl⟩:=hv;rfl
 clear k1 k2 k3 hb0 hx hy he hn hm xn xc yn yc pax pay srx sry hzx hzy lzx lzy
 go_enter Tryz.func139,Tryz.ntmps139
 go_upto_region 1 with fail
 rw [← hw0]
 clear hw0
 obtain ⟨c0,c1⟩:=HX.out.1 w0 (Below.refl _ _)
 go_upto_region 2 with (refine wpList_make_full w0 rfl _ _ 32 rfl w0.heap.size 5 i0 (.int .u8 0) 1 Tryz.underlying32 hi hz0 hz1 .i64 .i64 _ _ (n + m) rfl rfl (by omega) (by omega) (by rw [hz2];omega) (by unfold maxLen;omega) (Nat.le_refl _) ?_;intro w1 hO hg;have HO:=hidIt hO;have HG:=hidIt hg;clear hO hg)
 obtain ⟨e1,hh⟩:=HO.out
 rcases hh with ⟨hv,_⟩ | ⟨g1,cp,cur,hv,_,hcur,hcp1,hcp2,hcs,htk⟩
 ·cases hv
 simp only [Value.slice.injEq,Option.some.injEq,Addr.mk.injEq] at hv
 obtain ⟨⟨hg0,_,_⟩,_,hcp⟩:=hv
 subst hg0
 subst hcp
 have HCUR:=hidIt (show w1.heap[w.heap.size + 3]?=some (.cells cur.toList.toArray 5 (0,0)) by rw [← hs0];exact hcur)
 have hlen:cur.toList.length=n + m:=by rw [Array.length_toList,hcs,Nat.mul_one]
 have HB1:=hidIt (Below.grown (Below.refl w0.heap.size w0) HG.out (Nat.le_refl _) (fun k e=>by cases e))
 clear htk e1 hcur HO HG c0 c1
 obtain ⟨s1,s2⟩:=HX.out.1 w1 HB1.out
 generalize cur.toList=cl at *
 go_upto_region 3 with (refine wpList_copy_splice rfl _ _ 32 32 rfl 5 Tryz.underlying32 (by rw [hi];simp [hz1]) _ _ _ _ _ _ rfl rfl (w.heap.size + 3) 0 cl 5 HCUR.out zx (by rw [HLX.out];exact (Nat.min_eq_left (by omega)).symm) (fun _=>⟨rfl,let ⟨ad,h1,h2⟩:=HSX.out;⟨ad,h1,h2 w1 (ext_trans HB0.out HB1.out)⟩⟩) (by rw [HLX.out];omega) h1x.out w0.heap.size w0 HB1.out (by omega) ?_;intro w2 hE hb2;have HE2:=hidIt hE.out;have HB2:=hidIt hb2;clear hE hb2)
 clear s1 s2
 obtain ⟨s1,s2⟩:=HX.out.1 w2 HB2.out
 have HF2:=hidIt (show n + zy.length≤(splice cl 0 zx).length by rw [length_splice _ _ _ (by rw [HLX.out];omega),HLY.out];omega)
 have hnm:(n:Int)≤(n:Int) + m:=by omega
 have hm0:¬ m=0:=by omega
 simp only [Act.put,sA4,sA5,sA6]
 go_cut [] from 23 to 31 (fun wF=>Hid (wF.heap[w.heap.size + 3]?=some (.cells (splice (splice cl 0 zx) n zy).toArray 5 (0,0))∧Below w0.heap.size w0 wF))
 case first =>
  refine wp_region_held_drew (S:=fun w''=>w''.cell? ⟨w.heap.size,0,none⟩=some (.slice x.p n n)∧w''.cell? ⟨w.heap.size + 1,0,none⟩=some (.slice y.p m m)) (by kernel_rfl) (by first | exact ⟨s1,s2⟩ | (dsimp only;go_keep)) (fun hHeld=>?_)
  refine tkH (v:=?_) 0 rfl ?_ ?_;rotate_left 1
  ·intro wq hSw;(try dsimp only at hSw);go_simp;try (with_reducible rfl)
  try simp only [Act.put,sA4]
  refine tkH (v:=?_) 1 rfl ?_ ?_;rotate_left 1
  ·intro wq hSw;(try dsimp only at hSw);go_simp;try (with_reducible rfl)
  try simp only [Act.put]
  refine tkH (v:=?_) 2 rfl ?_ ?_;rotate_left 1
  ·intro wq hSw;(try dsimp only at hSw);go_simp;try (with_reducible rfl)
  try simp only [Act.put]
  refine tkH (v:=?_) 3 rfl ?_ ?_;rotate_left 1
  ·intro wq hSw;(try dsimp only at hSw);go_simp;try (with_reducible rfl)
  try simp only [Act.put]
  refine tkH (v:=?_) 4 rfl ?_ ?_;rotate_left 1
  ·intro wq hSw;(try dsimp only at hSw);go_simp;try (with_reducible rfl)
  try simp only [Act.put]
  refine tkH (v:=?_) 5 rfl ?_ ?_;rotate_left 1
  ·intro wq hSw;(try dsimp only at hSw);go_simp;try (with_reducible rfl)
  try simp only [Act.put]
  refine wpAnyH_ready (rs:=[6]) (by kernel_rfl) (by simp) ?_
  refine AllReadyH.cons (o:=_) rfl (fun K hK=>?_) AllReadyH.nil
  go_simp
  refine hK.out _ _ ?_ (fun hHeld=>?_)
  ·first | exact ⟨s1,s2⟩ | ((try dsimp only);go_keep)
  clear hK K
  try simp only [Act.put,sA4,sA5,sA6]
  refine wpAnyH_ready (rs:=[7]) (by kernel_rfl) (by simp) ?_
  refine AllReadyH.cons (o:=_) rfl (fun K hK=>?_) AllReadyH.nil
  refine step_copy_splice rfl (.tmp 28) (.tmp 30) 32 32 rfl 5 Tryz.underlying32 (by rw [hi];simp [hz1]) _ _ _ _ _ _ (by rfl) (by rfl) (w.heap.size + 3) n _ 5 HE2.out zy (by rw [HLY.out];first | exact (Nat.min_eq_left (by omega)).symm | (show m=min m _;omega)) (fun _=>⟨by simp,let ⟨ad,h1,h2⟩:=HSY.out;⟨ad,h1,h2 _ (ext_trans HB0.out HB2.out.drew)⟩⟩) HF2.out h1y.out w0.heap.size w0 HB2.out.drew (by omega) ?_;intro w3 hE hb3;have HE3:=hidIt hE.out;have HB3:=hidIt hb3;clear hE hb3;have s3:=HX.out.1 w3 HB3.out;change K (Act.put _ (some 31) _) w3
  refine hK.out _ _ ?_ (fun hHeld=>?_)
  ·exact s3
  clear hK K
  try simp only [Act.put,sA4,sA5,sA6]
  refine wpAnyH_done (by kernel_rfl) ?_ _
  go_wp2_with fail
  go_meet
  case rel=>exact ⟨HE3.out,HB3.out⟩
 have HE:=hidIt hcut.out
 generalize hwc:wc=w4 at *
 clear hwc hcut s1 s2 HE2 HB2 HCUR HB1 HF2 hnm
 have es:splice (splice cl 0 zx) n zy=zx ++ zy:=by
  have l1:=HLX.out
  have l2:=HLY.out
  unfold splice
  rw [List.take_zero,List.nil_append,Nat.zero_add,List.take_append_of_le_length (by omega),List.take_of_length_le (by omega),List.drop_eq_nil_of_le (by rw [List.length_append,List.length_drop];omega),List.append_nil]
 have HRW:Hid (RwU w4 (w.heap.size + 3) 0 (Cx.encB enc (g ++ h))):=by
  have e:=HE.out.1
  rw [es,HZX.out,HZY.out,← List.map_append,← Cx.encB_app] at e
  exact RwU.of e
 have HB4:=hidIt HE.out.2
 have HLG:=hidIt (show ln enc (g ++ h)=n + m by rw [ln_app,HN.out,HM.out])
 clear es HE HZX HZY HSX HSY h1x h1y HLX HLY
 go_wp2_with fail
 go_loopg [9] h.length (fun gk k wr=>∃ j:Nat,j + gk=h.length∧k=.int .i64 (ln enc (h.take j):Nat)∧Hid (Gr enc (g ++ h.take j))∧Hid (Below w4.heap.size w4 wr))
 case atStart=>exact ⟨0,by omega,rfl,by rw [List.take_zero,List.append_nil];exact HPX.out.gr,Below.refl _ _⟩
 case round =>
  obtain ⟨j,hj,rfl,HGR,HBR⟩:=hrel
  have HBZ:=hidIt (HB4.out.trans (HBR.out.mono HB4.out.size))
  obtain ⟨c0,c1⟩:=HX.out.1 wr HBZ.out
  by_cases hi':j < h.length
  ·obtain ⟨q1,a,sz,hf,hq,ho,hs1,hfit,hsz⟩:=off_step enc HEN.out (Cx.encB enc h) HPY.out.gr.byt j (by rw [HPY.out.gr.dec];exact hi')
   rw [off_gr HPY.out.gr] at q1 hf ho
   rw [off_gr HPY.out.gr] at ho
   rw [HPY.out.gr.dec] at hq
   have et:h.take (j + 1)=h.take j ++ [a]:=by rw [List.take_add_one,hq];rfl
   have hk1:ln enc (h.take (j + 1))≤m:=by
    have:=ln_app enc (h.take (j + 1)) (h.drop (j + 1))
    rw [List.take_append_drop,← HM.out] at this
    omega
   have hdm:m≤4611686018427387904:=by omega
   have NX:=hidIt (Next_any enc HEN.out _ (Cx.encB enc h) (ln enc (h.take j)) wr ((HPY.out.ext (ext_trans HB0.out HBZ.out)).rd (by rw [← HM.out];exact hdm)) HPY.out.gr.byt q1)
   rw [hf,HPY.out.xn,HPY.out.xc,← HM.out] at NX
   have EW:Hid (∀ w1,Below wr.heap.size wr w1→Calls Tryz.prog 106 #[.int .i64 enc,.slice (some ⟨w.heap.size + 3,0,none⟩) (n + (ln enc (h.take j) + sz)) (n + m),.int .i64 a] w1 fun e w'=>e=.returned (.bool (decide ((Cx.lst enc (Cx.encB enc (g ++ h.take (j + 1)))).1=a)))∧Below w1.heap.size w1 w'):=fun w1 hb=>by
    have r1:=((HRW.out.ext HBR.out).ext hb).part 0 (ln enc (g ++ h.take (j + 1))) (by rw [Nat.zero_add,show (Cx.encB enc (g ++ h)).length=ln enc (g ++ h) from rfl,HLG.out,ln_app,← HN.out];omega)
    have e2:((Cx.encB enc (g ++ h)).drop 0).take (ln enc (g ++ h.take (j + 1)))=Cx.encB enc (g ++ h.take (j + 1)):=by
     have e3:Cx.encB enc (g ++ h)=Cx.encB enc (g ++ h.take (j + 1)) ++ Cx.encB enc (h.drop (j + 1)):=by rw [← Cx.encB_app,List.append_assoc,List.take_append_drop]
     rw [List.drop_zero,e3]
     exact List.take_left' rfl
    rw [e2] at r1
    have r2:=r1.rd (n + m) (by rw [show (Cx.encB enc (g ++ h.take (j + 1))).length=ln enc (g ++ h.take (j + 1)) from rfl,ln_app,← HN.out];omega) (by omega)
    rw [show (Cx.encB enc (g ++ h.take (j + 1))).length=n + (ln enc (h.take j) + sz) by show ln enc (g ++ h.take (j + 1))=_;rw [ln_app,← HN.out,ho]] at r2
    refine endsWith_any enc HEN.out _ _ a w1 r2 (encB_byt enc _ fun b hb=>?_) ?_
    ·rcases List.mem_append.1 hb with h1 | h1
     ·exact HPX.out.gr.fit b h1
     ·exact HPY.out.gr.fit b (List.mem_of_mem_take h1)
    ·show 0 < ln enc (g ++ h.take (j + 1));rw [ln_app,← HN.out];omega
   have SN:Hid (decide ((Cx.lst enc (Cx.encB enc (g ++ h.take (j + 1)))).1=a)=true→Gr enc (g ++ h.take (j + 1))):=fun hd=>by
    rw [decide_eq_true_eq,et,← List.append_assoc] at hd
    rw [et,← List.append_assoc]
    exact HGR.out.snoc HEN.out hfit hd
   have HO:=hidIt ho
   generalize hq0:decide ((Cx.lst enc (Cx.encB enc (g ++ h.take (j + 1)))).1=a)=qb at EW SN
   have q1':((ln enc (h.take j):Nat):Int) < (m:Int):=by
    have:ln enc (h.take j) < m:=by rw [HM.out];exact q1
    omega
   rw [ho] at hk1
   clear hq0 ho et hf hq hsz q1
   generalize ln enc (h.take j)=k at *
   cases qb
   case false =>
    go_wp2_with (first | (go_at_call 52;refine NX.out.mono ?_;clear c0 c1;rintro e w5 ⟨rfl,hb5⟩;have HB5:=hidIt hb5;clear hb5;obtain ⟨c0,c1⟩:=HX.out.1 w5 (HBZ.out.trans (HB5.out.mono HBZ.out.size))) | (go_at_call 106;refine (EW.out w5 HB5.out).mono ?_;clear c0 c1;rintro e w6 ⟨rfl,hb6⟩;have HB6:=hidIt (ext_trans HB5.out hb6);clear hb6;obtain ⟨z0,_,zf⟩:=(HK.out.2.2.ext (HBZ.out.trans (HB6.out.mono HBZ.out.size))).cells;have hz6:w.heap.size + 2 < w6.heap.size:=(HK.out.2.2.ext (HBZ.out.trans (HB6.out.mono HBZ.out.size))).lt))
    obtain ⟨p1,p2⟩:=(HK.out.2.2.ext (HBZ.out.trans (HB6.out.mono HBZ.out.size))).put It.zero
    have FB:=hidIt (below_put (ext_trans HB0.out (HBZ.out.trans (HB6.out.mono HBZ.out.size))) (ext_trans HB0.out (HBZ.out.trans (HB6.out.mono HBZ.out.size))).size p2 (by omega))
    exact bodyPost_ret (v:=.tuple #[.agg #[.slice It.zero.p It.zero.n It.zero.c,.int .i64 It.zero.pl,.int .i64 It.zero.sp.a,.int .i64 It.zero.sp.s,.int .i64 It.zero.sp.b,.bool It.zero.sp.lf,.bool It.zero.sp.cr],.bool false]) (by simp [results,Tryz.results139,go_sem,z0,It.zero,Rs.zero]) rfl ⟨It.zero,false,rfl,fun h=>(by cases h),FB.out⟩
   case true =>
    go_wp2_with (first | (go_at_call 52;refine NX.out.mono ?_;clear c0 c1;rintro e w5 ⟨rfl,hb5⟩;have HB5:=hidIt hb5;clear hb5;obtain ⟨c0,c1⟩:=HX.out.1 w5 (HBZ.out.trans (HB5.out.mono HBZ.out.size))) | (go_at_call 106;refine (EW.out w5 HB5.out).mono ?_;clear c0 c1;rintro e w6 ⟨rfl,hb6⟩;have HB6:=hidIt (ext_trans HB5.out hb6);clear hb6))
    go_roundg (h.length - (j + 1))
    case rel=>exact ⟨j + 1,by omega,by rw [HO.out];go_num,SN.out (by first | trivial | rfl),ext_trans HBR.out HB6.out⟩
    case measure=>omega
  ·obtain rfl:j=h.length:=by omega
   have hlt:¬ ((ln enc (h.take h.length):Nat):Int) < (m:Int):=by rw [List.take_length,← HM.out];omega
   rw [List.take_length] at HGR
   have HBA:=hidIt (ext_trans HB0.out HBZ.out)
   obtain ⟨d0,_,_⟩:=(HK.out.1.ext HBZ.out).cells
   obtain ⟨d1,_,_⟩:=(HK.out.2.1.ext HBZ.out).cells
   have AD:Hid (∀ w',Calls Tryz.prog 69 #[.agg #[.int .i64 x.sp.a,.int .i64 x.sp.s,.int .i64 x.sp.b,.bool x.sp.lf,.bool x.sp.cr],.agg #[.int .i64 y.sp.a,.int .i64 y.sp.s,.int .i64 y.sp.b,.bool y.sp.lf,.bool y.sp.cr]] w' fun e w''=>∃ r,Hid (r=spn enc (g ++ h))∧e=.returned (.agg #[.int .i64 r.a,.int .i64 r.s,.int .i64 r.b,.bool r.lf,.bool r.cr])∧Below w'.heap.size w' w''):=fun w'=>by
    rw [HPX.out.sp,HPY.out.sp]
    have k1:=spn_ok enc g
    have k2:=spn_ok enc h
    have k3:=spn_a enc g HPX.out.gr.fit
    have k4:=spn_a enc h HPY.out.gr.fit
    have k5:=ln_ge enc g
    have k6:=ln_ge enc h
    have k7:=spn_b enc g
    have k8:=spn_b enc h
    have k9:=HN.out
    have k10:=HM.out
    refine (Add_any _ _ w' k1.a0 k2.a0 k1.s0 k2.s0 k1.b0 k2.b0 (by omega) (by omega) (by omega)).mono fun e w'' ⟨r,h1,h2,h3⟩=>⟨r,?_,h2,h3⟩
    unfold Hid
    rw [h1.out,spn_app]
   generalize ln enc (h.take h.length)=k at *
   clear c0
   go_wp2_with (go_at_call 69;refine (AD.out wr).mono ?_;clear c1 d0 d1;rintro e w5 ⟨r,HR,rfl,hb5⟩;have HB5:=hidIt hb5;clear hb5;obtain ⟨z0,_,zf⟩:=(HK.out.2.2.ext (HBZ.out.trans (HB5.out.mono HBZ.out.size))).cells;have hz6:w.heap.size + 2 < w5.heap.size:=(HK.out.2.2.ext (HBZ.out.trans (HB5.out.mono HBZ.out.size))).lt)
   have HRO:Rs.Ok r:=by rw [HR.out];exact spn_ok _ _
   obtain ⟨p1,p2⟩:=(HK.out.2.2.ext (HBZ.out.trans (HB5.out.mono HBZ.out.size))).put (⟨some ⟨w.heap.size + 3,0,none⟩,n + m,n + m,-1,r,HRO⟩:It)
   have FB:=hidIt (below_put (ext_trans HB0.out (HBZ.out.trans (HB5.out.mono HBZ.out.size))) (ext_trans HB0.out (HBZ.out.trans (HB5.out.mono HBZ.out.size))).size p2 (by omega))
   have FR:=hidIt (((HRW.out.ext HBR.out).ext HB5.out).same (p2.block (w.heap.size + 3) ((HRW.out.ext HBR.out).ext HB5.out).lt (by simp)))
   refine bodyPost_ret (v:=.tuple #[.agg #[.slice (some ⟨w.heap.size + 3,0,none⟩) (n + m) (n + m),.int .i64 (-1),.int .i64 r.a,.int .i64 r.s,.int .i64 r.b,.bool r.lf,.bool r.cr],.bool true]) (by simp [results,Tryz.results139,go_sem,z0]) rfl ⟨⟨some ⟨w.heap.size + 3,0,none⟩,n + m,n + m,-1,r,HRO⟩,true,rfl,fun _=>⟨⟨HGR.out,⟨_,_,rfl,FR.out⟩,HLG.out.symm,HLG.out.symm,HR.out,.inl rfl⟩,rfl⟩,FB.out⟩
end Go.Proofs.YtjjfakokakamaaaGreat.P

namespace Go.Proofs.YtjjfakokakamaaaGreat.P
open Go.RowKit
theorem Rd.mid {k:IntKind} {w:World} {b o n c:Nat} {zs:List Int} (h:Rd k w (.slice (some ⟨b,o,none⟩) n c) zs) (i m:Nat) (hi:i + m≤zs.length):Rd k w (.slice (some ⟨b,o + i,none⟩) m (c - i)) ((zs.drop i).take m):=by
 obtain ⟨ao,cap,hv,h1,h2,h3⟩:=h
 simp only [Value.slice.injEq] at hv
 obtain ⟨rfl,hn,hc⟩:=hv
 subst hc
 have hl:((zs.drop i).take m).length=m:=by rw [List.length_take,List.length_drop];omega
 refine ⟨_,c - i,by rw [hl],by rw [hl];omega,by omega,fun hne=>?_⟩
 obtain ⟨b',o',e,hb,hc⟩:=h3 (by intro e;subst e;simp at hne)
 simp only [Option.some.injEq,Addr.mk.injEq] at e
 obtain ⟨rfl,rfl,_⟩:=e
 refine ⟨b,o + i,rfl,hb,fun j hj=>?_⟩
 rw [hl] at hj
 have:=hc (i + j) (by omega)
 rw [Nat.add_assoc,this,List.getElem?_take,if_pos hj,List.getElem?_drop]
theorem pcs_one (x:It):∀ u ∈ pcs x,u.oneCell'=true:=fun u hu=>flat_one [x] u (by simpa [flat] using hu)
theorem cell7_new (w:World) (T:TypeId) (x:It):∀ j u,(pcs x)[j]?=some u→(w.alloc (.cells #[.slice x.p x.n x.c,.int .i64 x.pl,.int .i64 x.sp.a,.int .i64 x.sp.s,.int .i64 x.sp.b,.bool x.sp.lf,.bool x.sp.cr] T)).cell? ((⟨w.heap.size,0,none⟩:Addr).add j)=some u:=by
 intro j u hj
 rw [Addr.add_lit,cell_of_row (w.alloc (.cells #[.slice x.p x.n x.c,.int .i64 x.pl,.int .i64 x.sp.a,.int .i64 x.sp.s,.int .i64 x.sp.b,.bool x.sp.lf,.bool x.sp.cr] T)) w.heap.size (0 + j) _ T (0,0) (heap_alloc_new _ _),Nat.zero_add]
 simpa [pcs] using hj
theorem alloc_size (w:World) (o:Obj):(w.alloc o).heap.size=w.heap.size + 1:=by simp
theorem OwnR.other {w w':World} {base:Nat} {v:Value} {xs:List It} (h:OwnR w base 122 v xs) {g:Nat} (hg:w.grownBy w' (some g)) (hb:g < base):OwnR w' base 122 v xs :=
 World.ownsRow.kept h hg (.inr fun e=>Nat.not_le_of_lt hb (World.ownsRow.lt h g e).1)
theorem lit7 (w:World) (T:TypeId) (x:It):∀ j u,(pcs x)[j]?=some u→((w.alloc (.cells #[.slice x.p x.n x.c,.int .i64 x.pl,.int .i64 x.sp.a,.int .i64 x.sp.s,.int .i64 x.sp.b,.bool x.sp.lf,.bool x.sp.cr] T)).drew).cell? ((⟨w.heap.size,0,none⟩:Addr).add j)=some u:=fun j u h=>by
 rw [World.cell?_drew]
 exact cell7_new w T x j u h
section
variable {P:Program} {W:World}
theorem wp_append_piece {op:Oper} {a:Act} {K:Act→World→Prop} {Q:Exit→Act→World→Prop} (s x:Operand) (t:TypeId)
  (ho:op.op=.call { callee:=.builtin .append,args:=#[s,x],argTypes:=#[t,t] })
  (base:Nat) (e:TypeId) (hinf:(P.info? e).map (fun i=>(i.zero,i.size,i.bytes))=some (some (.agg #[.slice It.zero.p It.zero.n It.zero.c,.int .i64 It.zero.pl,.int .i64 It.zero.sp.a,.int .i64 It.zero.sp.s,.int .i64 It.zero.sp.b,.bool It.zero.sp.lf,.bool It.zero.sp.cr]),7,64)) (ht:P.underlying t=some (.slice e))
  (v:Value) (xs:List It) (hs:a.eval s=v) (hown:OwnR W base e v xs) (y:It) (g:Nat) (hx:a.eval x=.slice (some ⟨g,0,none⟩) 1 1) (hnew:∀ j u,(pcs y)[j]?=some u→W.cell? ((⟨g,0,none⟩:Addr).add j)=some u)
  (hbytes:xs.length + 1≤1099511627776) (hbase:base≤W.heap.size)
  (h:∀ v' w',OwnR w' base e v' (xs ++ [y])→W.grownBy w' v.ownBlock→K (a.put op.dst v') w'):op.wp P a W K Q:=by
 obtain ⟨i0,hi,hz0,hz1,hz2⟩:=info_parts hinf
 refine wp_append_own _ s x t ho base e i0 _ 7 64 ht hi hz0 hz1 hz2 rfl (by decide) v xs.length (flat xs) hs hown ⟨g,0,none⟩ 1 1 (pcs y) hx rfl hnew (pcs_one y) (by unfold maxLen;omega) (by omega) hbase ?_
 intro v' w' hown' hg _
 refine h v' w' ?_ hg
 unfold OwnR
 rw [List.length_append,flat_app,show flat [y]=pcs y by simp [flat]]
 exact hown'
end
theorem size_alloc_le (w:World) (o:Obj):w.heap.size≤(w.alloc o).heap.size:=by rw [alloc_size];omega
theorem below_append {B base:Nat} {w wr W w':World} {v:Value} {xs:List It} (hown:OwnR wr base 122 v xs) (hb:Below B w wr) (hs:B≤base) (hw:B≤wr.heap.size) (hW:Below wr.heap.size wr W) (hg:W.grownBy w' v.ownBlock):Below B w w' :=
 (hb.trans (hW.mono hw)).grown hg (Nat.le_trans hw hW.size) (fun k hk=>Nat.le_trans hs (World.ownsRow.lt hown k hk).1)
theorem blk_append {base g:Nat} {wr W w':World} {v:Value} {xs:List It} {T:TypeId} {s:Rs} (hown:OwnR wr base 122 v xs) (hB:Blk T wr g s) (hs:g < base) (hW:Below wr.heap.size wr W) (hg:W.grownBy w' v.ownBlock):Blk T w' g s:=by
 have h:=hB.ext hW
 unfold Blk at h ⊢
 rw [hg.block g (Blk.lt h) (fun e=>by have:=(World.ownsRow.lt hown _ e.symm).1;omega)]
 exact h
theorem new_drew (w:World) (o:Obj):Below w.heap.size w ((w.alloc o).drew):=(ext_alloc (Below.refl _ _) o).drew
theorem vi {a b:Int} (h:a=b):Value.int .i64 a=Value.int .i64 b:=by rw [h]
structure CtI (enc:Int) (al:List Int) (j:Nat) (gs:List (List Int)) (cur:List Int):Prop where
 all:gs.flatten ++ cur=al.take j
 gr:∀ g ∈ gs,Gr enc g
 cu:cur=[]∧j=0∨Gr enc cur
theorem CtI.len {enc:Int} {al:List Int} {j:Nat} {gs:List (List Int)} {cur:List Int} (h:CtI enc al j gs cur):gs.length≤al.length∧ln enc gs.flatten + ln enc cur≤ln enc al:=by
 have e:=h.all
 constructor
 ·have h1:∀ gs:List (List Int),(∀ g ∈ gs,Gr enc g)→gs.length≤gs.flatten.length:=by
   intro gs
   induction gs with
   | nil=>intro _;exact Nat.le_refl _
   | cons g gs ih =>
     intro k
     have:=(k g List.mem_cons_self).pos
     have:=ih fun x hx=>k x (List.mem_cons_of_mem _ hx)
     rw [List.flatten_cons,List.length_append,List.length_cons]
     omega
  have h2:=congrArg List.length e
  rw [List.length_append,List.length_take] at h2
  have:=h1 gs h.gr
  omega
 ·rw [← ln_app,e]
  have:=ln_app enc (al.take j) (al.drop j)
  rw [List.take_append_drop] at this
  omega
set_option maxRecDepth 100000 in
set_option maxHeartbeats 4000000 in
theorem cut_any (enc:Int) (he:Cx.En enc) (va vb:Value) (al:List Int) (b o:Nat) (w:World) (hA:Rd .i64 w va al) (hfit:∀ a ∈ al,Cx.fits enc a=true) (hR:Rd .u8 w vb (Cx.encB enc al)) (hp:al≠[]→∀ p n c,vb=.slice p n c→p=some ⟨b,o,none⟩) (hl:al.length≤1073741824) :
  Calls Tryz.prog 75 #[.int .i64 enc,va,vb] w fun e w'=>∃ v gs,e=.returned v∧Hid (gs.flatten=al∧(∀ g ∈ gs,Gr enc g)∧OwnR w' w.heap.size 122 v (mks enc b o 0 gs))∧Below w.heap.size w w':=by
 obtain ⟨i0,hi,hz0,hz1,hz2⟩:=info_parts Tryz.info_piece
 obtain ⟨pb,cb,hvb,hb1,hb2,hb3⟩:=id hR
 clear hb3
 subst hvb
 have hP:al≠[]→pb=some ⟨b,o,none⟩:=fun h=>hp h _ _ _ rfl
 obtain ⟨pa,ca,hva,ha1,ha2,ha3⟩:=id hA
 subst hva
 have hln:ln enc al≤4 * al.length:=ln_le enc al
 have eL:(Cx.encB enc al).length=ln enc al:=rfl
 rw [eL] at hb1 hR ⊢
 obtain ⟨w0,hw0⟩:∃ w0,w0=w.alloc (.cells #[.int .i64 0,.int .i64 0,.int .i64 0,.bool false,.bool false] 119):=⟨_,rfl⟩
 have hs0:w0.heap.size=w.heap.size + 1:=by rw [hw0];simp
 have HB0:Hid (Below w.heap.size w w0):=by unfold Hid;rw [hw0];exact ext_alloc (Below.refl _ _) _
 have K0:Hid (Blk 119 w0 w.heap.size Rs.zero):=by unfold Hid;rw [hw0];exact heap_alloc_new _ _
 have HAT:Hid (∀ wr,Below w.heap.size w wr→∀ j (h:j < al.length),∃ ba oa,pa=some ⟨ba,oa,none⟩∧wr.cell? ⟨ba,oa + j,none⟩=some (.int .i64 (al[j]?.getD 0))):=fun wr hb j h=>by
  obtain ⟨ba,oa,h1,h2,h3⟩:=ha3 (by intro e;subst e;simp at h)
  exact ⟨ba,oa,h1,(hb.cell (p:=⟨ba,oa + j,none⟩) h2).trans (h3 j h)⟩
 have HRD:Hid (∀ wr,Below w.heap.size w wr→al≠[]→Rd .u8 wr (.slice (some ⟨b,o,none⟩) (ln enc al) cb) (Cx.encB enc al)):=fun wr hb hne=>by
  have:=hP hne
  subst this
  exact hR.ext hb
 have HEN:=hidIt he
 have HFIT:=hidIt hfit
 have hca:al.length≤9223372036854775807:=by omega
 unfold maxLen at hb2 ha2
 clear hA hR he hfit hp ha3
 go_enter Tryz.func75,Tryz.ntmps75
 go_upto_block 0 with fail
 rw [← hw0]
 clear hw0
 go_cut [7,9,10] from 12 to 62 (fun pv sv ev wF=>∃ gs cur,sv=.int .i64 (ln enc gs.flatten:Nat)∧ev=.int .i64 ((ln enc gs.flatten:Nat) + (ln enc cur:Nat):Int)∧Hid (CtI enc al al.length gs cur)∧Hid (OwnR wF w0.heap.size 122 pv (mks enc b o 0 gs))∧Hid (Blk 119 wF w.heap.size (spn enc cur))∧Hid (Below w.heap.size w wF))
 case first =>
  go_wp2_with fail
  go_loopg [7,9,10,16] al.length (fun gk pv sv ev p wr=>∃ (j:Nat) (gs:List (List Int)) (cur:List Int),j + gk=al.length∧p=.int .i64 (j:Nat)∧sv=.int .i64 (ln enc gs.flatten:Nat)∧ev=.int .i64 ((ln enc gs.flatten:Nat) + (ln enc cur:Nat):Int)∧Hid (CtI enc al j gs cur)∧Hid (OwnR wr w0.heap.size 122 pv (mks enc b o 0 gs))∧Hid (Blk 119 wr w.heap.size (spn enc cur))∧Hid (Below w.heap.size w wr)∧w0.heap.size≤wr.heap.size)
  case atStart=>exact ⟨0,[],[],by omega,rfl,rfl,rfl,⟨rfl,(fun g hg=>by cases hg),.inl ⟨rfl,rfl⟩⟩,OwnR.nil _ _ _,K0.out,HB0.out,Nat.le_refl _⟩
  case round =>
   obtain ⟨j,gs,cur,hj,rfl,rfl,rfl,HC,HOW,HBL,HBW,hw0r⟩:=hrel
   by_cases hi':j < al.length
   case neg =>
    have hi2:¬ (j:Int) < (al.length:Int):=by omega
    obtain rfl:j=al.length:=by omega
    go_wp2_with fail
    go_meet
    case rel=>exact ⟨gs,cur,rfl,rfl,HC,HOW,HBL,HBW⟩
   have hi2:(j:Int) < (al.length:Int):=by omega
   have hne:al≠[]:=by intro e;subst e;simp at hi'
   obtain rfl:pb=some ⟨b,o,none⟩:=hP hne
   obtain ⟨ba,oa,rfl,c0⟩:=HAT.out wr HBW.out j hi'
   obtain ⟨a,haj⟩:∃ a,al[j]?=some a:=⟨_,List.getElem?_eq_getElem hi'⟩
   rw [haj,Option.getD_some] at c0
   have hfa:Cx.fits enc a=true:=HFIT.out a (List.mem_of_getElem? haj)
   obtain ⟨p1,p2⟩:=Cx.put_len enc a
   have hsz:Cx.size enc a=((Cx.put enc a).length:Nat):=size_fit enc a hfa
   have hll:=HC.out.len
   have hsum:ln enc gs.flatten + ln enc cur + (Cx.put enc a).length≤ln enc al:=by
    have e1:=HC.out.all
    have e2:al.take (j + 1)=al.take j ++ [a]:=by rw [List.take_add_one,haj];rfl
    have e3:=congrArg (ln enc) e2
    rw [← e1,ln_app,ln_app,ln_one] at e3
    have e4:=ln_app enc (al.take (j + 1)) (al.drop (j + 1))
    rw [List.take_append_drop] at e4
    omega
   have hmid:((Cx.encB enc al).drop (ln enc gs.flatten)).take (ln enc cur + (Cx.put enc a).length)=Cx.encB enc (cur ++ [a]):=by
    have e1:=HC.out.all
    have e2:al=gs.flatten ++ ((cur ++ [a]) ++ al.drop (j + 1)):=by
     rw [← List.append_assoc,← List.append_assoc,e1]
     have:al.take (j + 1)=al.take j ++ [a]:=by rw [List.take_add_one,haj];rfl
     rw [← this,List.take_append_drop]
    rw [e2,Cx.encB_app,Cx.encB_app enc (cur ++ [a]),List.drop_left' (show (Cx.encB enc gs.flatten).length=ln enc gs.flatten from rfl),List.take_left' (by show ln enc (cur ++ [a])=_;rw [ln_app,ln_one])]
   have SZ:=hidIt (Go.Proofs.YtjjfakokakamaaaGreat.Size_any enc a wr)
   rw [hsz] at SZ
   have EW:Hid (∀ w1,Below wr.heap.size wr w1→Calls Tryz.prog 106 #[.int .i64 enc,.slice (some ⟨b,o + ln enc gs.flatten,none⟩) (ln enc gs.flatten + ln enc cur + (Cx.put enc a).length - ln enc gs.flatten) (cb - ln enc gs.flatten),.int .i64 a] w1 fun e w'=>e=.returned (.bool (decide ((Cx.lst enc (Cx.encB enc (cur ++ [a]))).1=a)))∧Below w1.heap.size w1 w'):=fun w1 hb=>by
    have h1:=Rd.mid (HRD.out w1 (ext_trans HBW.out hb) hne) (ln enc gs.flatten) (ln enc cur + (Cx.put enc a).length) (by rw [eL];omega)
    rw [hmid] at h1
    rw [show ln enc gs.flatten + ln enc cur + (Cx.put enc a).length - ln enc gs.flatten=ln enc cur + (Cx.put enc a).length by omega]
    refine endsWith_any enc HEN.out _ _ a w1 h1 (encB_byt enc _ (fun x hx=>?_)) ?_
    ·rcases List.mem_append.1 hx with h | h
     ·rcases HC.out.cu with ⟨e,_⟩ | g
      ·subst e;cases h
      ·exact g.fit x h
     ·rw [List.mem_singleton] at h;subst h;exact hfa
    ·show 0 < ln enc (cur ++ [a]);rw [ln_app,ln_one];omega
   generalize hq:decide ((Cx.lst enc (Cx.encB enc (cur ++ [a]))).1=a)=qb at EW
   have HQB:=hidIt hq
   have HLN:=hidIt (show ln enc (cur ++ [a])=ln enc cur + (Cx.put enc a).length by rw [ln_app,ln_one])
   clear hq hmid hsz
   generalize hszz:(Cx.put enc a).length=sz at *
   generalize hstt:ln enc gs.flatten=st at *
   generalize hcuu:ln enc cur=cu at *
   have HSZ:=hidIt hszz
   have HST:=hidIt hstt
   have HCU:=hidIt hcuu
   clear hszz hstt hcuu
   go_upto_region 8 with (go_at_call 53;refine SZ.out.mono ?_;clear c0;rintro e w1 ⟨rfl,hb1⟩;have HB1:=hidIt hb1;clear hb1)
   go_cut [40] from 23 to 40 (fun c wF=>∃ cx:Bool,c=.bool cx∧Hid ((cx=true→Gr enc cur)∧(cx=false→CtI enc al (j + 1) gs (cur ++ [a])))∧Hid (Below wr.heap.size wr wF))
   case first =>
    have hgm:cur=[]→cu≤0∧qb=true:=fun e=>by
     subst e
     refine ⟨by rw [← HCU.out];exact Nat.le_refl _,?_⟩
     rw [← HQB.out]
     have:=Cx.lst_put enc a HEN.out hfa
     simp only [List.nil_append,show Cx.encB enc [a]=Cx.put enc a by simp [Cx.encB]]
     exact decide_eq_true this
    have HG:=hidIt hgm
    have STAY:Hid (qb=true→CtI enc al (j + 1) gs (cur ++ [a])):=fun h=>⟨by rw [List.take_add_one,haj,Option.toList_some,← HC.out.all];simp,HC.out.gr,.inr (by
     rw [← HQB.out,decide_eq_true_eq] at h
     rcases HC.out.cu with ⟨e,_⟩ | g
     ·subst e;exact Gr.one HEN.out hfa
     ·exact g.snoc HEN.out hfa h)⟩
    clear hgm
    by_cases hbig:(256:Int) < (st:Int) + cu + sz - st
    case pos =>
     have HGR:=hidIt (show Gr enc cur from (HC.out.cu).elim (fun h=>by have:=HG.out h.1;omega) id)
     go_wp2_with fail
     go_meet
     case rel=>exact ⟨true,rfl,⟨fun _=>HGR.out,fun h=>by cases h⟩,HB1.out⟩
    case neg =>
     cases qb
     case false =>
      go_wp2_with (go_at_call 106;refine (EW.out w1 HB1.out).mono ?_;rintro e w2 ⟨rfl,hb2⟩;have HB2:=hidIt (ext_trans HB1.out hb2);clear hb2)
      go_meet
      case rel=>exact ⟨true,rfl,⟨fun _=>(HC.out.cu).elim (fun h=>by have:=(HG.out h.1).2;cases this) id,fun h=>by cases h⟩,HB2.out⟩
     case true =>
      go_wp2_with (go_at_call 106;refine (EW.out w1 HB1.out).mono ?_;rintro e w2 ⟨rfl,hb2⟩;have HB2:=hidIt (ext_trans HB1.out hb2);clear hb2)
      go_meet
      case rel=>exact ⟨false,rfl,⟨(fun h=>by cases h),fun _=>STAY.out (by first | trivial | rfl)⟩,HB2.out⟩
   obtain ⟨cx,rfl,HX,HBc⟩:=hcut
   generalize hwc:wc=wr2 at *
   clear hwc EW SZ
   have HOW2:=hidIt (HOW.out.ext HBc.out)
   have HBL2:=hidIt (HBL.out.ext HBc.out)
   have HBW2:=hidIt (ext_trans HBW.out HBc.out)
   have hw02:=Nat.le_trans hw0r HBc.out.size
   have SG:Hid (∀ w',Calls Tryz.prog 71 #[.int .i64 a,.int .i64 sz] w' fun e w''=>e=.returned (.agg #[.int .i64 (sg a sz).a,.int .i64 (sg a sz).s,.int .i64 (sg a sz).b,.bool (sg a sz).lf,.bool (sg a sz).cr])∧Below w'.heap.size w' w''):=fun w'=>single_any a sz w'
   have ADD:Hid (∀ c',(∀ x ∈ c',Cx.fits enc x=true)→ln enc c'≤ln enc al→∀ w',Calls Tryz.prog 69 #[.agg #[.int .i64 (spn enc c').a,.int .i64 (spn enc c').s,.int .i64 (spn enc c').b,.bool (spn enc c').lf,.bool (spn enc c').cr],.agg #[.int .i64 (sg a sz).a,.int .i64 (sg a sz).s,.int .i64 (sg a sz).b,.bool (sg a sz).lf,.bool (sg a sz).cr]] w' fun e w''=>∃ r,Hid (r=spn enc (c' ++ [a]))∧e=.returned (.agg #[.int .i64 r.a,.int .i64 r.s,.int .i64 r.b,.bool r.lf,.bool r.cr])∧Below w'.heap.size w' w''):=fun c' hfc hlc w'=>by
    have k1:=spn_ok enc c'
    have k2:=sg_ok a sz (by omega)
    have k3:=spn_a enc c' hfc
    have k4:=ln_ge enc c'
    have k6:(spn enc c').b≤c'.length:=spn_b enc _
    have k7:(sg a sz).a=1:=rfl
    have k8:(sg a sz).s=sz:=rfl
    have k9:(sg a sz).b≤1:=by unfold sg;simp only;split <;> omega
    refine (Add_any _ _ w' k1.a0 k2.a0 k1.s0 k2.s0 k1.b0 k2.b0 (by omega) (by omega) (by omega)).mono fun e w'' ⟨r,h1,h2,h3⟩=>⟨r,?_,h2,h3⟩
    unfold Hid
    rw [h1.out,spn_snoc,size_fit enc a hfa,HSZ.out]
   clear HOW HBL HBW hw0r
   cases cx
   case false =>
    have HC':=hidIt (HX.out.2 rfl)
    have HL':=hidIt (show ln enc gs.flatten=st∧ln enc cur=cu from ⟨HST.out,HCU.out⟩)
    have AD:=hidIt (ADD.out cur (fun x hx=>by
     rcases HC.out.cu with ⟨e,_⟩ | g
     ·subst e;cases hx
     ·exact g.fit x hx) (by rw [HCU.out];omega))
    clear ADD HX
    have HP:Hid (∀ w',Below wr2.heap.size wr2 w'→(w'.cell? ⟨w.heap.size,0,none⟩=some (.int .i64 (spn enc cur).a)∧w'.cell? ⟨w.heap.size,1,none⟩=some (.int .i64 (spn enc cur).s)∧w'.cell? ⟨w.heap.size,2,none⟩=some (.int .i64 (spn enc cur).b)∧w'.cell? ⟨w.heap.size,3,none⟩=some (.bool (spn enc cur).lf)∧w'.cell? ⟨w.heap.size,4,none⟩=some (.bool (spn enc cur).cr))∧∀ i,w'.frozen? ⟨w.heap.size,i,none⟩=false):=fun w' hb=>⟨(HBL2.out.ext hb).cells.1,(HBL2.out.ext hb).cells.2.2.2.2⟩
    have hzx:w.heap.size < wr2.heap.size:=HBL2.out.lt
    have FIN:Hid (∀ w' r,Below wr2.heap.size wr2 w'→r=spn enc (cur ++ [a])→OwnR (((((w'.setCell ⟨w.heap.size,0,none⟩ (.int .i64 r.a)).setCell ⟨w.heap.size,1,none⟩ (.int .i64 r.s)).setCell ⟨w.heap.size,2,none⟩ (.int .i64 r.b)).setCell ⟨w.heap.size,3,none⟩ (.bool r.lf)).setCell ⟨w.heap.size,4,none⟩ (.bool r.cr)) w0.heap.size 122 u7 (mks enc b o 0 gs)∧Blk 119 (((((w'.setCell ⟨w.heap.size,0,none⟩ (.int .i64 r.a)).setCell ⟨w.heap.size,1,none⟩ (.int .i64 r.s)).setCell ⟨w.heap.size,2,none⟩ (.int .i64 r.b)).setCell ⟨w.heap.size,3,none⟩ (.bool r.lf)).setCell ⟨w.heap.size,4,none⟩ (.bool r.cr)) w.heap.size (spn enc (cur ++ [a]))∧Below w.heap.size w (((((w'.setCell ⟨w.heap.size,0,none⟩ (.int .i64 r.a)).setCell ⟨w.heap.size,1,none⟩ (.int .i64 r.s)).setCell ⟨w.heap.size,2,none⟩ (.int .i64 r.b)).setCell ⟨w.heap.size,3,none⟩ (.bool r.lf)).setCell ⟨w.heap.size,4,none⟩ (.bool r.cr))∧w0.heap.size≤(((((w'.setCell ⟨w.heap.size,0,none⟩ (.int .i64 r.a)).setCell ⟨w.heap.size,1,none⟩ (.int .i64 r.s)).setCell ⟨w.heap.size,2,none⟩ (.int .i64 r.b)).setCell ⟨w.heap.size,3,none⟩ (.bool r.lf)).setCell ⟨w.heap.size,4,none⟩ (.bool r.cr)).heap.size):=fun w' r hb hr=>by
     subst hr
     obtain ⟨p1,p2⟩:=(HBL2.out.ext hb).put (spn enc (cur ++ [a]))
     exact ⟨(HOW2.out.ext hb).other p2 (by omega),p1,below_put (ext_trans HBW2.out hb) (ext_trans HBW2.out hb).size p2 (Nat.le_refl _),Nat.le_trans hw02 (Nat.le_trans hb.size p2.size)⟩
    obtain ⟨z0,zf⟩:=HP.out wr2 (Below.refl _ _)
    generalize spn enc cur=sd at AD HP z0
    go_upto_region 12 with fail
    refine wp_region_held_drew (S:=fun _=>True) (by kernel_rfl) (trivial) (fun hHeld=>?_)
    refine tkH (v:=?_) 1 rfl ?_ ?_;rotate_left 1
    ·intro wq hSw;(try dsimp only at hSw);go_simp;try (with_reducible rfl)
    try simp only [Act.put,sA4]
    refine tkH (v:=?_) 2 rfl ?_ ?_;rotate_left 1
    ·intro wq hSw;(try dsimp only at hSw);go_simp;try (with_reducible rfl)
    try simp only [Act.put]
    refine wpAnyH_ready (rs:=[0,3]) (by kernel_rfl) (by simp) ?_
    refine (AllReadyH.cons (o:=_) rfl (fun K hK=>?_) (AllReadyH.cons (o:=_) rfl (fun K hK=>?_) AllReadyH.nil))
    ·skip
     go_simp
     refine hK.out _ _ ?_ (fun hHeld=>?_)
     ·trivial
     clear hK K
     try simp only [Act.put,sA4,sA5,sA6]
     refine wpAnyH_ready (rs:=[3]) (by kernel_rfl) (by simp) ?_
     refine AllReadyH.cons (o:=_) rfl (fun K hK=>?_) AllReadyH.nil
     go_simp
     refine (SG.out _).mono ?_;clear z0;rintro e w4 ⟨rfl,hb⟩;have HB4:Hid (Below wr2.heap.size wr2 w4):=ext_trans (by repeat (first | exact HB5.out | exact HB4.out | exact Below.refl _ _ | apply Below.drew | refine ext_alloc ?_ _)) hb;obtain ⟨z0,zf⟩:=HP.out w4 HB4.out;clear hb;try go_wp2_with fail
     refine hK.out _ _ ?_ (fun hHeld=>?_)
     ·trivial
     clear hK K
     try simp only [Act.put,sA4,sA5,sA6]
     refine wpAnyH_ready (rs:=[4]) (by kernel_rfl) (by simp) ?_
     refine AllReadyH.cons (o:=_) rfl (fun K hK=>?_) AllReadyH.nil
     go_simp
     refine (AD.out _).mono ?_;clear z0;rintro e w5 ⟨q5,HQ5,rfl,hb⟩;have HB5:Hid (Below wr2.heap.size wr2 w5):=ext_trans (by repeat (first | exact HB5.out | exact HB4.out | exact Below.refl _ _ | apply Below.drew | refine ext_alloc ?_ _)) hb;obtain ⟨z0,zf⟩:=HP.out w5 HB5.out;have hz5:w.heap.size < w5.heap.size:=Nat.lt_of_lt_of_le hzx HB5.out.size;clear hb;try go_wp2_with fail
     refine hK.out _ _ ?_ (fun hHeld=>?_)
     ·trivial
     clear hK K
     try simp only [Act.put,sA4,sA5,sA6]
     refine wpAnyH_ready (rs:=[5]) (by kernel_rfl) (by simp) ?_
     refine AllReadyH.cons (o:=_) rfl (fun K hK=>?_) AllReadyH.nil
     go_simp
     refine hK.out _ _ ?_ (fun hHeld=>?_)
     ·trivial
     clear hK K
     try simp only [Act.put,sA4,sA5,sA6]
     refine wpAnyH_done (by kernel_rfl) ?_ _
     go_wp2_with fail
     go_roundg (al.length - (j + 1))
     case rel=>exact ⟨j + 1,gs,cur ++ [a],by omega,by go_num,vi (by have h1:=HL'.out.1;first | omega | (have:=HEN2.out;omega)),vi (by have h1:=HL'.out.1;have h2:=HL'.out.2;have h3:=ln_app enc cur [a];have h4:=ln_one enc a;have h5:=HSZ.out;first | omega | (have:=HEN2.out;omega)),HC',(FIN.out _ _ HB5.out HQ5.out).1,(FIN.out _ _ HB5.out HQ5.out).2.1,(FIN.out _ _ HB5.out HQ5.out).2.2.1,(FIN.out _ _ HB5.out HQ5.out).2.2.2⟩
     case measure=>omega
    ·skip
     go_simp
     refine (SG.out _).mono ?_;clear z0;rintro e w4 ⟨rfl,hb⟩;have HB4:Hid (Below wr2.heap.size wr2 w4):=ext_trans (by repeat (first | exact HB5.out | exact HB4.out | exact Below.refl _ _ | apply Below.drew | refine ext_alloc ?_ _)) hb;obtain ⟨z0,zf⟩:=HP.out w4 HB4.out;clear hb;try go_wp2_with fail
     refine hK.out _ _ ?_ (fun hHeld=>?_)
     ·trivial
     clear hK K
     try simp only [Act.put,sA4,sA5,sA6]
     refine wpAnyH_ready (rs:=[0]) (by kernel_rfl) (by simp) ?_
     refine AllReadyH.cons (o:=_) rfl (fun K hK=>?_) AllReadyH.nil
     go_simp
     refine hK.out _ _ ?_ (fun hHeld=>?_)
     ·trivial
     clear hK K
     try simp only [Act.put,sA4,sA5,sA6]
     refine wpAnyH_ready (rs:=[4]) (by kernel_rfl) (by simp) ?_
     refine AllReadyH.cons (o:=_) rfl (fun K hK=>?_) AllReadyH.nil
     go_simp
     refine (AD.out _).mono ?_;clear z0;rintro e w5 ⟨q5,HQ5,rfl,hb⟩;have HB5:Hid (Below wr2.heap.size wr2 w5):=ext_trans (by repeat (first | exact HB5.out | exact HB4.out | exact Below.refl _ _ | apply Below.drew | refine ext_alloc ?_ _)) hb;obtain ⟨z0,zf⟩:=HP.out w5 HB5.out;have hz5:w.heap.size < w5.heap.size:=Nat.lt_of_lt_of_le hzx HB5.out.size;clear hb;try go_wp2_with fail
     refine hK.out _ _ ?_ (fun hHeld=>?_)
     ·trivial
     clear hK K
     try simp only [Act.put,sA4,sA5,sA6]
     refine wpAnyH_ready (rs:=[5]) (by kernel_rfl) (by simp) ?_
     refine AllReadyH.cons (o:=_) rfl (fun K hK=>?_) AllReadyH.nil
     go_simp
     refine hK.out _ _ ?_ (fun hHeld=>?_)
     ·trivial
     clear hK K
     try simp only [Act.put,sA4,sA5,sA6]
     refine wpAnyH_done (by kernel_rfl) ?_ _
     go_wp2_with fail
     go_roundg (al.length - (j + 1))
     case rel=>exact ⟨j + 1,gs,cur ++ [a],by omega,by go_num,vi (by have h1:=HL'.out.1;first | omega | (have:=HEN2.out;omega)),vi (by have h1:=HL'.out.1;have h2:=HL'.out.2;have h3:=ln_app enc cur [a];have h4:=ln_one enc a;have h5:=HSZ.out;first | omega | (have:=HEN2.out;omega)),HC',(FIN.out _ _ HB5.out HQ5.out).1,(FIN.out _ _ HB5.out HQ5.out).2.1,(FIN.out _ _ HB5.out HQ5.out).2.2.1,(FIN.out _ _ HB5.out HQ5.out).2.2.2⟩
     case measure=>omega
   case true =>
    have HGR:=hidIt (HX.out.1 rfl)
    have HC':Hid (CtI enc al (j + 1) (gs ++ [cur]) ([] ++ [a])):=⟨by rw [List.take_add_one,haj,Option.toList_some,← HC.out.all];simp,fun x hx=>(List.mem_append.1 hx).elim (HC.out.gr x) (fun h=>by rw [List.mem_singleton] at h;subst h;exact HGR.out),.inr (Gr.one HEN.out hfa)⟩
    have HL':=hidIt (show ln enc (gs ++ [cur]).flatten=st + cu∧ln enc ([]:List Int)=0 from ⟨by rw [List.flatten_append,ln_app,HST.out];simp [HCU.out],rfl⟩)
    have AD:=hidIt (ADD.out [] (fun x hx=>by cases hx) (by rw [ln_nil];omega))
    obtain ⟨en,hen⟩:∃ en:Nat,(en:Int)=(st:Int) + cu:=⟨st + cu,by omega⟩
    have hes:¬ en=st:=by have:=HGR.out.lpos;rw [HCU.out] at this;omega
    have hse:st≤en:=by omega
    have hec:en≤cb:=by omega
    have hen4:en + sz≤ln enc al:=by omega
    obtain ⟨su,oks,hPX,hsu⟩:∃ (su:Rs) (ok:Rs.Ok su),mkx enc b o st cur=⟨some ⟨b,o + st,none⟩,en - st,en - st,(st:Int),su,ok⟩∧spn enc cur=su:=⟨_,spn_ok enc cur,by rw [mkx,show en - st=cu by omega,HCU.out],rfl⟩
    have HKS:=hidIt oks
    have HMS:=hidIt (show mks enc b o 0 (gs ++ [cur])=mks enc b o 0 gs ++ [⟨some ⟨b,o + st,none⟩,en - st,en - st,(st:Int),su,oks⟩] by rw [mks_snoc,Nat.zero_add,HST.out,hPX])
    have HEN2:=hidIt hen
    rw [← hen]
    clear hen
    rw [hsu] at HBL2
    have z0:=HBL2.out.cells.1
    have HML:=hidIt (show (mks enc b o 0 gs).length + 1≤1099511627776 by rw [mks_len];have:=hll.1;omega)
    clear hPX hsu ADD HX
    go_upto_region 9 with fail
    go_cut [7] from 41 to 51 (fun pv' wF=>Hid (OwnR wF w0.heap.size 122 pv' (mks enc b o 0 (gs ++ [cur])))∧Hid (Blk 119 wF w.heap.size su)∧Hid (Below w.heap.size w wF)∧w0.heap.size≤wF.heap.size)
    case first =>
     refine wp_region_held_drew (S:=fun w''=>(w''.cell? ⟨w.heap.size,0,none⟩=some (.int .i64 su.a)∧w''.cell? ⟨w.heap.size,1,none⟩=some (.int .i64 su.s)∧w''.cell? ⟨w.heap.size,2,none⟩=some (.int .i64 su.b)∧w''.cell? ⟨w.heap.size,3,none⟩=some (.bool su.lf)∧w''.cell? ⟨w.heap.size,4,none⟩=some (.bool su.cr))) (by kernel_rfl) (by first | exact z0 | (dsimp only;go_keep)) (fun hHeld=>?_)
     refine tkH (v:=?_) 0 rfl ?_ ?_;rotate_left 1
     ·intro wq hSw;(try dsimp only at hSw);go_simp;try (with_reducible rfl)
     try simp only [Act.put,sA4]
     refine tkH (v:=?_) 1 rfl ?_ ?_;rotate_left 1
     ·intro wq hSw;(try dsimp only at hSw);go_simp;try (with_reducible rfl)
     try simp only [Act.put]
     refine tkH (v:=?_) 2 rfl ?_ ?_;rotate_left 1
     ·intro wq hSw;(try dsimp only at hSw);go_simp;try (with_reducible rfl)
     try simp only [Act.put]
     refine tkH (v:=?_) 3 rfl ?_ ?_;rotate_left 1
     ·intro wq hSw;(try dsimp only at hSw);go_simp;try (with_reducible rfl)
     try simp only [Act.put]
     refine tkH (v:=?_) 4 rfl ?_ ?_;rotate_left 1
     ·intro wq hSw;(try dsimp only at hSw);go_simp;try (with_reducible rfl)
     try simp only [Act.put]
     refine tkH (v:=?_) 5 rfl ?_ ?_;rotate_left 1
     ·intro wq hSw;(try dsimp only at hSw);go_simp;try (with_reducible rfl)
     try simp only [Act.put]
     refine tkH (v:=?_) 6 rfl ?_ ?_;rotate_left 1
     ·intro wq hSw;(try dsimp only at hSw);go_simp;try (with_reducible rfl)
     try simp only [Act.put]
     refine tkH (v:=?_) 7 rfl ?_ ?_;rotate_left 1
     ·intro wq hSw;(try dsimp only at hSw);go_simp;try (with_reducible rfl)
     try simp only [Act.put]
     refine tkH (v:=?_) 8 rfl ?_ ?_;rotate_left 1
     ·intro wq hSw;(try dsimp only at hSw);go_simp;try (with_reducible rfl)
     try simp only [Act.put]
     refine wpAnyH_ready (rs:=[9]) (by kernel_rfl) (by simp) ?_
     refine AllReadyH.cons (o:=_) rfl (fun K hK=>?_) AllReadyH.nil
     go_simp
     refine hK.out _ _ ?_ (fun hHeld=>?_)
     ·first | exact z0 | exact z9 | ((try dsimp only);go_keep)
     clear hK K
     try simp only [Act.put,sA4,sA5,sA6]
     refine wpAnyH_ready (rs:=[10]) (by kernel_rfl) (by simp) ?_
     refine AllReadyH.cons (o:=_) rfl (fun K hK=>?_) AllReadyH.nil
     rw [if_pos (by rfl)]
     refine wp_append_piece _ _ 147 (by rfl) w0.heap.size 122 Tryz.info_piece Tryz.underlying147 u7 (mks enc b o 0 gs) (by rfl) (HOW2.out.ext (new_drew _ _)) ⟨some ⟨b,o + st,none⟩,en - st,en - st,(st:Int),su,oks⟩ wr2.heap.size (by rfl) (lit7 wr2 122 ⟨some ⟨b,o + st,none⟩,en - st,en - st,(st:Int),su,oks⟩) HML.out (Nat.le_trans hw02 (new_drew _ _).size) ?_;intro v' w9 hown' hg';have HB9:=hidIt (below_append HOW2.out HBW2.out (by omega) HBW2.out.size (new_drew _ _) hg');have HBL9:=hidIt (blk_append HOW2.out HBL2.out (by omega) (new_drew _ _) hg');have HOW9:=hidIt hown';have hs9:=Nat.le_trans hw02 (Nat.le_trans (new_drew _ _).size hg'.size);have z9:=HBL9.out.cells.1;clear hown' hg';change K (Act.put _ (some 51) v') w9
     refine hK.out _ _ ?_ (fun hHeld=>?_)
     ·first | exact z0 | exact z9 | ((try dsimp only);go_keep)
     clear hK K
     try simp only [Act.put,sA4,sA5,sA6]
     refine wpAnyH_ready (rs:=[11]) (by kernel_rfl) (by simp) ?_
     refine AllReadyH.cons (o:=_) rfl (fun K hK=>?_) AllReadyH.nil
     go_simp
     refine hK.out _ _ ?_ (fun hHeld=>?_)
     ·first | exact z0 | exact z9 | ((try dsimp only);go_keep)
     clear hK K
     try simp only [Act.put,sA4,sA5,sA6]
     refine wpAnyH_done (by kernel_rfl) ?_ _
     go_wp2_with fail
     go_meet
     case rel=>exact ⟨by rw [HMS.out];exact HOW9,HBL9,HB9,hs9⟩
    obtain ⟨HOW3,HBL3,HBW3,hw03⟩:=hcut
    generalize hwc:wc=w9 at *
    clear hwc z0
    have z9:=HBL3.out.cells
    have lz9:=HBL3.out.lt
    obtain ⟨p1,p2⟩:=HBL3.out.put Rs.zero
    have HBL4:=hidIt p1
    have HOW4:=hidIt (HOW3.out.other p2 (by omega))
    have HBW4:=hidIt (below_put HBW3.out HBW3.out.size p2 (Nat.le_refl _))
    have hw04:=Nat.le_trans hw03 p2.size
    clear p1 p2
    obtain ⟨z91,_,_,_,zf9⟩:=z9
    obtain ⟨wz,hwz⟩:∃ wz,wz=(((((w9.setCell ⟨w.heap.size,0,none⟩ (.int .i64 Rs.zero.a)).setCell ⟨w.heap.size,1,none⟩ (.int .i64 Rs.zero.s)).setCell ⟨w.heap.size,2,none⟩ (.int .i64 Rs.zero.b)).setCell ⟨w.heap.size,3,none⟩ (.bool Rs.zero.lf)).setCell ⟨w.heap.size,4,none⟩ (.bool Rs.zero.cr)):=⟨_,rfl⟩
    rw [← hwz] at HBL4 HOW4 HBW4 hw04
    go_upto_region 11 with fail
    change Code.wp _ _ _ _ (((((w9.setCell ⟨w.heap.size,0,none⟩ (.int .i64 Rs.zero.a)).setCell ⟨w.heap.size,1,none⟩ (.int .i64 Rs.zero.s)).setCell ⟨w.heap.size,2,none⟩ (.int .i64 Rs.zero.b)).setCell ⟨w.heap.size,3,none⟩ (.bool Rs.zero.lf)).setCell ⟨w.heap.size,4,none⟩ (.bool Rs.zero.cr))
    rw [← hwz]
    clear hwz z91 zf9 lz9
    have HP:Hid (∀ w',Below wz.heap.size wz w'→(w'.cell? ⟨w.heap.size,0,none⟩=some (.int .i64 (spn enc []).a)∧w'.cell? ⟨w.heap.size,1,none⟩=some (.int .i64 (spn enc []).s)∧w'.cell? ⟨w.heap.size,2,none⟩=some (.int .i64 (spn enc []).b)∧w'.cell? ⟨w.heap.size,3,none⟩=some (.bool (spn enc []).lf)∧w'.cell? ⟨w.heap.size,4,none⟩=some (.bool (spn enc []).cr))∧∀ i,w'.frozen? ⟨w.heap.size,i,none⟩=false):=fun w' hb=>⟨(HBL4.out.ext hb).cells.1,(HBL4.out.ext hb).cells.2.2.2.2⟩
    have hzx:w.heap.size < wz.heap.size:=HBL4.out.lt
    have FIN:Hid (∀ w' r,Below wz.heap.size wz w'→r=spn enc ([] ++ [a])→OwnR (((((w'.setCell ⟨w.heap.size,0,none⟩ (.int .i64 r.a)).setCell ⟨w.heap.size,1,none⟩ (.int .i64 r.s)).setCell ⟨w.heap.size,2,none⟩ (.int .i64 r.b)).setCell ⟨w.heap.size,3,none⟩ (.bool r.lf)).setCell ⟨w.heap.size,4,none⟩ (.bool r.cr)) w0.heap.size 122 u7 (mks enc b o 0 (gs++[cur]))∧Blk 119 (((((w'.setCell ⟨w.heap.size,0,none⟩ (.int .i64 r.a)).setCell ⟨w.heap.size,1,none⟩ (.int .i64 r.s)).setCell ⟨w.heap.size,2,none⟩ (.int .i64 r.b)).setCell ⟨w.heap.size,3,none⟩ (.bool r.lf)).setCell ⟨w.heap.size,4,none⟩ (.bool r.cr)) w.heap.size (spn enc ([] ++ [a]))∧Below w.heap.size w (((((w'.setCell ⟨w.heap.size,0,none⟩ (.int .i64 r.a)).setCell ⟨w.heap.size,1,none⟩ (.int .i64 r.s)).setCell ⟨w.heap.size,2,none⟩ (.int .i64 r.b)).setCell ⟨w.heap.size,3,none⟩ (.bool r.lf)).setCell ⟨w.heap.size,4,none⟩ (.bool r.cr))∧w0.heap.size≤(((((w'.setCell ⟨w.heap.size,0,none⟩ (.int .i64 r.a)).setCell ⟨w.heap.size,1,none⟩ (.int .i64 r.s)).setCell ⟨w.heap.size,2,none⟩ (.int .i64 r.b)).setCell ⟨w.heap.size,3,none⟩ (.bool r.lf)).setCell ⟨w.heap.size,4,none⟩ (.bool r.cr)).heap.size):=fun w' r hb hr=>by
     subst hr
     obtain ⟨p1,p2⟩:=(HBL4.out.ext hb).put (spn enc ([] ++ [a]))
     exact ⟨(HOW4.out.ext hb).other p2 (by omega),p1,below_put (ext_trans HBW4.out hb) (ext_trans HBW4.out hb).size p2 (Nat.le_refl _),Nat.le_trans hw04 (Nat.le_trans hb.size p2.size)⟩
    obtain ⟨z0,zf⟩:=HP.out wz (Below.refl _ _)
    generalize spn enc []=sd at AD HP z0
    go_upto_region 12 with fail
    refine wp_region_held_drew (S:=fun _=>True) (by kernel_rfl) (trivial) (fun hHeld=>?_)
    refine tkH (v:=?_) 1 rfl ?_ ?_;rotate_left 1
    ·intro wq hSw;(try dsimp only at hSw);go_simp;try (with_reducible rfl)
    try simp only [Act.put,sA4]
    refine tkH (v:=?_) 2 rfl ?_ ?_;rotate_left 1
    ·intro wq hSw;(try dsimp only at hSw);go_simp;try (with_reducible rfl)
    try simp only [Act.put]
    refine wpAnyH_ready (rs:=[0,3]) (by kernel_rfl) (by simp) ?_
    refine (AllReadyH.cons (o:=_) rfl (fun K hK=>?_) (AllReadyH.cons (o:=_) rfl (fun K hK=>?_) AllReadyH.nil))
    ·skip
     go_simp
     refine hK.out _ _ ?_ (fun hHeld=>?_)
     ·trivial
     clear hK K
     try simp only [Act.put,sA4,sA5,sA6]
     refine wpAnyH_ready (rs:=[3]) (by kernel_rfl) (by simp) ?_
     refine AllReadyH.cons (o:=_) rfl (fun K hK=>?_) AllReadyH.nil
     go_simp
     refine (SG.out _).mono ?_;clear z0;rintro e w4 ⟨rfl,hb⟩;have HB4:Hid (Below wz.heap.size wz w4):=ext_trans (by repeat (first | exact HB5.out | exact HB4.out | exact Below.refl _ _ | apply Below.drew | refine ext_alloc ?_ _)) hb;obtain ⟨z0,zf⟩:=HP.out w4 HB4.out;clear hb;try go_wp2_with fail
     refine hK.out _ _ ?_ (fun hHeld=>?_)
     ·trivial
     clear hK K
     try simp only [Act.put,sA4,sA5,sA6]
     refine wpAnyH_ready (rs:=[4]) (by kernel_rfl) (by simp) ?_
     refine AllReadyH.cons (o:=_) rfl (fun K hK=>?_) AllReadyH.nil
     go_simp
     refine (AD.out _).mono ?_;clear z0;rintro e w5 ⟨q5,HQ5,rfl,hb⟩;have HB5:Hid (Below wz.heap.size wz w5):=ext_trans (by repeat (first | exact HB5.out | exact HB4.out | exact Below.refl _ _ | apply Below.drew | refine ext_alloc ?_ _)) hb;obtain ⟨z0,zf⟩:=HP.out w5 HB5.out;have hz5:w.heap.size < w5.heap.size:=Nat.lt_of_lt_of_le hzx HB5.out.size;clear hb;try go_wp2_with fail
     refine hK.out _ _ ?_ (fun hHeld=>?_)
     ·trivial
     clear hK K
     try simp only [Act.put,sA4,sA5,sA6]
     refine wpAnyH_ready (rs:=[5]) (by kernel_rfl) (by simp) ?_
     refine AllReadyH.cons (o:=_) rfl (fun K hK=>?_) AllReadyH.nil
     go_simp
     refine hK.out _ _ ?_ (fun hHeld=>?_)
     ·trivial
     clear hK K
     try simp only [Act.put,sA4,sA5,sA6]
     refine wpAnyH_done (by kernel_rfl) ?_ _
     go_wp2_with fail
     go_roundg (al.length - (j + 1))
     case rel=>exact ⟨j + 1,(gs++[cur]),[] ++ [a],by omega,by go_num,vi (by have h1:=HL'.out.1;first | omega | (have:=HEN2.out;omega)),vi (by have h1:=HL'.out.1;have h2:=HL'.out.2;have h3:=ln_app enc [] [a];have h4:=ln_one enc a;have h5:=HSZ.out;first | omega | (have:=HEN2.out;omega)),HC',(FIN.out _ _ HB5.out HQ5.out).1,(FIN.out _ _ HB5.out HQ5.out).2.1,(FIN.out _ _ HB5.out HQ5.out).2.2.1,(FIN.out _ _ HB5.out HQ5.out).2.2.2⟩
     case measure=>omega
    ·skip
     go_simp
     refine (SG.out _).mono ?_;clear z0;rintro e w4 ⟨rfl,hb⟩;have HB4:Hid (Below wz.heap.size wz w4):=ext_trans (by repeat (first | exact HB5.out | exact HB4.out | exact Below.refl _ _ | apply Below.drew | refine ext_alloc ?_ _)) hb;obtain ⟨z0,zf⟩:=HP.out w4 HB4.out;clear hb;try go_wp2_with fail
     refine hK.out _ _ ?_ (fun hHeld=>?_)
     ·trivial
     clear hK K
     try simp only [Act.put,sA4,sA5,sA6]
     refine wpAnyH_ready (rs:=[0]) (by kernel_rfl) (by simp) ?_
     refine AllReadyH.cons (o:=_) rfl (fun K hK=>?_) AllReadyH.nil
     go_simp
     refine hK.out _ _ ?_ (fun hHeld=>?_)
     ·trivial
     clear hK K
     try simp only [Act.put,sA4,sA5,sA6]
     refine wpAnyH_ready (rs:=[4]) (by kernel_rfl) (by simp) ?_
     refine AllReadyH.cons (o:=_) rfl (fun K hK=>?_) AllReadyH.nil
     go_simp
     refine (AD.out _).mono ?_;clear z0;rintro e w5 ⟨q5,HQ5,rfl,hb⟩;have HB5:Hid (Below wz.heap.size wz w5):=ext_trans (by repeat (first | exact HB5.out | exact HB4.out | exact Below.refl _ _ | apply Below.drew | refine ext_alloc ?_ _)) hb;obtain ⟨z0,zf⟩:=HP.out w5 HB5.out;have hz5:w.heap.size < w5.heap.size:=Nat.lt_of_lt_of_le hzx HB5.out.size;clear hb;try go_wp2_with fail
     refine hK.out _ _ ?_ (fun hHeld=>?_)
     ·trivial
     clear hK K
     try simp only [Act.put,sA4,sA5,sA6]
     refine wpAnyH_ready (rs:=[5]) (by kernel_rfl) (by simp) ?_
     refine AllReadyH.cons (o:=_) rfl (fun K hK=>?_) AllReadyH.nil
     go_simp
     refine hK.out _ _ ?_ (fun hHeld=>?_)
     ·trivial
     clear hK K
     try simp only [Act.put,sA4,sA5,sA6]
     refine wpAnyH_done (by kernel_rfl) ?_ _
     go_wp2_with fail
     go_roundg (al.length - (j + 1))
     case rel=>exact ⟨j + 1,(gs++[cur]),[] ++ [a],by omega,by go_num,vi (by have h1:=HL'.out.1;first | omega | (have:=HEN2.out;omega)),vi (by have h1:=HL'.out.1;have h2:=HL'.out.2;have h3:=ln_app enc [] [a];have h4:=ln_one enc a;have h5:=HSZ.out;first | omega | (have:=HEN2.out;omega)),HC',(FIN.out _ _ HB5.out HQ5.out).1,(FIN.out _ _ HB5.out HQ5.out).2.1,(FIN.out _ _ HB5.out HQ5.out).2.2.1,(FIN.out _ _ HB5.out HQ5.out).2.2.2⟩
     case measure=>omega
 obtain ⟨gs,cur,rfl,rfl,HC,HOW,HBL,HBW⟩:=hcut
 generalize hwc:wc=wl at *
 clear hwc
 have hll:=HC.out.len
 by_cases hcur:cur=[]
 ·have hc0:ln enc cur=0:=by rw [hcur];rfl
  have HFL:=hidIt (show gs.flatten=al by have e:=HC.out.all;rw [hcur,List.append_nil,List.take_length] at e;exact e)
  have HGS:=hidIt HC.out.gr
  clear hcur
  rw [hc0]
  generalize ln enc gs.flatten=st at *
  go_wp2_with fail
  go_ret
  exact ⟨_,gs,rfl,⟨HFL.out,HGS.out,HOW.out.le (by omega)⟩,HBW.out⟩
 ·have hGr:Gr enc cur:=HC.out.cu.elim (fun h=>absurd h.1 hcur) id
  have HGR:=hidIt hGr
  have e0:=HC.out.all
  rw [List.take_length] at e0
  have hne:al≠[]:=fun e=>hcur (by rw [e] at e0;exact (List.append_eq_nil_iff.1 e0).2)
  obtain rfl:pb=some ⟨b,o,none⟩:=hP hne
  have HFL:=hidIt (show (gs ++ [cur]).flatten=al∧(∀ g ∈ gs ++ [cur],Gr enc g) from ⟨by rw [← e0];simp,fun x hx=>(List.mem_append.1 hx).elim (HC.out.gr x) (fun h=>by rw [List.mem_singleton] at h;subst h;exact HGR.out)⟩)
  have hw02:w0.heap.size≤wl.heap.size:=by have:=HBL.out.lt;omega
  generalize hstt:ln enc gs.flatten=st at *
  generalize hcuu:ln enc cur=cu at *
  have HST:=hidIt hstt
  have HCU:=hidIt hcuu
  clear hstt hcuu hGr e0 hP
  obtain ⟨en,hen⟩:∃ en:Nat,(en:Int)=(st:Int) + cu:=⟨st + cu,by omega⟩
  have hes:¬ en=st:=by have:=HGR.out.lpos;rw [HCU.out] at this;omega
  have hes':((st:Int) == (en:Int))=false:=by simp;omega
  have hse:st≤en:=by omega
  have hec:en≤cb:=by omega
  obtain ⟨su,oks,hPX,hsu⟩:∃ (su:Rs) (ok:Rs.Ok su),mkx enc b o st cur=⟨some ⟨b,o + st,none⟩,en - st,en - st,(st:Int),su,ok⟩∧spn enc cur=su:=⟨_,spn_ok enc cur,by rw [mkx,show en - st=cu by omega,HCU.out],rfl⟩
  have HMS:=hidIt (show mks enc b o 0 (gs ++ [cur])=mks enc b o 0 gs ++ [⟨some ⟨b,o + st,none⟩,en - st,en - st,(st:Int),su,oks⟩] by rw [mks_snoc,Nat.zero_add,HST.out,hPX])
  rw [← hen]
  rw [hsu] at HBL
  have z0:=HBL.out.cells.1
  have HML:=hidIt (show (mks enc b o 0 gs).length + 1≤1099511627776 by rw [mks_len];have:=hll.1;omega)
  clear hPX hsu hen
  go_upto_region 16 with fail
  refine wp_region_held_drew (S:=fun w''=>(w''.cell? ⟨w.heap.size,0,none⟩=some (.int .i64 su.a)∧w''.cell? ⟨w.heap.size,1,none⟩=some (.int .i64 su.s)∧w''.cell? ⟨w.heap.size,2,none⟩=some (.int .i64 su.b)∧w''.cell? ⟨w.heap.size,3,none⟩=some (.bool su.lf)∧w''.cell? ⟨w.heap.size,4,none⟩=some (.bool su.cr))) (by kernel_rfl) (by first | exact z0 | (dsimp only;go_keep)) (fun hHeld=>?_)
  refine tkH (v:=?_) 0 rfl ?_ ?_;rotate_left 1
  ·intro wq hSw;(try dsimp only at hSw);go_simp;try (with_reducible rfl)
  try simp only [Act.put,sA4]
  refine tkH (v:=?_) 1 rfl ?_ ?_;rotate_left 1
  ·intro wq hSw;(try dsimp only at hSw);go_simp;try (with_reducible rfl)
  try simp only [Act.put]
  refine tkH (v:=?_) 2 rfl ?_ ?_;rotate_left 1
  ·intro wq hSw;(try dsimp only at hSw);go_simp;try (with_reducible rfl)
  try simp only [Act.put]
  refine tkH (v:=?_) 3 rfl ?_ ?_;rotate_left 1
  ·intro wq hSw;(try dsimp only at hSw);go_simp;try (with_reducible rfl)
  try simp only [Act.put]
  refine tkH (v:=?_) 4 rfl ?_ ?_;rotate_left 1
  ·intro wq hSw;(try dsimp only at hSw);go_simp;try (with_reducible rfl)
  try simp only [Act.put]
  refine tkH (v:=?_) 5 rfl ?_ ?_;rotate_left 1
  ·intro wq hSw;(try dsimp only at hSw);go_simp;try (with_reducible rfl)
  try simp only [Act.put]
  refine tkH (v:=?_) 6 rfl ?_ ?_;rotate_left 1
  ·intro wq hSw;(try dsimp only at hSw);go_simp;try (with_reducible rfl)
  try simp only [Act.put]
  refine tkH (v:=?_) 7 rfl ?_ ?_;rotate_left 1
  ·intro wq hSw;(try dsimp only at hSw);go_simp;try (with_reducible rfl)
  try simp only [Act.put]
  refine tkH (v:=?_) 8 rfl ?_ ?_;rotate_left 1
  ·intro wq hSw;(try dsimp only at hSw);go_simp;try (with_reducible rfl)
  try simp only [Act.put]
  refine wpAnyH_ready (rs:=[9]) (by kernel_rfl) (by simp) ?_
  refine AllReadyH.cons (o:=_) rfl (fun K hK=>?_) AllReadyH.nil
  go_simp
  refine hK.out _ _ ?_ (fun hHeld=>?_)
  ·first | exact z0 | exact z9 | ((try dsimp only);go_keep)
  clear hK K
  try simp only [Act.put,sA4,sA5,sA6]
  refine wpAnyH_ready (rs:=[10]) (by kernel_rfl) (by simp) ?_
  refine AllReadyH.cons (o:=_) rfl (fun K hK=>?_) AllReadyH.nil
  rw [if_pos (by rfl)]
  refine wp_append_piece _ _ 147 (by rfl) w0.heap.size 122 Tryz.info_piece Tryz.underlying147 u7 (mks enc b o 0 gs) (by rfl) (HOW.out.ext (new_drew _ _)) ⟨some ⟨b,o + st,none⟩,en - st,en - st,(st:Int),su,oks⟩ wl.heap.size (by rfl) (lit7 wl 122 ⟨some ⟨b,o + st,none⟩,en - st,en - st,(st:Int),su,oks⟩) HML.out (Nat.le_trans hw02 (new_drew _ _).size) ?_;intro v' w9 hown' hg';have HB9:=hidIt (below_append HOW.out HBW.out (by omega) HBW.out.size (new_drew _ _) hg');have HBL9:=hidIt (blk_append HOW.out HBL.out (by omega) (new_drew _ _) hg');have HOW9:=hidIt hown';have hs9:=Nat.le_trans hw02 (Nat.le_trans (new_drew _ _).size hg'.size);have z9:=HBL9.out.cells.1;clear hown' hg';change K (Act.put _ (some 77) v') w9
  refine hK.out _ _ ?_ (fun hHeld=>?_)
  ·first | exact z0 | exact z9 | ((try dsimp only);go_keep)
  clear hK K
  try simp only [Act.put,sA4,sA5,sA6]
  refine wpAnyH_ready (rs:=[11]) (by kernel_rfl) (by simp) ?_
  refine AllReadyH.cons (o:=_) rfl (fun K hK=>?_) AllReadyH.nil
  go_simp
  refine hK.out _ _ ?_ (fun hHeld=>?_)
  ·first | exact z0 | exact z9 | ((try dsimp only);go_keep)
  clear hK K
  try simp only [Act.put,sA4,sA5,sA6]
  refine wpAnyH_done (by kernel_rfl) ?_ _
  go_wp2_with fail
  go_ret
  exact ⟨_,gs ++ [cur],rfl,⟨HFL.out.1,HFL.out.2,by rw [HMS.out];exact HOW9.out.le (by omega)⟩,HB9.out⟩
end Go.Proofs.YtjjfakokakamaaaGreat.P
