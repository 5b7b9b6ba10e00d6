import Derived.Test.YtgfdfajblidleaaGreatK01
set_option maxRecDepth 100000
namespace Go.Proofs.YtgfdfajblidleaaGreat.P
open Go.RowKit
theorem Tin.put {w w':World} {A:Nat} {cs:Array Value} {T:TypeId} {fr:Nat × Nat} (hA:w.heap[A]?=some (.cells cs T fr)) (hT:T≠144) (hb:w.grownBy w' (some A)):∀ {t:Tr It} {u:Option Addr},Tin w t u→Tin w' t u
 | ⟨none⟩,_,h=>h
 | ⟨some (l,x,r)⟩,_,⟨g,lv,rv,hu,hg,hl,hr⟩=>⟨g,lv,rv,hu,by
   rw [hb.block g (Array.getElem?_eq_some_iff.1 hg).1 (by rintro e;cases e;rw [hA] at hg;simp at hg;exact hT hg.2.1)]
   exact hg,Tin.put hA hT hb hl,Tin.put hA hT hb hr⟩
def BlkI (w:World) (g:Nat) (x:It):Prop:=w.heap[g]?=some (.cells #[.slice x.p x.n x.c,.int .i64 x.pl,.int .i64 x.sp.a,.int .i64 x.sp.s,.int .i64 x.sp.b,.bool x.sp.lf,.bool x.sp.cr] 111 (0,0))
theorem BlkI.lt {w:World} {g:Nat} {x:It} (h:BlkI w g x):g < w.heap.size:=(Array.getElem?_eq_some_iff.1 h).1
theorem BlkI.ext {w w':World} {g:Nat} {x:It} (h:BlkI w g x) (hb:Below w.heap.size w w'):BlkI w' g x:=by unfold BlkI;rw [hb.block g h.lt];exact h
theorem BlkI.cells {w:World} {g:Nat} {x:It} (h:BlkI w g x):(w.cell? ⟨g,0,none⟩=some (.slice x.p x.n x.c)∧w.cell? ⟨g,1,none⟩=some (.int .i64 x.pl)∧w.cell? ⟨g,2,none⟩=some (.int .i64 x.sp.a)∧w.cell? ⟨g,3,none⟩=some (.int .i64 x.sp.s)∧w.cell? ⟨g,4,none⟩=some (.int .i64 x.sp.b)∧w.cell? ⟨g,5,none⟩=some (.bool x.sp.lf)∧w.cell? ⟨g,6,none⟩=some (.bool x.sp.cr))∧True∧(∀ i,w.frozen? ⟨g,i,none⟩=false):=by
 refine ⟨?_,?_,?_⟩
 ·first | trivial | (refine ⟨?_,?_,?_,?_,?_,?_,?_⟩ <;> (rw [cell_of_row w g _ _ _ _ h];rfl)) | (refine ⟨?_,?_,?_,?_,?_⟩ <;> (rw [cell_of_row w g _ _ _ _ h];rfl)) | (rw [cell_of_row w g _ _ _ _ h];rfl)
 ·first | trivial | (refine ⟨?_,?_,?_,?_,?_,?_,?_⟩ <;> (rw [cell_of_row w g _ _ _ _ h];rfl)) | (refine ⟨?_,?_,?_,?_,?_⟩ <;> (rw [cell_of_row w g _ _ _ _ h];rfl)) | (rw [cell_of_row w g _ _ _ _ h];rfl)
 ·intro i;unfold BlkI at h;simp [World.frozen?,h]
theorem BlkI.put {w:World} {g:Nat} {x:It} (h:BlkI w g x) (q:It):BlkI (((((((w.setCell ⟨g,0,none⟩ (.slice q.p q.n q.c)).setCell ⟨g,1,none⟩ (.int .i64 q.pl)).setCell ⟨g,2,none⟩ (.int .i64 q.sp.a)).setCell ⟨g,3,none⟩ (.int .i64 q.sp.s)).setCell ⟨g,4,none⟩ (.int .i64 q.sp.b)).setCell ⟨g,5,none⟩ (.bool q.sp.lf)).setCell ⟨g,6,none⟩ (.bool q.sp.cr)) g q∧w.grownBy (((((((w.setCell ⟨g,0,none⟩ (.slice q.p q.n q.c)).setCell ⟨g,1,none⟩ (.int .i64 q.pl)).setCell ⟨g,2,none⟩ (.int .i64 q.sp.a)).setCell ⟨g,3,none⟩ (.int .i64 q.sp.s)).setCell ⟨g,4,none⟩ (.int .i64 q.sp.b)).setCell ⟨g,5,none⟩ (.bool q.sp.lf)).setCell ⟨g,6,none⟩ (.bool q.sp.cr)) (some g):=by
 obtain ⟨h1,g1⟩:=set1 h 0 (.slice q.p q.n q.c)
 simp only [List.setIfInBounds_toArray,List.set_cons_zero] at h1
 obtain ⟨h2,g2⟩:=set1 h1 1 (.int .i64 q.pl)
 simp only [List.setIfInBounds_toArray,List.set_cons_zero,List.set_cons_succ] at h2
 obtain ⟨h3,g3⟩:=set1 h2 2 (.int .i64 q.sp.a)
 simp only [List.setIfInBounds_toArray,List.set_cons_zero,List.set_cons_succ] at h3
 obtain ⟨h4,g4⟩:=set1 h3 3 (.int .i64 q.sp.s)
 simp only [List.setIfInBounds_toArray,List.set_cons_zero,List.set_cons_succ] at h4
 obtain ⟨h5,g5⟩:=set1 h4 4 (.int .i64 q.sp.b)
 simp only [List.setIfInBounds_toArray,List.set_cons_zero,List.set_cons_succ] at h5
 obtain ⟨h6,g6⟩:=set1 h5 5 (.bool q.sp.lf)
 simp only [List.setIfInBounds_toArray,List.set_cons_zero,List.set_cons_succ] at h6
 obtain ⟨h7,g7⟩:=set1 h6 6 (.bool q.sp.cr)
 simp only [List.setIfInBounds_toArray,List.set_cons_zero,List.set_cons_succ] at h7
 exact ⟨h7,zgt (zgt (zgt (zgt (zgt (zgt g1 g2) g3) g4) g5) g6) g7⟩
theorem zcs {g A:Nat} (h:¬ g=A) (w:World) (i j:Nat) (v:Value):(w.setCell ⟨A,j,none⟩ v).cell? ⟨g,i,none⟩=w.cell? ⟨g,i,none⟩ :=
 by apply World.cell?_setCell_other;intro e;cases e;exact h rfl
open Go.RowKit
open Go.RowKit
theorem RdR.at {w:World} {v:Value} {xs:List It} (h:RdR w v xs) (hn:0 < xs.length):∃ b off cap,v=.slice (some ⟨b,off,none⟩) xs.length cap∧xs.length≤cap∧cap≤9223372036854775807∧b < w.heap.size∧∀ i,i < xs.length→(w.cell? ⟨b,off + i * 7,none⟩=some (.slice (xs[i]?.getD It.zero).p (xs[i]?.getD It.zero).n (xs[i]?.getD It.zero).c)∧w.cell? ⟨b,off + i * 7 + 1,none⟩=some (.int .i64 (xs[i]?.getD It.zero).pl)∧w.cell? ⟨b,off + i * 7 + 2,none⟩=some (.int .i64 (xs[i]?.getD It.zero).sp.a)∧w.cell? ⟨b,off + i * 7 + 3,none⟩=some (.int .i64 (xs[i]?.getD It.zero).sp.s)∧w.cell? ⟨b,off + i * 7 + 4,none⟩=some (.int .i64 (xs[i]?.getD It.zero).sp.b)∧w.cell? ⟨b,off + i * 7 + 5,none⟩=some (.bool (xs[i]?.getD It.zero).sp.lf)∧w.cell? ⟨b,off + i * 7 + 6,none⟩=some (.bool (xs[i]?.getD It.zero).sp.cr))∧True:=by
 obtain ⟨ao,cap,rfl,h1,h2,h0,h3⟩:=h
 obtain ⟨b,off,rfl,hb,hc⟩:=h3 (by intro h;subst h;simp at hn)
 exact ⟨b,off,cap,rfl,h1,h2,hb,hc⟩
theorem RdR.upto {w:World} {b off n cap:Nat} {xs:List It} (h:RdR w (.slice (some ⟨b,off,none⟩) n cap) xs) (m:Nat) (hm:m≤xs.length):RdR w (.slice (some ⟨b,off,none⟩) m cap) (xs.take m):=by
 obtain ⟨ao,cap',hv,h1,h2,h0,h3⟩:=h
 simp only [Value.slice.injEq] at hv
 obtain ⟨rfl,rfl,rfl⟩:=hv
 have hl:(xs.take m).length=m:=by rw [List.length_take];omega
 refine ⟨_,cap,by rw [hl],by rw [hl];omega,h2,h0,fun hn=>?_⟩
 obtain ⟨b',off',ha,hlt,hc⟩:=h3 (by intro h;subst h;simp at hn)
 simp at ha
 obtain ⟨rfl,rfl⟩:=ha
 refine ⟨b,off,rfl,hlt,fun i hi=>?_⟩
 rw [hl] at hi
 rw [List.getElem?_take,if_pos hi]
 exact hc i (by omega)
theorem RdR.from {w:World} {b off n cap:Nat} {xs:List It} (h:RdR w (.slice (some ⟨b,off,none⟩) n cap) xs) (m:Nat) (hm:m≤xs.length):RdR w (.slice (some ⟨b,off + m * 7,none⟩) (n - m) (cap - m)) (xs.drop m):=by
 obtain ⟨ao,cap',hv,h1,h2,h0,h3⟩:=h
 simp only [Value.slice.injEq] at hv
 obtain ⟨rfl,rfl,rfl⟩:=hv
 refine ⟨_,cap - m,by rw [List.length_drop],by rw [List.length_drop];omega,by omega,(fun h=>by cases h),fun hn=>?_⟩
 obtain ⟨b',off',ha,hlt,hc⟩:=h3 (by intro h;subst h;simp at hn)
 simp at ha
 obtain ⟨rfl,rfl⟩:=ha
 refine ⟨b,off + m * 7,rfl,hlt,fun i hi=>?_⟩
 rw [List.length_drop] at hi
 rw [List.getElem?_drop]
 have:=hc (m + i) (by omega)
 rw [Nat.add_mul,← Nat.add_assoc] at this
 exact this
theorem RdR.from_end {w:World} {ao:Option Addr} {n cap m:Nat} {xs:List It} (h:RdR w (.slice ao n cap) xs) (hc:cap=m):RdR w (.slice ao (n - m) (cap - m)) (xs.drop m):=by
 obtain ⟨ao',cap',hv,h1,h2,h0,h3⟩:=h
 simp only [Value.slice.injEq] at hv
 obtain ⟨rfl,rfl,rfl⟩:=hv
 have e:xs.drop m=[]:=List.drop_of_length_le (by omega)
 refine ⟨_,cap - m,by rw [List.length_drop],by rw [List.length_drop];omega,by omega,(fun h=>by rw [h0 h];omega),fun hn=>absurd e hn⟩
def Built (t:Tr It) (xs:List It):Prop:=t.list=xs∧t.Bal∧t.ht=dig xs.length
theorem Built.mk' {xs:List It} {a b:Tr It} (hn:0 < xs.length) (m:Nat) (hm:m=xs.length / 2) (ha:Built a (xs.take m)) (hb:Built b (xs.drop (m + 1))):Built (.node a (xs[m]?.getD It.zero) b) xs:=by
 obtain ⟨a1,a2,a3⟩:=ha
 obtain ⟨b1,b2,b3⟩:=hb
 have hlt:m < xs.length:=by omega
 have la:(xs.take m).length=xs.length / 2:=by rw [List.length_take];omega
 have lb:(xs.drop (m + 1)).length=xs.length - xs.length / 2 - 1:=by rw [List.length_drop];omega
 rw [la] at a3
 rw [lb] at b3
 have d1:=dig_pos hn
 have d2:dig (xs.length - xs.length / 2 - 1)≤dig (xs.length / 2):=dig_mono (by omega)
 have d3:dig (xs.length / 2)≤dig (xs.length - xs.length / 2 - 1) + 1:=Nat.le_trans (dig_mono (by omega)) (dig_step _)
 refine ⟨?_,⟨a2,b2,by omega,by omega⟩,?_⟩
 ·rw [Tr.list,a1,b1,List.getElem?_eq_getElem hlt]
  simp only [Option.getD_some]
  rw [List.getElem_cons_drop,List.take_append_drop]
 ·simp only [Tr.ht];omega
set_option maxHeartbeats 2000000 in
theorem build_step (xs:List It) (b off cap:Nat) (w:World) (h:RdR w (.slice (some ⟨b,off,none⟩) xs.length cap) xs) (hn:0 < xs.length) (hc:xs.length≤cap) (hcm:cap≤9223372036854775807) (hbl:b < w.heap.size) (hw:wt xs≤4611686018427387904)
  (hcell:∀ i,i < xs.length→(w.cell? ⟨b,off + i * 7,none⟩=some (.slice (xs[i]?.getD It.zero).p (xs[i]?.getD It.zero).n (xs[i]?.getD It.zero).c)∧w.cell? ⟨b,off + i * 7 + 1,none⟩=some (.int .i64 (xs[i]?.getD It.zero).pl)∧w.cell? ⟨b,off + i * 7 + 2,none⟩=some (.int .i64 (xs[i]?.getD It.zero).sp.a)∧w.cell? ⟨b,off + i * 7 + 3,none⟩=some (.int .i64 (xs[i]?.getD It.zero).sp.s)∧w.cell? ⟨b,off + i * 7 + 4,none⟩=some (.int .i64 (xs[i]?.getD It.zero).sp.b)∧w.cell? ⟨b,off + i * 7 + 5,none⟩=some (.bool (xs[i]?.getD It.zero).sp.lf)∧w.cell? ⟨b,off + i * 7 + 6,none⟩=some (.bool (xs[i]?.getD It.zero).sp.cr))∧True)
  (ih:∀ (ys:List It) (v:Value) (w:World),ys.length < xs.length→RdR w v ys→wt ys≤4611686018427387904→Calls Tryz.prog 75 #[v] w fun e w'=>∃ u t,e=.returned (.pointer u)∧Tin w' t u∧Built t ys∧Below w.heap.size w w') :
  Calls Tryz.prog 75 #[.slice (some ⟨b,off,none⟩) xs.length cap] w fun e w'=>∃ u t,e=.returned (.pointer u)∧Tin w' t u∧Built t xs∧Below w.heap.size w w':=by
 obtain ⟨m,hm⟩:∃ m,m=xs.length / 2:=⟨_,rfl⟩
 obtain ⟨q,hq⟩:∃ q,q=m + 1:=⟨_,rfl⟩
 have hmlt:m < xs.length:=by omega
 have hlen:=Nat.le_trans (wt_len xs) hw
 have w1:wt (xs.take m) + wt (xs.drop m)=wt xs:=by rw [← wt_app,List.take_append_drop]
 have w2:wt (xs.take q) + wt (xs.drop q)=wt xs:=by rw [← wt_app,List.take_append_drop]
 have hbr:∀ (a c:Tr It),Built a (xs.take m)→Built c (xs.drop q)→wt (a.list ++ (xs[m]?.getD It.zero) :: c.list)≤4611686018427387904:=by
  intro a c ha hc'
  have:=(Built.mk' hn m hm ha (by rw [← hq];exact hc')).1
  rw [Tr.list] at this
  rw [this];exact hw
 have B1:Hid (∀ w',Below w.heap.size w w'→Calls Tryz.prog 75 #[.slice (some ⟨b,off,none⟩) m cap] w' fun e w''=>∃ u,e=.returned (.pointer u)∧Hid (∃ t,Tin w'' t u∧Built t (xs.take m))∧Below w.heap.size w w''):=fun w' hb=>(ih (xs.take m) _ w' (by rw [List.length_take];omega) ((h.upto m (by omega)).ext hb) (by omega)).mono fun _ _ ⟨u,t,k1,k2,k3,k4⟩=>⟨u,k1,⟨t,k2,k3⟩,zxt hb k4⟩
 have B2:Hid (∀ v u w',RdR w v (xs.drop q)→Hid (∃ t,Tin w' t u∧Built t (xs.take m))→Below w.heap.size w w'→Calls Tryz.prog 75 #[v] w' fun e w''=>∃ u',e=.returned (.pointer u')∧Hid ((∃ t,Tin w'' t u∧Built t (xs.take m))∧∃ t,Tin w'' t u'∧Built t (xs.drop q))∧Below w.heap.size w w''):=fun v u w' hv ht hb=>(ih (xs.drop q) v w' (by rw [List.length_drop];omega) (hv.ext hb) (by omega)).mono fun _ _ ⟨u',t,k1,k2,k3,k4⟩=>by
  obtain ⟨t0,j1,j2⟩:=ht.out
  exact ⟨u',k1,⟨⟨t0,j1.ext k4,j2⟩,t,k2,k3⟩,zxt hb k4⟩
 have B3:Hid (∀ u u' w',Hid ((∃ t,Tin w' t u∧Built t (xs.take m))∧∃ t,Tin w' t u'∧Built t (xs.drop q))→Below w.heap.size w w'→Calls Tryz.prog 94 #[.pointer u,.agg #[.slice (xs[m]?.getD It.zero).p (xs[m]?.getD It.zero).n (xs[m]?.getD It.zero).c,.int .i64 (xs[m]?.getD It.zero).pl,.int .i64 (xs[m]?.getD It.zero).sp.a,.int .i64 (xs[m]?.getD It.zero).sp.s,.int .i64 (xs[m]?.getD It.zero).sp.b,.bool (xs[m]?.getD It.zero).sp.lf,.bool (xs[m]?.getD It.zero).sp.cr],.pointer u'] w' fun e w''=>∃ u',e=.returned (.pointer u')∧Hid (∃ t,Tin w'' t u'∧Built t xs)∧Below w.heap.size w w''):=fun u u' w' ht hb=>by
  obtain ⟨⟨a,a1,a2⟩,c,c1,c2⟩:=ht.out
  exact (branch_any a c _ u u' w' a1 c1 (hbr a c a2 c2)).mono fun _ _ ⟨v,k1,k2,k3⟩=>⟨v,k1,⟨_,k2,Built.mk' hn m hm a2 (by rw [← hq];exact c2)⟩,zxt hb k3⟩
 have C:Hid (∀ w',Below w.heap.size w w'→(w'.cell? ⟨b,off + m * 7,none⟩=some (.slice (xs[m]?.getD It.zero).p (xs[m]?.getD It.zero).n (xs[m]?.getD It.zero).c)∧w'.cell? ⟨b,off + m * 7 + 1,none⟩=some (.int .i64 (xs[m]?.getD It.zero).pl)∧w'.cell? ⟨b,off + m * 7 + 2,none⟩=some (.int .i64 (xs[m]?.getD It.zero).sp.a)∧w'.cell? ⟨b,off + m * 7 + 3,none⟩=some (.int .i64 (xs[m]?.getD It.zero).sp.s)∧w'.cell? ⟨b,off + m * 7 + 4,none⟩=some (.int .i64 (xs[m]?.getD It.zero).sp.b)∧w'.cell? ⟨b,off + m * 7 + 5,none⟩=some (.bool (xs[m]?.getD It.zero).sp.lf)∧w'.cell? ⟨b,off + m * 7 + 6,none⟩=some (.bool (xs[m]?.getD It.zero).sp.cr))∧True):=fun w' hb=>⟨(by first | trivial | exact C7.ext hb hbl (hcell m hmlt).1 | exact C5.ext hb hbl (hcell m hmlt).1 | exact (hb.cell (p:=⟨b,off + m * 7,none⟩) hbl).trans (hcell m hmlt).1 | exact (hb.cell (p:=⟨b,off + m * 7,none⟩) hbl).trans (hcell m hmlt).1),(by first | trivial | exact C7.ext hb hbl (hcell m hmlt).2 | exact C5.ext hb hbl (hcell m hmlt).2 | exact (hb.cell (p:=⟨b,off + m * 7 + 1,none⟩) hbl).trans (hcell m hmlt).2 | exact (hb.cell (p:=⟨b,off + m * 7 + 1,none⟩) hbl).trans (hcell m hmlt).2)⟩
 obtain ⟨c0,c1⟩:=C.out w (Below.refl _ _)
 have hd1:(xs.length:Int) / 2=(m:Int):=by omega
 have hd2:Int.tdiv (xs.length:Int) 2=(m:Int):=by rw [Int.tdiv_eq_ediv_of_nonneg (by omega)];omega
 have hwq:IntKind.i64.wrap ((m:Int) + 1)=(q:Int):=by rw [IntKind.wrap_i64];omega
 have hne:¬ xs.length=0:=by omega
 have hne':¬ (xs.length:Int)=0:=by omega
 have i1:(0:Int)≤(m:Int):=by omega
 have i2:(m:Int) < (xs.length:Int):=by omega
 have i3:(m:Int)≤(cap:Int):=by omega
 have i4:(q:Int)≤(xs.length:Int):=by omega
 have i5:(0:Int)≤(q:Int):=by omega
 have HF:=zh (h.from q (by omega))
 have HE:Hid (cap=q→RdR w (.slice (some ⟨b,off,none⟩) (xs.length - q) (cap - q)) (xs.drop q)):=fun he=>h.from_end he
 have HQ:=zh hq
 have HM:=zh hm
 clear h hcell ih w1 w2 hbr hw hq hm
 generalize xs[m]?.getD It.zero=x at *
 by_cases hcq:cap=q
 ·have e1:(xs.length=1∧cap=1∧m=0∧q=1)∨(xs.length=2∧cap=2∧m=1∧q=2):=by have h1:=HM.out;have h2:=HQ.out;omega
  have HV:=zh (HE.out hcq)
  clear HF HE hcq hd1 hd2 hwq hne hne' i1 i2 i3 i4 i5 HQ HM hmlt hlen hn hc hcm
  generalize xs.length=n at *
  rcases e1 with ⟨rfl,rfl,rfl,rfl⟩ | ⟨rfl,rfl,rfl,rfl⟩
  ·simp only [Nat.zero_mul,Nat.add_zero,Nat.sub_self] at *
   have hwq:IntKind.i64.wrap ((0:Int) + 1)=1:=by rw [IntKind.wrap_i64];omega
   have hwq':IntKind.i64.wrap (1:Int)=1:=by rw [IntKind.wrap_i64];omega
   go_enter Tryz.func75,Tryz.ntmps75
   go_wp2_with fail
   go_region_held3 (fun w'=>(w'.cell? ⟨b,off,none⟩=some (.slice x.p x.n x.c)∧w'.cell? ⟨b,off + 1,none⟩=some (.int .i64 x.pl)∧w'.cell? ⟨b,off + 2,none⟩=some (.int .i64 x.sp.a)∧w'.cell? ⟨b,off + 3,none⟩=some (.int .i64 x.sp.s)∧w'.cell? ⟨b,off + 4,none⟩=some (.int .i64 x.sp.b)∧w'.cell? ⟨b,off + 5,none⟩=some (.bool x.sp.lf)∧w'.cell? ⟨b,off + 6,none⟩=some (.bool x.sp.cr))∧True) (go_keep) (first
    | (go_at_call 75;refine (B1.out _ (by repeat (first | exact Below.refl _ _ | apply Below.drew))).mono ?_;clear B1;rintro e w1 ⟨u1,rfl,T1,hb1⟩;clear c0 c1;have HB1:=zh hb1;obtain ⟨c0,c1⟩:=C.out w1 hb1;clear hb1)
    | (go_at_call 75;refine (B2.out _ _ _ HV.out T1 (by repeat (first | exact HB1.out | apply Below.drew))).mono ?_;rintro e w2 ⟨u2,rfl,T2,hb1⟩;clear c0 c1;have HB2:=zh hb1;obtain ⟨c0,c1⟩:=C.out w2 hb1;clear hb1)
    | (go_at_call 94;refine (B3.out _ _ _ T2 (by repeat (first | exact HB2.out | apply Below.drew))).mono ?_;rintro e w3 ⟨u3,rfl,T3,hb1⟩;clear c0 c1;have HB3:=zh hb1;obtain ⟨c0,c1⟩:=C.out w3 hb1;clear hb1))
   all_goals
    go_wp2_with fail
    go_ret
    obtain ⟨t,k1,k2⟩:=T3.out
    exact ⟨_,t,rfl,k1,k2,HB3.out⟩
  ·simp only [Nat.one_mul,Nat.sub_self] at *
   have hwq:IntKind.i64.wrap ((1:Int) + 1)=2:=by rw [IntKind.wrap_i64];omega
   have hwq':IntKind.i64.wrap (2:Int)=2:=by rw [IntKind.wrap_i64];omega
   go_enter Tryz.func75,Tryz.ntmps75
   go_wp2_with fail
   go_region_held3 (fun w'=>(w'.cell? ⟨b,off + 7,none⟩=some (.slice x.p x.n x.c)∧w'.cell? ⟨b,off + 7 + 1,none⟩=some (.int .i64 x.pl)∧w'.cell? ⟨b,off + 7 + 2,none⟩=some (.int .i64 x.sp.a)∧w'.cell? ⟨b,off + 7 + 3,none⟩=some (.int .i64 x.sp.s)∧w'.cell? ⟨b,off + 7 + 4,none⟩=some (.int .i64 x.sp.b)∧w'.cell? ⟨b,off + 7 + 5,none⟩=some (.bool x.sp.lf)∧w'.cell? ⟨b,off + 7 + 6,none⟩=some (.bool x.sp.cr))∧True) (go_keep) (first
    | (go_at_call 75;refine (B1.out _ (by repeat (first | exact Below.refl _ _ | apply Below.drew))).mono ?_;clear B1;rintro e w1 ⟨u1,rfl,T1,hb1⟩;clear c0 c1;have HB1:=zh hb1;obtain ⟨c0,c1⟩:=C.out w1 hb1;clear hb1)
    | (go_at_call 75;refine (B2.out _ _ _ HV.out T1 (by repeat (first | exact HB1.out | apply Below.drew))).mono ?_;rintro e w2 ⟨u2,rfl,T2,hb1⟩;clear c0 c1;have HB2:=zh hb1;obtain ⟨c0,c1⟩:=C.out w2 hb1;clear hb1)
    | (go_at_call 94;refine (B3.out _ _ _ T2 (by repeat (first | exact HB2.out | apply Below.drew))).mono ?_;rintro e w3 ⟨u3,rfl,T3,hb1⟩;clear c0 c1;have HB3:=zh hb1;obtain ⟨c0,c1⟩:=C.out w3 hb1;clear hb1))
   all_goals
    go_wp2_with fail
    go_ret
    obtain ⟨t,k1,k2⟩:=T3.out
    exact ⟨_,t,rfl,k1,k2,HB3.out⟩
 ·have HV:=zh HF.out
  clear HF HE
  generalize xs.length=n at *
  go_enter Tryz.func75,Tryz.ntmps75
  go_wp2_with fail
  go_region_held3 (fun w'=>(w'.cell? ⟨b,off + m * 7,none⟩=some (.slice x.p x.n x.c)∧w'.cell? ⟨b,off + m * 7 + 1,none⟩=some (.int .i64 x.pl)∧w'.cell? ⟨b,off + m * 7 + 2,none⟩=some (.int .i64 x.sp.a)∧w'.cell? ⟨b,off + m * 7 + 3,none⟩=some (.int .i64 x.sp.s)∧w'.cell? ⟨b,off + m * 7 + 4,none⟩=some (.int .i64 x.sp.b)∧w'.cell? ⟨b,off + m * 7 + 5,none⟩=some (.bool x.sp.lf)∧w'.cell? ⟨b,off + m * 7 + 6,none⟩=some (.bool x.sp.cr))∧True) (go_keep) (first
   | (go_at_call 75;refine (B1.out _ (by repeat (first | exact Below.refl _ _ | apply Below.drew))).mono ?_;clear B1;rintro e w1 ⟨u1,rfl,T1,hb1⟩;clear c0 c1;have HB1:=zh hb1;obtain ⟨c0,c1⟩:=C.out w1 hb1;clear hb1)
   | (go_at_call 75;refine (B2.out _ _ _ HV.out T1 (by repeat (first | exact HB1.out | apply Below.drew))).mono ?_;rintro e w2 ⟨u2,rfl,T2,hb1⟩;clear c0 c1;have HB2:=zh hb1;obtain ⟨c0,c1⟩:=C.out w2 hb1;clear hb1)
   | (go_at_call 94;refine (B3.out _ _ _ T2 (by repeat (first | exact HB2.out | apply Below.drew))).mono ?_;rintro e w3 ⟨u3,rfl,T3,hb1⟩;clear c0 c1;have HB3:=zh hb1;obtain ⟨c0,c1⟩:=C.out w3 hb1;clear hb1))
  go_wp2_with fail
  go_ret
  obtain ⟨t,k1,k2⟩:=T3.out
  exact ⟨_,t,rfl,k1,k2,HB3.out⟩
theorem build_any (n:Nat):∀ (xs:List It) (v:Value) (w:World),xs.length≤n→RdR w v xs→wt xs≤4611686018427387904→Calls Tryz.prog 75 #[v] w fun e w'=>∃ u t,e=.returned (.pointer u)∧Tin w' t u∧Built t xs∧Below w.heap.size w w':=by
 have nilc:∀ (v:Value) (w:World),RdR w v []→Calls Tryz.prog 75 #[v] w fun e w'=>∃ u t,e=.returned (.pointer u)∧Tin w' t u∧Built t []∧Below w.heap.size w w':=by
  intro v w h
  obtain ⟨ao,cap,rfl,h1,h2,h0,h3⟩:=h
  clear h3 h0
  simp only [List.length_nil] at *
  go_enter Tryz.func75,Tryz.ntmps75
  go_wp2_with fail
  go_ret
  exact ⟨none,.nil,rfl,rfl,⟨rfl,trivial,by simp [Tr.ht,dig_zero]⟩,Below.refl _ _⟩
 induction n with
 | zero =>
   intro xs v w hn h _
   obtain rfl:xs=[]:=List.length_eq_zero_iff.1 (by omega)
   exact nilc v w h
 | succ n ih =>
   intro xs v w hn h hw
   by_cases he:xs=[]
   ·subst he;exact nilc v w h
   ·have hp:0 < xs.length:=List.length_pos_iff.2 he
    have h':=h
    obtain ⟨b,off,cap,rfl,h1,h2,h3,h4⟩:=h.at hp
    exact build_step xs b off cap w h' hp h1 h2 h3 hw h4 (fun ys v w hy hr hw'=>ih ys v w (by omega) hr hw')
def TT (w:World) (v:Value) (xs:List It):Prop:=∃ u t,v=.agg #[.pointer u]∧Tin w t u∧t.list=xs∧t.Bal
theorem TT.ext {w w':World} {v:Value} {xs:List It} (h:TT w v xs) (hb:Below w.heap.size w w'):TT w' v xs:=by
 obtain ⟨u,t,h1,h2,h3⟩:=h
 exact ⟨u,t,h1,h2.ext hb,h3⟩
theorem Of_any (v:Value) (xs:List It) (w:World) (h:RdR w v xs) (hw:wt xs≤4611686018427387904) :
  Calls Tryz.prog 52 #[v] w fun e w'=>∃ u,e=.returned (.agg #[.pointer u])∧TT w' (.agg #[.pointer u]) xs∧Below w.heap.size w w':=by
 have K:Hid (∀ w',Below w.heap.size w w'→Calls Tryz.prog 75 #[v] w' fun e w''=>∃ u,e=.returned (.pointer u)∧Hid (∃ t,Tin w'' t u∧Built t xs)∧Below w'.heap.size w' w''):=fun w' hb=>(build_any _ xs v w' (Nat.le_refl _) (h.ext hb) hw).mono fun _ _ ⟨u,t,k1,k2,k3,k4⟩=>⟨u,k1,⟨t,k2,k3⟩,k4⟩
 obtain ⟨ao,cap,rfl,_⟩:=h
 obtain ⟨w0,hw0⟩:∃ w0,w0=w.alloc (.cells #[.pointer none] 106):=⟨_,rfl⟩
 have hA:w0.heap[w.heap.size]?=some (.cells #[.pointer none] 106 (0,0)):=by rw [hw0];exact heap_alloc_new _ _
 have hb0:Below w.heap.size w w0:=by rw [hw0];exact zxa (Below.refl _ _) _
 have hlt:w.heap.size < w0.heap.size:=by first | trivial | (rw [hw0];simp)
 go_enter Tryz.func52,Tryz.ntmps52
 go_wp2_with fail
 rw [← hw0]
 clear hw0
 refine (K.out w0 hb0).mono ?_
 rintro e w1 ⟨u,rfl,T1,hb1⟩
 have hA1:w1.heap[w.heap.size]?=some (.cells #[.pointer none] 106 (0,0)):=by rw [hb1.block _ hlt];exact hA
 have z0:w1.cell? ⟨w.heap.size,0,none⟩=some (.pointer none):=by (rw [cell_of_row w1 _ _ _ _ _ hA1];rfl)
 have zf:∀ i,w1.frozen? ⟨w.heap.size,i,none⟩=false:=by intro i;simp [World.frozen?,hA1]
 have HB1:=zh hb1
 have HB0:=zh hb0
 have HA1:=zh hA1
 clear hb1 hb0 hA hA1
 go_wp2_with fail
 obtain ⟨t,k1,k2,k3,k4⟩:=T1.out
 obtain ⟨p1,p2⟩:=set1 HA1.out 0 (.pointer u)
 exact bodyPost_ret (v:=.agg #[.pointer u]) (by simp [results,Tryz.results52,go_sem,z0]) rfl ⟨u,rfl,⟨u,t,rfl,k1.put HA1.out (by decide) p2,k2,k3⟩,zbp (zxt HB0.out HB1.out) (by have:=HB1.out.size;omega) p2 (Nat.le_refl _)⟩
theorem Size_any (u:Option Addr) (xs:List It) (w:World) (h:TT w (.agg #[.pointer u]) xs):Calls Tryz.prog 84 #[.agg #[.pointer u]] w fun e w'=>e=.returned (.int .i64 xs.length)∧Below w.heap.size w w':=by
 obtain ⟨u',t,hu,ht,hl,_⟩:=h
 obtain rfl:u=u':=by simpa using hu
 have K:Hid (∀ w',Below w.heap.size w w'→Calls Tryz.prog 79 #[.pointer u] w' fun e w''=>e=.returned (.int .i64 xs.length)∧w''=w'):=fun w' hb=>by rw [← hl];exact count_any t u w' (ht.ext hb)
 clear ht hl hu
 go_enter Tryz.func84,Tryz.ntmps84
 go_wp2_with (go_at_call 79;refine (K.out _ (by repeat (first | exact Below.refl _ _ | refine zxa ?_ _))).mono ?_;rintro e w1 ⟨rfl,rfl⟩)
 go_ret
 exact ⟨rfl,zxa (Below.refl _ _) _⟩
theorem Sum_any (u:Option Addr) (xs:List It) (w:World) (h:TT w (.agg #[.pointer u]) xs):Calls Tryz.prog 54 #[.agg #[.pointer u]] w fun e w'=>∃ s,Hid (s=rA.su xs)∧e=.returned (.agg #[.int .i64 s.a,.int .i64 s.s,.int .i64 s.b,.bool s.lf,.bool s.cr])∧Below w.heap.size w w':=by
 obtain ⟨u',t,hu,ht,hl,_⟩:=h
 obtain rfl:u=u':=by simpa using hu
 have K:Hid (∀ w',Below w.heap.size w w'→Calls Tryz.prog 78 #[.pointer u] w' fun e w''=>∃ s,Hid (s=rA.su xs)∧e=.returned (.agg #[.int .i64 s.a,.int .i64 s.s,.int .i64 s.b,.bool s.lf,.bool s.cr])∧Below w'.heap.size w' w''):=fun w' hb=>by rw [← hl];exact total_any t u w' (ht.ext hb)
 obtain ⟨w0,hw0⟩:∃ w0,w0=(w.alloc (.cells #[.pointer u] 106)).alloc (.cells #[.int .i64 0,.int .i64 0,.int .i64 0,.bool false,.bool false] 109):=⟨_,rfl⟩
 have hA:Blk 109 w0 (w.heap.size + 1) Rs.zero:=by
  have:=Blk.new 109 (w.alloc (.cells #[.pointer u] 106)) Rs.zero
  rw [World.size_alloc] at this
  rw [hw0];exact this
 have hb0:Below w.heap.size w w0:=by rw [hw0];exact zxa (zxa (Below.refl _ _) _) _
 clear ht hl hu
 go_enter Tryz.func54,Tryz.ntmps54
 go_wp2_with fail
 rw [← hw0]
 clear hw0
 refine (K.out w0 hb0).mono ?_
 rintro e w1 ⟨s,HS,rfl,hb1⟩
 have hA1:=hA.ext hb1
 obtain ⟨z0,z1,z2,z3,zf⟩:=hA1.cells
 have HB:=zh (zxt hb0 hb1)
 have hsz:w.heap.size + 1 < w1.heap.size:=hA1.lt
 clear hb0 hb1
 go_wp2_with fail
 obtain ⟨p1,p2⟩:=hA1.put s
 exact bodyPost_ret (v:=.agg #[.int .i64 s.a,.int .i64 s.s,.int .i64 s.b,.bool s.lf,.bool s.cr]) (by simp [results,Tryz.results54,go_sem,z0]) rfl ⟨s,HS,rfl,zbp HB.out (by omega) p2 (by omega)⟩
end Go.Proofs.YtgfdfajblidleaaGreat.P
