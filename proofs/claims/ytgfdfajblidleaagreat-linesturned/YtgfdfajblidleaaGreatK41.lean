import Derived.Test.YtgfdfajblidleaaGreatK40
set_option maxRecDepth 100000
namespace Go.Proofs.YtgfdfajblidleaaGreat.P
open Go.RowKit
def tuO (bt bg bn g t:Nat) (e:Prop) (j:Nat):Prop:=j=bt∨j=bg∨j=bn∨(e∧(j=g∨j=t))
structure Tu (enc:Int) (W:World) (g t bt ba bw bg bn bs gr mw cw a:Nat) (vs:Value) (A0:List Int) (k x:Nat) (A:List Int) (w:World):Prop where
 told:w.heap[bt]?=some (.cells #[.int .i64 (k:Nat)] 3 (0,0))
 at':w.heap[ba]?=some (.cells #[.int .i64 (a:Nat)] 3 (0,0))
 want:w.heap[bw]?=some (.cells #[.slice (some ⟨gr,0,none⟩) mw cw] 62 (0,0))
 good:w.heap[bg]?=some (.cells #[.bool true] 4 (0,0))
 nx:w.heap[bn]?=some (.cells #[.int .i64 (x:Nat)] 3 (0,0))
 sc:w.heap[bs]?=some (.cells #[vs] 25 (0,0))
 b:BtW enc w g t A x
 l:∃ v,w.heap[g]?=some (.cells #[.pointer (some ⟨t,0,none⟩),v] 29 (0,0))∧OwnI w 0 v A∧∀ q,v.ownBlock=some q→q≠bt∧q≠bn
 row:∀ i,i≤a→Rw4 w gr i (lnK enc A0 (i:Nat))
 rt:Typ 69 w gr
 bl:Below W.heap.size W w
 d1:bt≠ba∧bt≠bn∧ba≠bn
 lo:W.heap.size≤bt∧W.heap.size≤bg∧W.heap.size≤bn∧W.heap.size≤g∧W.heap.size≤t
 xs:x≤12
section
variable {enc:Int} {W:World} {g t bt ba bw bg bn bs gr mw cw a:Nat} {vs:Value} {A0:List Int} {k x:Nat} {A:List Int} {w w':World}
theorem Tu.stay {own:Nat→Prop} (h:Tu enc W g t bt ba bw bg bn bs gr mw cw a vs A0 k x A w) (hk:Kps own w w') (hn:∀ j,own j→W.heap.size≤j∧Typ 92 w j):Tu enc W g t bt ba bw bg bn bs gr mw cw a vs A0 k x A w':=by
 have no:∀ {Y:TypeId} {q:Nat},Typ Y w q→Y≠92→¬ own q:=fun ht n e=>n (ht.uniq (hn _ e).2)
 have kp:∀ {Y:TypeId} {q:Nat} {cs:Array Value},w.heap[q]?=some (.cells cs Y (0,0))→Y≠92→w'.heap[q]?=some (.cells cs Y (0,0)):=fun {Y q cs} hq n=>(hk.same q (Array.getElem?_eq_some_iff.1 hq).1 (no (Y:=Y) ⟨_,hq⟩ n)).trans hq
 have hz:Tz enc w' t A:=h.b.tz.kps hk (fun j e=>⟨fun q=>absurd (q.uniq (hn j e).2) (by decide),fun q=>absurd (q.uniq (hn j e).2) (by decide)⟩) (no h.b.tz.typ (by decide))
 obtain ⟨v,hv1,hv2,hv3⟩:=h.l
 have ho:OwnI w' 0 v A:=hv2.kps2 hk (fun j e q=>absurd (q.uniq (hn j e).2) (by decide))
 have hg:=kp hv1 (by decide)
 obtain ⟨cs,hr⟩:=h.rt
 exact ⟨kp h.told (by decide),kp h.at' (by decide),kp h.want (by decide),kp h.good (by decide),kp h.nx (by decide),kp h.sc (by decide),⟨⟨v,hg,ho⟩,hz,h.b.bd,h.b.en⟩,⟨v,hg,ho,hv3⟩,fun i hi=>(h.row i hi).same (hk.same gr (h.row i hi).lt (no h.rt (by decide))),⟨cs,kp hr (by decide)⟩,h.bl.trans (hk.below h.bl.size (fun j e=>(hn j e).1)),h.d1,h.lo,h.xs⟩
theorem Tu.ext (h:Tu enc W g t bt ba bw bg bn bs gr mw cw a vs A0 k x A w) (hb:Below w.heap.size w w'):Tu enc W g t bt ba bw bg bn bs gr mw cw a vs A0 k x A w':=h.stay (Kps.of_below (fun _=>False) hb) (fun _ e=>e.elim)
theorem Tu.turn {e:Prop} {k' x':Nat} {A':List Int} (h:Tu enc W g t bt ba bw bg bn bs gr mw cw a vs A0 k x A w) (hk:Kps (tuO bt bg bn g t e) w w') (h1:w'.heap[bt]?=some (.cells #[.int .i64 (k':Nat)] 3 (0,0))) (h2:w'.heap[bg]?=some (.cells #[.bool true] 4 (0,0))) (h3:w'.heap[bn]?=some (.cells #[.int .i64 (x':Nat)] 3 (0,0)))
  (h4:BtW enc w' g t A' x') (h5:∃ v,w'.heap[g]?=some (.cells #[.pointer (some ⟨t,0,none⟩),v] 29 (0,0))∧OwnI w' 0 v A'∧∀ q,v.ownBlock=some q→q≠bt∧q≠bn) (h6:x'≤12):Tu enc W g t bt ba bw bg bn bs gr mw cw a vs A0 k' x' A' w':=by
 have no:∀ {Y:TypeId} {q:Nat},Typ Y w q→Y≠3→Y≠4→Y≠29→Y≠115→¬ tuO bt bg bn g t e q:=fun {Y q} ht n1 n2 n3 n4 o=>by
  rcases o with o | o | o | ⟨_,o | o⟩ <;> subst o
  ·exact n1 (ht.uniq ⟨_,h.told⟩)
  ·exact n2 (ht.uniq ⟨_,h.good⟩)
  ·exact n1 (ht.uniq ⟨_,h.nx⟩)
  ·exact n3 (ht.uniq h.b.typ)
  ·exact n4 (ht.uniq h.b.tz.typ)
 have kp:∀ {Y:TypeId} {q:Nat} {cs:Array Value},w.heap[q]?=some (.cells cs Y (0,0))→¬ tuO bt bg bn g t e q→w'.heap[q]?=some (.cells cs Y (0,0)):=fun {Y q cs} hq n=>(hk.same q (Array.getElem?_eq_some_iff.1 hq).1 n).trans hq
 have nba:¬ tuO bt bg bn g t e ba:=fun o=>by
  have ht:Typ 3 w ba:=⟨_,h.at'⟩
  rcases o with o | o | o | ⟨_,o | o⟩
  ·exact h.d1.1 o.symm
  ·subst o;exact absurd (ht.uniq ⟨_,h.good⟩) (by decide)
  ·exact h.d1.2.2 o
  ·subst o;exact absurd (ht.uniq h.b.typ) (by decide)
  ·subst o;exact absurd (ht.uniq h.b.tz.typ) (by decide)
 obtain ⟨cs,hr⟩:=h.rt
 have ngr:¬ tuO bt bg bn g t e gr:=no (Y:=69) ⟨cs,hr⟩ (by decide) (by decide) (by decide) (by decide)
 refine ⟨h1,kp h.at' nba,kp h.want (no (Y:=62) ⟨_,h.want⟩ (by decide) (by decide) (by decide) (by decide)),h2,h3,kp h.sc (no (Y:=25) ⟨_,h.sc⟩ (by decide) (by decide) (by decide) (by decide)),h4,h5,fun i hi=>(h.row i hi).same (hk.same gr (h.row i hi).lt ngr),⟨cs,kp hr ngr⟩,h.bl.trans (hk.below h.bl.size (fun j o=>?_)),h.d1,h.lo,h6⟩
 obtain ⟨l1,l2,l3,l4,l5⟩:=h.lo
 rcases o with o | o | o | ⟨_,o | o⟩ <;> rw [o] <;> assumption
theorem Tu.box (h:Tu enc W g t bt ba bw bg bn bs gr mw cw a vs A0 k x A w) {q:Nat} (hq:q=bt∨q=bg∨q=bn) (hk:Kps (fun j=>j=q) w w') {k':Nat} (h1:w'.heap[bt]?=some (.cells #[.int .i64 (k':Nat)] 3 (0,0))) (h2:w'.heap[bg]?=some (.cells #[.bool true] 4 (0,0))) (h3:w'.heap[bn]?=some (.cells #[.int .i64 (x:Nat)] 3 (0,0))):Tu enc W g t bt ba bw bg bn bs gr mw cw a vs A0 k' x A w':=by
 have ht:Typ 3 w q∨Typ 4 w q:=by
  rcases hq with rfl | rfl | rfl
  ·exact .inl ⟨_,h.told⟩
  ·exact .inr ⟨_,h.good⟩
  ·exact .inl ⟨_,h.nx⟩
 have no:∀ {Y:TypeId} {p:Nat},Typ Y w p→Y≠3→Y≠4→¬ p=q:=fun {Y p} hp n1 n2 e=>by
  subst e
  rcases ht with ht | ht
  ·exact n1 (hp.uniq ht)
  ·exact n2 (hp.uniq ht)
 obtain ⟨v,hv1,hv2,hv3⟩:=h.l
 have hz:Tz enc w' t A:=h.b.tz.kps hk (fun j e=>⟨fun p=>no p (by decide) (by decide) e,fun p=>no p (by decide) (by decide) e⟩) (no h.b.tz.typ (by decide) (by decide))
 have hg:=(hk.same g h.b.lt (no h.b.typ (by decide) (by decide))).trans hv1
 have ho:OwnI w' 0 v A:=by
  obtain ⟨y1,y2⟩:=hv2
  refine ⟨y1,?_⟩
  rcases y2 with y2 | ⟨j,cap,cur,hvj,hb,hgg,r⟩
  ·exact .inl y2
  ·refine .inr ⟨j,cap,cur,hvj,hb,(hk.same j (Array.getElem?_eq_some_iff.1 hgg).1 (fun e=>?_)).trans hgg,r⟩
   have h3':=hv3 j (by rw [hvj];rfl)
   have hj:Typ 3 w j:=⟨_,hgg⟩
   subst e
   rcases hq with e | e | e
   ·exact h3'.1 e
   ·subst e;exact absurd (hj.uniq ⟨_,h.good⟩) (by decide)
   ·exact h3'.2 e
 exact h.turn (e:=False) (hk.mono fun i _ e=>by subst e;rcases hq with e | e | e;exact .inl e;exact .inr (.inl e);exact .inr (.inr (.inl e))) h1 h2 h3 ⟨⟨v,hg,ho⟩,hz,h.b.bd,h.b.en⟩ ⟨v,hg,ho,hv3⟩ h.xs
theorem Tu.ne (h:Tu enc W g t bt ba bw bg bn bs gr mw cw a vs A0 k x A w):bt≠bg∧bn≠bg∧bt≠bn:=by
 refine ⟨fun e=>?_,fun e=>?_,h.d1.2.1⟩
 ·have h1:Typ 3 w bt:=⟨_,h.told⟩
  rw [e] at h1
  exact absurd (h1.uniq ⟨_,h.good⟩) (by decide)
 ·have h1:Typ 3 w bn:=⟨_,h.nx⟩
  rw [e] at h1
  exact absurd (h1.uniq ⟨_,h.good⟩) (by decide)
theorem Tu.setTold (h:Tu enc W g t bt ba bw bg bn bs gr mw cw a vs A0 k x A w) (k':Nat) (z:Int) (hz:z=(k':Nat)):Tu enc W g t bt ba bw bg bn bs gr mw cw a vs A0 k' x A (w.setCell ⟨bt,0,none⟩ (.int .i64 z))∧Kps (tuO bt bg bn g t False) w (w.setCell ⟨bt,0,none⟩ (.int .i64 z)):=by
 subst hz
 obtain ⟨s1,s2⟩:=set1 h.told 0 (.int .i64 (k':Nat))
 have hk:Kps (fun j=>j=bt) w (w.setCell ⟨bt,0,none⟩ (.int .i64 (k':Nat))):=Kps.grown s2 (fun j e _=>(Option.some.inj e).symm)
 exact ⟨h.box (.inl rfl) hk s1 ((hk.same bg (Array.getElem?_eq_some_iff.1 h.good).1 (Ne.symm h.ne.1)).trans h.good) ((hk.same bn (Array.getElem?_eq_some_iff.1 h.nx).1 (Ne.symm h.ne.2.2)).trans h.nx),hk.mono fun i _ e=>.inl e⟩
theorem Tu.setGood (h:Tu enc W g t bt ba bw bg bn bs gr mw cw a vs A0 k x A w):Tu enc W g t bt ba bw bg bn bs gr mw cw a vs A0 k x A (w.setCell ⟨bg,0,none⟩ (.bool true))∧Kps (tuO bt bg bn g t False) w (w.setCell ⟨bg,0,none⟩ (.bool true)):=by
 obtain ⟨s1,s2⟩:=set1 h.good 0 (.bool true)
 have hk:Kps (fun j=>j=bg) w (w.setCell ⟨bg,0,none⟩ (.bool true)):=Kps.grown s2 (fun j e _=>(Option.some.inj e).symm)
 exact ⟨h.box (.inr (.inl rfl)) hk ((hk.same bt (Array.getElem?_eq_some_iff.1 h.told).1 h.ne.1).trans h.told) s1 ((hk.same bn (Array.getElem?_eq_some_iff.1 h.nx).1 h.ne.2.1).trans h.nx),hk.mono fun i _ e=>.inr (.inl e)⟩
end
theorem cell1 {w:World} {b:Nat} {T:TypeId} {v:Value} (h:w.heap[b]?=some (.cells #[v] T (0,0))):w.cell? ⟨b,0,none⟩=some v:=by rw [cell_of_row _ _ _ _ _ _ h];rfl
theorem fz1 {w:World} {b:Nat} {T:TypeId} {v:Value} (h:w.heap[b]?=some (.cells #[v] T (0,0))):w.frozen? ⟨b,0,none⟩=false:=by simp [World.frozen?,h]
def TuR (enc:Int) (W:World) (g t bt ba bw bg bn bs gr mw cw a:Nat) (vs:Value) (A0:List Int) (k:Nat) (A:List Int) (w w':World):Prop:=(∃ x' A',Tu enc W g t bt ba bw bg bn bs gr mw cw a vs A0 (k + 1) x' A' w'∧(k < a→A'=A))∧Kps (tuO bt bg bn g t (a≤k)) w w'
set_option maxHeartbeats 16000000 in
theorem lturn1_any {enc:Int} {W:World} {g t bt ba bw bg bn bs gr mw cw a:Nat} {vs:Value} {A0:List Int} {os:List Opv} (k x:Nat) (A:List Int) (w:World) (L:Ln) (h:Tu enc W g t bt ba bw bg bn bs gr mw cw a vs A0 k x A w) (hO:RdO W vs os) (hL:k≤a→L=lnK enc A0 (k:Nat)) (hka9:a < mw) (hk9:k≤900000) :
  Calls Tryz.prog 23 #[.int .i64 (k:Nat),lnV L,.pointer (some ⟨bt,0,none⟩),.pointer (some ⟨ba,0,none⟩),.pointer (some ⟨bw,0,none⟩),.pointer (some ⟨bg,0,none⟩),.pointer (some ⟨bn,0,none⟩),.pointer (some ⟨bs,0,none⟩),.pointer (some ⟨g,0,none⟩)] w fun e w'=>e=.returned (.bool true)∧Hid (TuR enc W g t bt ba bw bg bn bs gr mw cw a vs A0 k A w w'):=by
 obtain ⟨w0,hw0,hlx,hb0⟩:∃ w0,w0=w.alloc (.cells #[.int .i64 L.f,.int .i64 L.t,.int .i64 L.n,.int .i64 L.b] 50)∧w0.heap[w.heap.size]?=some (.cells #[.int .i64 L.f,.int .i64 L.t,.int .i64 L.n,.int .i64 L.b] 50 (0,0))∧Below w.heap.size w w0:=⟨_,rfl,heap_alloc_new _ _,zxa (Below.refl _ _) _⟩
 obtain ⟨_,x0,x1,x2,x3,_⟩:=cells4 hlx
 have HW0:=zh hw0
 have HB0:=zh hb0
 have T0:=zh (h.ext hb0)
 have HOS:=zh hO
 obtain ⟨ao,cap,hvs,ho1,ho2,hok,_⟩:=id hO
 subst hvs
 have HOK:=zh hok
 have HLL:=zh hL
 clear hw0 hb0 h hlx hO hok hL
 unfold lnV
 go_enter Tryz.func23,Tryz.ntmps23
 go_upto_region 1 with fail
 rw [← HW0.out]
 clear HW0
 have ct:=cell1 T0.out.told
 have ca:=cell1 T0.out.at'
 have cw':=cell1 T0.out.want
 by_cases hka:k≤a
 ·have hkai:(k:Int)≤(a:Int):=by omega
  obtain ⟨r0,r1,r2,r3⟩:=T0.out.row k hka
  rw [← HLL.out hka] at r0 r1 r2 r3
  have hkm:(k:Int) < (mw:Int):=by omega
  have hkm2:k < mw:=by omega
  have LI:=zh (line_any L)
  have HXL:Hid (w.heap.size < w0.heap.size∧w0.cell? ⟨w.heap.size,0,none⟩=some (.int .i64 L.f)∧w0.cell? ⟨w.heap.size,1,none⟩=some (.int .i64 L.t)∧w0.cell? ⟨w.heap.size,2,none⟩=some (.int .i64 L.n)∧w0.cell? ⟨w.heap.size,3,none⟩=some (.int .i64 L.b)∧gr < w0.heap.size∧w0.cell? ⟨gr,k * 4,none⟩=some (.int .i64 L.f)∧w0.cell? ⟨gr,k * 4 + 1,none⟩=some (.int .i64 L.t)∧w0.cell? ⟨gr,k * 4 + 2,none⟩=some (.int .i64 L.n)∧w0.cell? ⟨gr,k * 4 + 3,none⟩=some (.int .i64 L.b)):=⟨cellq_lt x0,x0,x1,x2,x3,cellq_lt r0,r0,r1,r2,r3⟩
  refine wp_region_held_drew (S:=fun w''=>w''.cell? ⟨bt,0,none⟩=some (.int .i64 (k:Nat))∧w''.cell? ⟨ba,0,none⟩=some (.int .i64 (a:Nat))∧w''.cell? ⟨bw,0,none⟩=some (.slice (some ⟨gr,0,none⟩) mw cw)∧w''.cell? ⟨w.heap.size,0,none⟩=some (.int .i64 L.f)∧w''.cell? ⟨w.heap.size,1,none⟩=some (.int .i64 L.t)∧w''.cell? ⟨w.heap.size,2,none⟩=some (.int .i64 L.n)∧w''.cell? ⟨w.heap.size,3,none⟩=some (.int .i64 L.b)∧w''.cell? ⟨gr,k * 4,none⟩=some (.int .i64 L.f)∧w''.cell? ⟨gr,k * 4 + 1,none⟩=some (.int .i64 L.t)∧w''.cell? ⟨gr,k * 4 + 2,none⟩=some (.int .i64 L.n)∧w''.cell? ⟨gr,k * 4 + 3,none⟩=some (.int .i64 L.b)) (by kernel_rfl) (⟨ct,ca,cw',x0,x1,x2,x3,r0,r1,r2,r3⟩) (fun _=>?_)
  refine tkH 0 rfl ?_
  refine tkH 1 rfl ?_
  refine tkH 2 rfl ?_
  refine tkH 3 rfl ?_
  refine tkH 4 rfl ?_
  refine tkH 5 rfl ?_
  refine tkH 6 rfl ?_
  refine tkH 7 rfl ?_
  refine tkH 8 rfl ?_
  refine tkH 9 rfl ?_
  refine tkH 10 rfl ?_
  refine tkH 11 rfl ?_
  refine tkH 12 rfl ?_
  refine rdH 13 rfl fun K hK=>?_
  go_simp
  refine (LI.out _).mono ?_;rintro e y1 ⟨rfl,hb⟩;have HB1:Hid (Below w0.heap.size w0 y1):=zxt (Below.drew (Below.refl _ _)) hb;clear hb;have T1:=zh (T0.out.ext HB1.out);clear ct ca cw' x0 x1 x2 x3 r0 r1 r2 r3;have ct:=cell1 T1.out.told;have ca:=cell1 T1.out.at';have cw':=cell1 T1.out.want;try dsimp only
  refine hK.out _ _ ?_ (fun _=>?_)
  ·exact ⟨ct,ca,cw',(HB1.out.cell (p:=⟨w.heap.size,0,none⟩) HXL.out.1).trans HXL.out.2.1,(HB1.out.cell (p:=⟨w.heap.size,1,none⟩) HXL.out.1).trans HXL.out.2.2.1,(HB1.out.cell (p:=⟨w.heap.size,2,none⟩) HXL.out.1).trans HXL.out.2.2.2.1,(HB1.out.cell (p:=⟨w.heap.size,3,none⟩) HXL.out.1).trans HXL.out.2.2.2.2.1,(HB1.out.cell (p:=⟨gr,k * 4,none⟩) HXL.out.2.2.2.2.2.1).trans HXL.out.2.2.2.2.2.2.1,(HB1.out.cell (p:=⟨gr,k * 4 + 1,none⟩) HXL.out.2.2.2.2.2.1).trans HXL.out.2.2.2.2.2.2.2.1,(HB1.out.cell (p:=⟨gr,k * 4 + 2,none⟩) HXL.out.2.2.2.2.2.1).trans HXL.out.2.2.2.2.2.2.2.2.1,(HB1.out.cell (p:=⟨gr,k * 4 + 3,none⟩) HXL.out.2.2.2.2.2.1).trans HXL.out.2.2.2.2.2.2.2.2.2⟩
  clear hK K
  try simp only [Act.put,tS]
  refine tkH 14 rfl ?_
  refine tkH 15 rfl ?_
  refine tkH 16 rfl ?_
  refine dnH ?_
  clear LI HXL
  clear T0
  have ct:=cell1 T1.out.told
  have ca:=cell1 T1.out.at'
  have cg:=cell1 T1.out.good
  have fg:=fz1 T1.out.good
  have cn:=cell1 T1.out.nx
  have cs:=cell1 T1.out.sc
  have hx12:=T1.out.xs
  by_cases hed:a≤k∧x < os.length∧x < 12
  ·have he1:(a:Int)≤(k:Int):=by omega
   have he2:(x:Int) < (os.length:Int):=by omega
   have he3:(x:Int) < 12:=by omega
   have he4:x < os.length:=hed.2.1
   have hek:a≤k:=hed.1
   obtain ⟨o,ho⟩:∃ o,os[x]?=some o:=⟨_,List.getElem?_eq_getElem hed.2.1⟩
   obtain ⟨ao',cap',hv',_,_,_,h6⟩:=HOS.out.ext T1.out.bl
   cases hv'
   obtain ⟨pb,po,ea,hpb,hcs⟩:=h6 (by intro e;rw [e] at he4;simp at he4)
   subst ea
   obtain ⟨c0,c1,c2,c3,pv,c4,hpv⟩:=hcs x o ho
   obtain ⟨ap,cp,rfl,_⟩:=id hpv
   have hoo:=HOK.out o (List.mem_of_getElem? ho)
   have HPV:=zh hpv
   clear hcs h6 ho hpv hed
   go_upto_region 5 with fail
   generalize hy2:World.alloc _ _=y2
   have HB2:Hid (Below y1.heap.size y1 y2∧y2.heap[y1.heap.size]?=some (.cells #[.int .i64 o.who,.int .i64 o.k,.int .i64 o.a,.int .i64 o.b,.slice ap o.put.length cp] 38 (0,0))):=by
    unfold Hid
    rw [← hy2]
    first
     | exact ⟨zxa (Below.refl _ _) _,heap_alloc_new _ _⟩
     | exact ⟨zxa (Below.drew (Below.refl _ _)) _,heap_alloc_new _ _⟩
   clear hy2 c0 c1 c2 c3 c4 ct ca cg fg cn cs
   obtain ⟨_,_,_,c2,c3,c4⟩:=cells5 HB2.out.2
   have T2:=zh (T1.out.ext HB2.out.1)
   have cg:=cell1 T2.out.good
   have ED:=zh (edited_new enc y2 g t A x o.a o.b (.slice ap o.put.length cp) o.put T2.out.b (by omega) hoo.a hoo.b (HPV.out.ext HB2.out.1))
   have HST:Hid (∀ y3 A' v',BtW enc y3 g t A' (x + 1)→y3.heap[g]?=some (.cells #[.pointer (some ⟨t,0,none⟩),v'] 29 (0,0))→OwnI y3 y2.heap.size v' A'→Kps (fun j=>j=g∨j=t) y2 y3→y3.heap[bt]?=some (.cells #[.int .i64 (k:Nat)] 3 (0,0))∧y3.heap[bg]?=some (.cells #[.bool true] 4 (0,0))∧y3.heap[bn]?=some (.cells #[.int .i64 (x:Nat)] 3 (0,0))∧∀ z,z=y3.setCell ⟨bg,0,none⟩ (.bool true)→z.cell? ⟨bn,0,none⟩=some (.int .i64 (x:Nat))∧z.frozen? ⟨bn,0,none⟩=false∧∀ y4 (xv:Int),xv=((x + 1:Nat):Int)→y4=z.setCell ⟨bn,0,none⟩ (.int .i64 xv)→Tu enc W g t bt ba bw bg bn bs gr mw cw a (.slice (some ⟨pb,po,none⟩) os.length cap) A0 k (x + 1) A' y4∧Kps (tuO bt bg bn g t (a≤k)) y2 y4):=fun y3 A' v' hB hg hO hk=>by
    have T:=T2.out
    have ni:∀ q,(Typ 3 y2 q∨Typ 4 y2 q)→¬ (q=g∨q=t):=fun q hq e=>by
     rcases e with e | e
     ·subst e;rcases hq with hq | hq
      ·exact absurd (hq.uniq T.b.typ) (by decide)
      ·exact absurd (hq.uniq T.b.typ) (by decide)
     ·subst e;rcases hq with hq | hq
      ·exact absurd (hq.uniq T.b.tz.typ) (by decide)
      ·exact absurd (hq.uniq T.b.tz.typ) (by decide)
    have h1:=(hk.same bt (Array.getElem?_eq_some_iff.1 T.told).1 (ni bt (.inl ⟨_,T.told⟩))).trans T.told
    have h2:=(hk.same bg (Array.getElem?_eq_some_iff.1 T.good).1 (ni bg (.inr ⟨_,T.good⟩))).trans T.good
    have h3:=(hk.same bn (Array.getElem?_eq_some_iff.1 T.nx).1 (ni bn (.inl ⟨_,T.nx⟩))).trans T.nx
    refine ⟨h1,h2,h3,fun z hz=>?_⟩
    obtain ⟨s1,s2⟩:=set1 h2 0 (.bool true)
    rw [← hz] at s1 s2
    have kz:Kps (fun j=>j=bg) y3 z:=Kps.grown s2 (fun j e _=>(Option.some.inj e).symm)
    obtain ⟨n1,n2,n3⟩:=T.ne
    have z3:=(kz.same bn (Array.getElem?_eq_some_iff.1 h3).1 n2).trans h3
    have z1:=(kz.same bt (Array.getElem?_eq_some_iff.1 h1).1 n1).trans h1
    refine ⟨cell1 z3,fz1 z3,fun y4 xv hxv hy4=>?_⟩
    subst hxv
    obtain ⟨s3,s4⟩:=set1 z3 0 (.int .i64 ((x + 1:Nat):Int))
    rw [← hy4] at s3 s4
    have ky:Kps (fun j=>j=bn) z y4:=Kps.grown s4 (fun j e _=>(Option.some.inj e).symm)
    have k3:Kps (fun j=>j=bg∨j=bn) y3 y4:=(kz.mono (p:=fun j=>j=bg∨j=bn) (fun _ _ e=>.inl e)).trans ky (fun _ _ e=>.inr e)
    have kk:Kps (tuO bt bg bn g t (a≤k)) y2 y4:=(hk.mono (p:=tuO bt bg bn g t (a≤k)) (fun j _ e=>.inr (.inr (.inr ⟨hek,e⟩)))).trans k3 (fun j _ e=>by rcases e with e | e;exact .inr (.inl e);exact .inr (.inr (.inl e)))
    have nt:∀ {Y:TypeId} {p:Nat},Typ Y y3 p→Y≠3→Y≠4→¬ (p=bg∨p=bn):=fun {Y p} hp m1 m2 e=>by
     rcases e with e | e
     ·subst e;exact m2 (hp.uniq ⟨_,h2⟩)
     ·subst e;exact m1 (hp.uniq ⟨_,h3⟩)
    have hz4:Tz enc y4 t A':=hB.tz.kps k3 (fun j e=>⟨fun p=>nt p (by decide) (by decide) e,fun p=>nt p (by decide) (by decide) e⟩) (nt hB.tz.typ (by decide) (by decide))
    have hg4:=(k3.same g hB.lt (nt hB.typ (by decide) (by decide))).trans hg
    have hfr:∀ q,v'.ownBlock=some q→y2.heap.size≤q:=fun q e=>(World.ownsRow.lt hO q e).1
    have hbt:=(Array.getElem?_eq_some_iff.1 T.told).1
    have hbn:=(Array.getElem?_eq_some_iff.1 T.nx).1
    have ho4:OwnI y4 0 v' A':=by
     obtain ⟨y1',y2'⟩:=hO.le (Nat.zero_le _)
     refine ⟨y1',?_⟩
     rcases y2' with y2' | ⟨j,cap,cur,hvj,hb,hgg,r⟩
     ·exact .inl y2'
     ·refine .inr ⟨j,cap,cur,hvj,hb,(k3.same j (Array.getElem?_eq_some_iff.1 hgg).1 (fun e=>?_)).trans hgg,r⟩
      have hj:Typ 3 y3 j:=⟨_,hgg⟩
      rcases e with e | e
      ·subst e;exact absurd (hj.uniq ⟨_,h2⟩) (by decide)
      ·subst e;have:=hfr j (by rw [hvj];rfl);omega
    have hl4:∀ q,v'.ownBlock=some q→q≠bt∧q≠bn:=fun q e=>by have:=hfr q e;exact ⟨by omega,by omega⟩
    exact ⟨T.turn kk ((ky.same bt (Array.getElem?_eq_some_iff.1 z1).1 n3).trans z1) ((ky.same bg (Array.getElem?_eq_some_iff.1 s1).1 (Ne.symm n2)).trans s1) s3 ⟨⟨v',hg4,ho4⟩,hz4,hB.bd,hB.en⟩ ⟨v',hg4,ho4,hl4⟩ (by omega),kk⟩
   go_upto_region 6 with (go_at_call 25;refine ED.out.mono ?_;rintro e y3 ⟨rfl,he,hk3⟩;have HE3:=zh he.out;have HK3:=zh hk3;clear he hk3;obtain ⟨A',v',hB3,hg3,hO3⟩:=HE3.out;have H3:=zh (HST.out y3 A' v' hB3 hg3 hO3 HK3.out);clear cg c2 c3 c4 hB3 hg3 hO3;have cg:=cell1 H3.out.2.1;have fg:=fz1 H3.out.2.1;(try dsimp only))
   generalize hz3:World.setCell y3 _ _=z3
   obtain ⟨cn,fn,_⟩:=H3.out.2.2.2 z3 hz3.symm
   have H4:=zh (H3.out.2.2.2 z3 hz3.symm).2.2
   clear HST ED HE3 HK3 H3 hz3 cg fg hoo HPV
   go_upto_region 7 with fail
   generalize hy4:World.setCell z3 _ _=y4
   have H5:=zh (H4.out y4 _ (by omega) hy4.symm)
   have T4:=zh H5.out.1
   have K4:=zh (((Kps.of_below (tuO bt bg bn g t (a≤k)) (zxt HB0.out (zxt HB1.out HB2.out.1))).trans H5.out.2 (fun _ _ e=>e)))
   clear H4 H5 hy4 cn fn
   have ct:=cell1 T4.out.told
   have ft:=fz1 T4.out.told
   go_upto_region 8 with fail
   generalize hy8:World.setCell y4 _ _=y8
   have T8:Hid (Tu enc W g t bt ba bw bg bn bs gr mw cw a (.slice (some ⟨pb,po,none⟩) os.length cap) A0 (k + 1) (x + 1) A' y8∧Kps (tuO bt bg bn g t False) y4 y8):=by unfold Hid;rw [← hy8];exact T4.out.setTold (k + 1) _ (by omega)
   clear hy8 ct ft
   have hk10:(k:Int) + 1≤1000000:=by omega
   have ct:=cell1 T8.out.1.told
   have cg:=cell1 T8.out.1.good
   have fg:=fz1 T8.out.1.good
   go_upto_region 9 with fail
   generalize hy9:World.setCell y8 _ _=y9
   have T9:Hid (Tu enc W g t bt ba bw bg bn bs gr mw cw a (.slice (some ⟨pb,po,none⟩) os.length cap) A0 (k + 1) (x + 1) A' y9∧Kps (tuO bt bg bn g t False) y8 y9):=by unfold Hid;rw [← hy9];exact T8.out.1.setGood
   clear hy9 ct cg fg
   have cg:=cell1 T9.out.1.good
   go_wp2_with fail
   go_ret
   refine ⟨rfl,⟨(x + 1),A',T9.out.1,fun e=>absurd hek (by omega)⟩,?_⟩
   have wk:∀ j,tuO bt bg bn g t False j→tuO bt bg bn g t (a≤k) j:=fun j e=>by
    rcases e with e | e | e | ⟨e,_⟩
    ·exact .inl e
    ·exact .inr (.inl e)
    ·exact .inr (.inr (.inl e))
    ·exact e.elim
   exact (K4.out).trans (T8.out.2.trans T9.out.2 (fun _ _ e=>e)) (fun j _ e=>wk j e)
  ·have hed2:(a:Int)≤(k:Int)→(x:Int) < (os.length:Int)→¬ ((x:Int) < 12):=by
    intro h1 h2 h3
    exact hed ⟨by omega,by omega,by omega⟩
   have K1:=zh (Kps.of_below (tuO bt bg bn g t (a≤k)) (zxt HB0.out HB1.out))
   clear hed
   by_cases q1:(a:Int)≤(k:Int)
   ·by_cases q2:(x:Int) < (os.length:Int)
    ·have q3:=hed2 q1 q2
     clear hed2
     go_upto_region 7 with fail
     clear ct ca cn cs cg fg
     have ct:=cell1 T1.out.told
     have ft:=fz1 T1.out.told
     go_upto_region 8 with fail
     generalize hy8:World.setCell y1 _ _=y8
     have T8:Hid (Tu enc W g t bt ba bw bg bn bs gr mw cw a (.slice ao os.length cap) A0 (k + 1) x A y8∧Kps (tuO bt bg bn g t False) y1 y8):=by unfold Hid;rw [← hy8];exact T1.out.setTold (k + 1) _ (by omega)
     clear hy8 ct ft
     have hk10:(k:Int) + 1≤1000000:=by omega
     have ct:=cell1 T8.out.1.told
     have cg:=cell1 T8.out.1.good
     have fg:=fz1 T8.out.1.good
     go_upto_region 9 with fail
     generalize hy9:World.setCell y8 _ _=y9
     have T9:Hid (Tu enc W g t bt ba bw bg bn bs gr mw cw a (.slice ao os.length cap) A0 (k + 1) x A y9∧Kps (tuO bt bg bn g t False) y8 y9):=by unfold Hid;rw [← hy9];exact T8.out.1.setGood
     clear hy9 ct cg fg
     have cg:=cell1 T9.out.1.good
     go_wp2_with fail
     go_ret
     refine ⟨rfl,⟨x,A,T9.out.1,fun _=>rfl⟩,?_⟩
     have wk:∀ j,tuO bt bg bn g t False j→tuO bt bg bn g t (a≤k) j:=fun j e=>by
      rcases e with e | e | e | ⟨e,_⟩
      ·exact .inl e
      ·exact .inr (.inl e)
      ·exact .inr (.inr (.inl e))
      ·exact e.elim
     exact (K1.out).trans (T8.out.2.trans T9.out.2 (fun _ _ e=>e)) (fun j _ e=>wk j e)
    ·clear hed2
     go_upto_region 7 with fail
     clear ct ca cn cs cg fg
     have ct:=cell1 T1.out.told
     have ft:=fz1 T1.out.told
     go_upto_region 8 with fail
     generalize hy8:World.setCell y1 _ _=y8
     have T8:Hid (Tu enc W g t bt ba bw bg bn bs gr mw cw a (.slice ao os.length cap) A0 (k + 1) x A y8∧Kps (tuO bt bg bn g t False) y1 y8):=by unfold Hid;rw [← hy8];exact T1.out.setTold (k + 1) _ (by omega)
     clear hy8 ct ft
     have hk10:(k:Int) + 1≤1000000:=by omega
     have ct:=cell1 T8.out.1.told
     have cg:=cell1 T8.out.1.good
     have fg:=fz1 T8.out.1.good
     go_upto_region 9 with fail
     generalize hy9:World.setCell y8 _ _=y9
     have T9:Hid (Tu enc W g t bt ba bw bg bn bs gr mw cw a (.slice ao os.length cap) A0 (k + 1) x A y9∧Kps (tuO bt bg bn g t False) y8 y9):=by unfold Hid;rw [← hy9];exact T8.out.1.setGood
     clear hy9 ct cg fg
     have cg:=cell1 T9.out.1.good
     go_wp2_with fail
     go_ret
     refine ⟨rfl,⟨x,A,T9.out.1,fun _=>rfl⟩,?_⟩
     have wk:∀ j,tuO bt bg bn g t False j→tuO bt bg bn g t (a≤k) j:=fun j e=>by
      rcases e with e | e | e | ⟨e,_⟩
      ·exact .inl e
      ·exact .inr (.inl e)
      ·exact .inr (.inr (.inl e))
      ·exact e.elim
     exact (K1.out).trans (T8.out.2.trans T9.out.2 (fun _ _ e=>e)) (fun j _ e=>wk j e)
   ·clear hed2
    go_upto_region 7 with fail
    clear ct ca cn cs cg fg
    have ct:=cell1 T1.out.told
    have ft:=fz1 T1.out.told
    go_upto_region 8 with fail
    generalize hy8:World.setCell y1 _ _=y8
    have T8:Hid (Tu enc W g t bt ba bw bg bn bs gr mw cw a (.slice ao os.length cap) A0 (k + 1) x A y8∧Kps (tuO bt bg bn g t False) y1 y8):=by unfold Hid;rw [← hy8];exact T1.out.setTold (k + 1) _ (by omega)
    clear hy8 ct ft
    have hk10:(k:Int) + 1≤1000000:=by omega
    have ct:=cell1 T8.out.1.told
    have cg:=cell1 T8.out.1.good
    have fg:=fz1 T8.out.1.good
    go_upto_region 9 with fail
    generalize hy9:World.setCell y8 _ _=y9
    have T9:Hid (Tu enc W g t bt ba bw bg bn bs gr mw cw a (.slice ao os.length cap) A0 (k + 1) x A y9∧Kps (tuO bt bg bn g t False) y8 y9):=by unfold Hid;rw [← hy9];exact T8.out.1.setGood
    clear hy9 ct cg fg
    have cg:=cell1 T9.out.1.good
    go_wp2_with fail
    go_ret
    refine ⟨rfl,⟨x,A,T9.out.1,fun _=>rfl⟩,?_⟩
    have wk:∀ j,tuO bt bg bn g t False j→tuO bt bg bn g t (a≤k) j:=fun j e=>by
     rcases e with e | e | e | ⟨e,_⟩
     ·exact .inl e
     ·exact .inr (.inl e)
     ·exact .inr (.inr (.inl e))
     ·exact e.elim
    exact (K1.out).trans (T8.out.2.trans T9.out.2 (fun _ _ e=>e)) (fun j _ e=>wk j e)
 ·have hkai:¬ ((k:Int)≤(a:Int)):=by omega
  refine wp_region_held_drew (S:=fun w''=>w''.cell? ⟨bt,0,none⟩=some (.int .i64 (k:Nat))∧w''.cell? ⟨ba,0,none⟩=some (.int .i64 (a:Nat))) (by kernel_rfl) (⟨ct,ca⟩) (fun _=>?_)
  refine tkH 0 rfl ?_
  refine tkH 1 rfl ?_
  refine tkH 2 rfl ?_
  refine tkH 3 rfl ?_
  refine tuH 4 rfl ?_
  refine tuH 5 rfl ?_
  refine tuH 6 rfl ?_
  refine tuH 7 rfl ?_
  refine tuH 8 rfl ?_
  refine tuH 9 rfl ?_
  refine tuH 10 rfl ?_
  refine tuH 11 rfl ?_
  refine tuH 12 rfl ?_
  refine tuH 13 rfl ?_
  refine tuH 14 rfl ?_
  refine tuH 15 rfl ?_
  refine tkH 16 rfl ?_
  refine dnH ?_
  obtain ⟨y1,hy1⟩:∃ y1,y1=w0.drew:=⟨_,rfl⟩
  have HB1:Hid (Below w0.heap.size w0 y1):=by unfold Hid;rw [hy1];exact Below.drew (Below.refl _ _)
  rw [← hy1]
  clear hy1 ct ca cw' x0 x1 x2 x3
  have T1:=zh (T0.out.ext HB1.out)
  clear T0
  have ct:=cell1 T1.out.told
  have ca:=cell1 T1.out.at'
  have cg:=cell1 T1.out.good
  have fg:=fz1 T1.out.good
  have cn:=cell1 T1.out.nx
  have cs:=cell1 T1.out.sc
  have hx12:=T1.out.xs
  by_cases hed:a≤k∧x < os.length∧x < 12
  ·have he1:(a:Int)≤(k:Int):=by omega
   have he2:(x:Int) < (os.length:Int):=by omega
   have he3:(x:Int) < 12:=by omega
   have he4:x < os.length:=hed.2.1
   have hek:a≤k:=hed.1
   obtain ⟨o,ho⟩:∃ o,os[x]?=some o:=⟨_,List.getElem?_eq_getElem hed.2.1⟩
   obtain ⟨ao',cap',hv',_,_,_,h6⟩:=HOS.out.ext T1.out.bl
   cases hv'
   obtain ⟨pb,po,ea,hpb,hcs⟩:=h6 (by intro e;rw [e] at he4;simp at he4)
   subst ea
   obtain ⟨c0,c1,c2,c3,pv,c4,hpv⟩:=hcs x o ho
   obtain ⟨ap,cp,rfl,_⟩:=id hpv
   have hoo:=HOK.out o (List.mem_of_getElem? ho)
   have HPV:=zh hpv
   clear hcs h6 ho hpv hed
   go_upto_region 5 with fail
   generalize hy2:World.alloc _ _=y2
   have HB2:Hid (Below y1.heap.size y1 y2∧y2.heap[y1.heap.size]?=some (.cells #[.int .i64 o.who,.int .i64 o.k,.int .i64 o.a,.int .i64 o.b,.slice ap o.put.length cp] 38 (0,0))):=by
    unfold Hid
    rw [← hy2]
    first
     | exact ⟨zxa (Below.refl _ _) _,heap_alloc_new _ _⟩
     | exact ⟨zxa (Below.drew (Below.refl _ _)) _,heap_alloc_new _ _⟩
   clear hy2 c0 c1 c2 c3 c4 ct ca cg fg cn cs
   obtain ⟨_,_,_,c2,c3,c4⟩:=cells5 HB2.out.2
   have T2:=zh (T1.out.ext HB2.out.1)
   have cg:=cell1 T2.out.good
   have ED:=zh (edited_new enc y2 g t A x o.a o.b (.slice ap o.put.length cp) o.put T2.out.b (by omega) hoo.a hoo.b (HPV.out.ext HB2.out.1))
   have HST:Hid (∀ y3 A' v',BtW enc y3 g t A' (x + 1)→y3.heap[g]?=some (.cells #[.pointer (some ⟨t,0,none⟩),v'] 29 (0,0))→OwnI y3 y2.heap.size v' A'→Kps (fun j=>j=g∨j=t) y2 y3→y3.heap[bt]?=some (.cells #[.int .i64 (k:Nat)] 3 (0,0))∧y3.heap[bg]?=some (.cells #[.bool true] 4 (0,0))∧y3.heap[bn]?=some (.cells #[.int .i64 (x:Nat)] 3 (0,0))∧∀ z,z=y3.setCell ⟨bg,0,none⟩ (.bool true)→z.cell? ⟨bn,0,none⟩=some (.int .i64 (x:Nat))∧z.frozen? ⟨bn,0,none⟩=false∧∀ y4 (xv:Int),xv=((x + 1:Nat):Int)→y4=z.setCell ⟨bn,0,none⟩ (.int .i64 xv)→Tu enc W g t bt ba bw bg bn bs gr mw cw a (.slice (some ⟨pb,po,none⟩) os.length cap) A0 k (x + 1) A' y4∧Kps (tuO bt bg bn g t (a≤k)) y2 y4):=fun y3 A' v' hB hg hO hk=>by
    have T:=T2.out
    have ni:∀ q,(Typ 3 y2 q∨Typ 4 y2 q)→¬ (q=g∨q=t):=fun q hq e=>by
     rcases e with e | e
     ·subst e;rcases hq with hq | hq
      ·exact absurd (hq.uniq T.b.typ) (by decide)
      ·exact absurd (hq.uniq T.b.typ) (by decide)
     ·subst e;rcases hq with hq | hq
      ·exact absurd (hq.uniq T.b.tz.typ) (by decide)
      ·exact absurd (hq.uniq T.b.tz.typ) (by decide)
    have h1:=(hk.same bt (Array.getElem?_eq_some_iff.1 T.told).1 (ni bt (.inl ⟨_,T.told⟩))).trans T.told
    have h2:=(hk.same bg (Array.getElem?_eq_some_iff.1 T.good).1 (ni bg (.inr ⟨_,T.good⟩))).trans T.good
    have h3:=(hk.same bn (Array.getElem?_eq_some_iff.1 T.nx).1 (ni bn (.inl ⟨_,T.nx⟩))).trans T.nx
    refine ⟨h1,h2,h3,fun z hz=>?_⟩
    obtain ⟨s1,s2⟩:=set1 h2 0 (.bool true)
    rw [← hz] at s1 s2
    have kz:Kps (fun j=>j=bg) y3 z:=Kps.grown s2 (fun j e _=>(Option.some.inj e).symm)
    obtain ⟨n1,n2,n3⟩:=T.ne
    have z3:=(kz.same bn (Array.getElem?_eq_some_iff.1 h3).1 n2).trans h3
    have z1:=(kz.same bt (Array.getElem?_eq_some_iff.1 h1).1 n1).trans h1
    refine ⟨cell1 z3,fz1 z3,fun y4 xv hxv hy4=>?_⟩
    subst hxv
    obtain ⟨s3,s4⟩:=set1 z3 0 (.int .i64 ((x + 1:Nat):Int))
    rw [← hy4] at s3 s4
    have ky:Kps (fun j=>j=bn) z y4:=Kps.grown s4 (fun j e _=>(Option.some.inj e).symm)
    have k3:Kps (fun j=>j=bg∨j=bn) y3 y4:=(kz.mono (p:=fun j=>j=bg∨j=bn) (fun _ _ e=>.inl e)).trans ky (fun _ _ e=>.inr e)
    have kk:Kps (tuO bt bg bn g t (a≤k)) y2 y4:=(hk.mono (p:=tuO bt bg bn g t (a≤k)) (fun j _ e=>.inr (.inr (.inr ⟨hek,e⟩)))).trans k3 (fun j _ e=>by rcases e with e | e;exact .inr (.inl e);exact .inr (.inr (.inl e)))
    have nt:∀ {Y:TypeId} {p:Nat},Typ Y y3 p→Y≠3→Y≠4→¬ (p=bg∨p=bn):=fun {Y p} hp m1 m2 e=>by
     rcases e with e | e
     ·subst e;exact m2 (hp.uniq ⟨_,h2⟩)
     ·subst e;exact m1 (hp.uniq ⟨_,h3⟩)
    have hz4:Tz enc y4 t A':=hB.tz.kps k3 (fun j e=>⟨fun p=>nt p (by decide) (by decide) e,fun p=>nt p (by decide) (by decide) e⟩) (nt hB.tz.typ (by decide) (by decide))
    have hg4:=(k3.same g hB.lt (nt hB.typ (by decide) (by decide))).trans hg
    have hfr:∀ q,v'.ownBlock=some q→y2.heap.size≤q:=fun q e=>(World.ownsRow.lt hO q e).1
    have hbt:=(Array.getElem?_eq_some_iff.1 T.told).1
    have hbn:=(Array.getElem?_eq_some_iff.1 T.nx).1
    have ho4:OwnI y4 0 v' A':=by
     obtain ⟨y1',y2'⟩:=hO.le (Nat.zero_le _)
     refine ⟨y1',?_⟩
     rcases y2' with y2' | ⟨j,cap,cur,hvj,hb,hgg,r⟩
     ·exact .inl y2'
     ·refine .inr ⟨j,cap,cur,hvj,hb,(k3.same j (Array.getElem?_eq_some_iff.1 hgg).1 (fun e=>?_)).trans hgg,r⟩
      have hj:Typ 3 y3 j:=⟨_,hgg⟩
      rcases e with e | e
      ·subst e;exact absurd (hj.uniq ⟨_,h2⟩) (by decide)
      ·subst e;have:=hfr j (by rw [hvj];rfl);omega
    have hl4:∀ q,v'.ownBlock=some q→q≠bt∧q≠bn:=fun q e=>by have:=hfr q e;exact ⟨by omega,by omega⟩
    exact ⟨T.turn kk ((ky.same bt (Array.getElem?_eq_some_iff.1 z1).1 n3).trans z1) ((ky.same bg (Array.getElem?_eq_some_iff.1 s1).1 (Ne.symm n2)).trans s1) s3 ⟨⟨v',hg4,ho4⟩,hz4,hB.bd,hB.en⟩ ⟨v',hg4,ho4,hl4⟩ (by omega),kk⟩
   go_upto_region 6 with (go_at_call 25;refine ED.out.mono ?_;rintro e y3 ⟨rfl,he,hk3⟩;have HE3:=zh he.out;have HK3:=zh hk3;clear he hk3;obtain ⟨A',v',hB3,hg3,hO3⟩:=HE3.out;have H3:=zh (HST.out y3 A' v' hB3 hg3 hO3 HK3.out);clear cg c2 c3 c4 hB3 hg3 hO3;have cg:=cell1 H3.out.2.1;have fg:=fz1 H3.out.2.1;(try dsimp only))
   generalize hz3:World.setCell y3 _ _=z3
   obtain ⟨cn,fn,_⟩:=H3.out.2.2.2 z3 hz3.symm
   have H4:=zh (H3.out.2.2.2 z3 hz3.symm).2.2
   clear HST ED HE3 HK3 H3 hz3 cg fg hoo HPV
   go_upto_region 7 with fail
   generalize hy4:World.setCell z3 _ _=y4
   have H5:=zh (H4.out y4 _ (by omega) hy4.symm)
   have T4:=zh H5.out.1
   have K4:=zh (((Kps.of_below (tuO bt bg bn g t (a≤k)) (zxt HB0.out (zxt HB1.out HB2.out.1))).trans H5.out.2 (fun _ _ e=>e)))
   clear H4 H5 hy4 cn fn
   have ct:=cell1 T4.out.told
   have ft:=fz1 T4.out.told
   go_upto_region 8 with fail
   generalize hy8:World.setCell y4 _ _=y8
   have T8:Hid (Tu enc W g t bt ba bw bg bn bs gr mw cw a (.slice (some ⟨pb,po,none⟩) os.length cap) A0 (k + 1) (x + 1) A' y8∧Kps (tuO bt bg bn g t False) y4 y8):=by unfold Hid;rw [← hy8];exact T4.out.setTold (k + 1) _ (by omega)
   clear hy8 ct ft
   have hk10:(k:Int) + 1≤1000000:=by omega
   have ct:=cell1 T8.out.1.told
   have cg:=cell1 T8.out.1.good
   have fg:=fz1 T8.out.1.good
   go_upto_region 9 with fail
   generalize hy9:World.setCell y8 _ _=y9
   have T9:Hid (Tu enc W g t bt ba bw bg bn bs gr mw cw a (.slice (some ⟨pb,po,none⟩) os.length cap) A0 (k + 1) (x + 1) A' y9∧Kps (tuO bt bg bn g t False) y8 y9):=by unfold Hid;rw [← hy9];exact T8.out.1.setGood
   clear hy9 ct cg fg
   have cg:=cell1 T9.out.1.good
   go_wp2_with fail
   go_ret
   refine ⟨rfl,⟨(x + 1),A',T9.out.1,fun e=>absurd hek (by omega)⟩,?_⟩
   have wk:∀ j,tuO bt bg bn g t False j→tuO bt bg bn g t (a≤k) j:=fun j e=>by
    rcases e with e | e | e | ⟨e,_⟩
    ·exact .inl e
    ·exact .inr (.inl e)
    ·exact .inr (.inr (.inl e))
    ·exact e.elim
   exact (K4.out).trans (T8.out.2.trans T9.out.2 (fun _ _ e=>e)) (fun j _ e=>wk j e)
  ·have hed2:(a:Int)≤(k:Int)→(x:Int) < (os.length:Int)→¬ ((x:Int) < 12):=by
    intro h1 h2 h3
    exact hed ⟨by omega,by omega,by omega⟩
   have K1:=zh (Kps.of_below (tuO bt bg bn g t (a≤k)) (zxt HB0.out HB1.out))
   clear hed
   by_cases q1:(a:Int)≤(k:Int)
   ·by_cases q2:(x:Int) < (os.length:Int)
    ·have q3:=hed2 q1 q2
     clear hed2
     go_upto_region 7 with fail
     clear ct ca cn cs cg fg
     have ct:=cell1 T1.out.told
     have ft:=fz1 T1.out.told
     go_upto_region 8 with fail
     generalize hy8:World.setCell y1 _ _=y8
     have T8:Hid (Tu enc W g t bt ba bw bg bn bs gr mw cw a (.slice ao os.length cap) A0 (k + 1) x A y8∧Kps (tuO bt bg bn g t False) y1 y8):=by unfold Hid;rw [← hy8];exact T1.out.setTold (k + 1) _ (by omega)
     clear hy8 ct ft
     have hk10:(k:Int) + 1≤1000000:=by omega
     have ct:=cell1 T8.out.1.told
     have cg:=cell1 T8.out.1.good
     have fg:=fz1 T8.out.1.good
     go_upto_region 9 with fail
     generalize hy9:World.setCell y8 _ _=y9
     have T9:Hid (Tu enc W g t bt ba bw bg bn bs gr mw cw a (.slice ao os.length cap) A0 (k + 1) x A y9∧Kps (tuO bt bg bn g t False) y8 y9):=by unfold Hid;rw [← hy9];exact T8.out.1.setGood
     clear hy9 ct cg fg
     have cg:=cell1 T9.out.1.good
     go_wp2_with fail
     go_ret
     refine ⟨rfl,⟨x,A,T9.out.1,fun _=>rfl⟩,?_⟩
     have wk:∀ j,tuO bt bg bn g t False j→tuO bt bg bn g t (a≤k) j:=fun j e=>by
      rcases e with e | e | e | ⟨e,_⟩
      ·exact .inl e
      ·exact .inr (.inl e)
      ·exact .inr (.inr (.inl e))
      ·exact e.elim
     exact (K1.out).trans (T8.out.2.trans T9.out.2 (fun _ _ e=>e)) (fun j _ e=>wk j e)
    ·clear hed2
     go_upto_region 7 with fail
     clear ct ca cn cs cg fg
     have ct:=cell1 T1.out.told
     have ft:=fz1 T1.out.told
     go_upto_region 8 with fail
     generalize hy8:World.setCell y1 _ _=y8
     have T8:Hid (Tu enc W g t bt ba bw bg bn bs gr mw cw a (.slice ao os.length cap) A0 (k + 1) x A y8∧Kps (tuO bt bg bn g t False) y1 y8):=by unfold Hid;rw [← hy8];exact T1.out.setTold (k + 1) _ (by omega)
     clear hy8 ct ft
     have hk10:(k:Int) + 1≤1000000:=by omega
     have ct:=cell1 T8.out.1.told
     have cg:=cell1 T8.out.1.good
     have fg:=fz1 T8.out.1.good
     go_upto_region 9 with fail
     generalize hy9:World.setCell y8 _ _=y9
     have T9:Hid (Tu enc W g t bt ba bw bg bn bs gr mw cw a (.slice ao os.length cap) A0 (k + 1) x A y9∧Kps (tuO bt bg bn g t False) y8 y9):=by unfold Hid;rw [← hy9];exact T8.out.1.setGood
     clear hy9 ct cg fg
     have cg:=cell1 T9.out.1.good
     go_wp2_with fail
     go_ret
     refine ⟨rfl,⟨x,A,T9.out.1,fun _=>rfl⟩,?_⟩
     have wk:∀ j,tuO bt bg bn g t False j→tuO bt bg bn g t (a≤k) j:=fun j e=>by
      rcases e with e | e | e | ⟨e,_⟩
      ·exact .inl e
      ·exact .inr (.inl e)
      ·exact .inr (.inr (.inl e))
      ·exact e.elim
     exact (K1.out).trans (T8.out.2.trans T9.out.2 (fun _ _ e=>e)) (fun j _ e=>wk j e)
   ·exact absurd q1 (by omega)
end Go.Proofs.YtgfdfajblidleaaGreat.P
