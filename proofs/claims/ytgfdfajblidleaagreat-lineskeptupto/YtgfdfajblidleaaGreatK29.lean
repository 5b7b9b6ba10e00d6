import Derived.Test.YtgfdfajblidleaaGreatK28
import Derived.Test.YtgfdfajblidleaaGreatK27
set_option maxRecDepth 100000
namespace Go.Proofs.YtgfdfajblidleaaGreat.P
open Go.RowKit
structure Sm (enc:Int) (W:World) (bo t:Nat) (v:Value) (w:World) (A:List Int):Prop where
 bx:w.heap[bo]?=some (.cells #[.pointer (some ⟨t,0,none⟩),v] 29 (0,0))
 tz:Tz enc w t A
 bl:Below W.heap.size W w
 b1:W.heap.size≤bo
 b2:W.heap.size≤t
theorem cnt_pos (enc:Int) (A:List Int):¬ cnt enc A < 1:=by
 have:=spn_nn enc A
 rw [cnt_tail]
 split <;> omega
structure Sl (enc:Int) (W:World) (bo t:Nat) (v:Value) (bl:Nat) (f:Int) (p:Nat) (w:World) (A:List Int):Prop where
 s:Sm enc W bo t v w A
 l:w.heap[bl]?=some (.cells #[.int .i64 f,.int .i64 (p:Nat),.int .i64 ((p:Int) + 2),.int .i64 2] 50 (0,0))
open Go.RowKit
theorem Kps.bel {o:Nat→Prop} {A B C:World} (h:Kps o A B) (hb:Below B.heap.size B C):Kps o A C:=h.trans (Kps.of_below (fun _=>False) hb) (fun _ _ e=>e.elim)
theorem row_kps {w w':World} {B:Nat} {T:TypeId} {s n:Nat} {v:Value} {xs:List Value} {own:Nat→Prop} (h:w.ownsRow B T s v n xs) (hk:Kps own w w') (h1:∀ k,v.ownBlock=some k→Typ T w k→¬ own k):w'.ownsRow B T s v n xs:=by
 obtain ⟨k1,h2⟩:=id h
 refine ⟨k1,?_⟩
 rcases h2 with h2 | ⟨k,cap,cur,hv,hb,hgg,r⟩
 ·exact .inl h2
 ·exact .inr ⟨k,cap,cur,hv,hb,(hk.same k (Array.getElem?_eq_some_iff.1 hgg).1 (fun e=>h1 k (by rw [hv];rfl) ⟨_,hgg⟩ e)).trans hgg,r⟩
def Rws (W:World) (w:World) (own:Nat→Prop):Prop:=∀ k,own k→W.heap.size≤k∧(Typ 27 w k∨Typ 45 w k)
theorem Rws.not {W w:World} {own:Nat→Prop} (h:Rws W w own) {T:TypeId} {k:Nat} (ht:Typ T w k) (h1:T≠27) (h2:T≠45):¬ own k:=fun e=>by
 rcases (h k e).2 with e | e
 ·exact h1 (ht.uniq e)
 ·exact h2 (ht.uniq e)
def Tg (enc:Int) (w:World) (t:Nat) (A T:List Int):Prop:=∃ L ps,Tx enc 65536 L w t ps∧asOf ps=A∧(sh enc ps).map Prod.snd=T
theorem Tg.tz {enc:Int} {w:World} {t:Nat} {A T:List Int} (h:Tg enc w t A T):Tz enc w t A:=by
 obtain ⟨L,ps,h1,h2,_⟩:=h
 exact ⟨L,ps,h1,h2⟩
theorem Tz.tg {enc:Int} {w:World} {t:Nat} {A:List Int} (h:Tz enc w t A):∃ T,Tg enc w t A T∧T.length=A.length:=by
 obtain ⟨L,ps,h1,rfl⟩:=h
 exact ⟨_,⟨L,ps,h1,rfl,rfl⟩,by rw [List.length_map,sh_len]⟩
theorem Tags_z (enc:Int) (w:World) (t:Nat) (A T:List Int) (h:Tg enc w t A T):Calls Tryz.prog 8 #[.pointer (some ⟨t,0,none⟩),.int .i64 0,.int .i64 (A.length:Nat)] w fun e w'=>AtR T w e w':=by
 obtain ⟨L,ps,h1,rfl,rfl⟩:=h
 have:=Tags_any enc 65536 L w t ps 0 ((asOf ps).length:Nat) h1
 have e:btw enc ps (clp (sh enc ps).length 0 ((asOf ps).length:Nat)).1 (clp (sh enc ps).length 0 ((asOf ps).length:Nat)).2=sh enc ps:=by
  rw [sh_len]
  unfold btw clp
  by_cases h:(0:Int) < ((asOf ps).length:Nat)
  ·rw [if_neg (by omega)]
   simp only
   rw [show (max (0:Int) 0).toNat=0 by omega,show (min (((asOf ps).length:Nat):Int) ((asOf ps).length:Nat)).toNat - 0=(sh enc ps).length by rw [sh_len];omega,List.drop_zero,List.take_length]
  ·have h0:(sh enc ps).length=0:=by rw [sh_len];omega
   rw [List.length_eq_zero_iff.1 h0]
   simp
 rwa [e] at this
structure KS (enc:Int) (W:World) (bo t:Nat) (vA:Value) (A:List Int) (vt:Value) (T:List Int) (w:World):Prop where
 bx:w.heap[bo]?=some (.cells #[.pointer (some ⟨t,0,none⟩),vA] 29 (0,0))
 tg:Tg enc w t A T
 bl:Below W.heap.size W w
 oa:OwnI w 0 vA A
 ot:OwnI w 0 vt T
theorem KS.kps {enc:Int} {W:World} {bo t:Nat} {vA:Value} {A:List Int} {vt:Value} {T:List Int} {w w':World} {own:Nat→Prop} (h:KS enc W bo t vA A vt T w) (hk:Kps own w w') (hr:Rws W w own):KS enc W bo t vA A vt T w':=by
 obtain ⟨L,ps,k1,k2,k3⟩:=h.tg
 obtain ⟨lv,u,q1,q2,q3⟩:=k1.ex
 refine ⟨(hk.same bo (Array.getElem?_eq_some_iff.1 h.bx).1 (hr.not (T:=29) ⟨_,h.bx⟩ (by decide) (by decide))).trans h.bx,⟨L,ps,⟨⟨lv,u,(hk.same t (Array.getElem?_eq_some_iff.1 q1).1 (hr.not (T:=115) ⟨_,q1⟩ (by decide) (by decide))).trans q1,q2.same ?_,q3.same ?_⟩,k1.pc.same ?_,k1.en,k1.by',k1.ll,k1.l0,k1.lm,k1.sz⟩,k2,k3⟩,h.bl.trans (hk.below h.bl.size (fun k e=>(hr k e).1)),h.oa.kps2 hk (fun k e q=>hr.not q (by decide) (by decide) e),h.ot.kps2 hk (fun k e q=>hr.not q (by decide) (by decide) e)⟩
 ·exact fun b hb=>hk.same b hb.lt (hr.not hb (by decide) (by decide))
 ·exact fun b hb=>hk.same b hb.lt (hr.not hb (by decide) (by decide))
 ·exact fun b hb=>hk.same b hb.lt (hr.not hb (by decide) (by decide))
theorem KS.ext {enc:Int} {W:World} {bo t:Nat} {vA:Value} {A:List Int} {vt:Value} {T:List Int} {w w':World} (h:KS enc W bo t vA A vt T w) (hb:Below w.heap.size w w'):KS enc W bo t vA A vt T w':=h.kps (Kps.of_below (fun _=>False) hb) (fun _ e=>e.elim)
def RowQ (w:World) (B:Nat) (v:Value) (xs:List Value):Prop:=w.ownsRow B 27 1 v xs.length xs
theorem RowQ.ext {w w':World} {base:Nat} {v:Value} {xs:List Value} (h:RowQ w base v xs) (hb:Below w.heap.size w w'):RowQ w' base v xs :=
 World.ownsRow.kept (row:=none) h ⟨hb.os,hb.tape,hb.output,hb.size,fun k hk _=>hb.block k hk⟩ (by cases v.ownBlock <;> simp)
theorem RowQ.form {w:World} {base:Nat} {v:Value} {xs:List Value} (h:RowQ w base v xs):∃ ao cap,v=.slice ao xs.length cap:=by
 rcases h.2 with ⟨rfl,hn⟩ | ⟨g,cap,cur,hv,_⟩
 ·exact ⟨none,0,by rw [hn]⟩
 ·exact ⟨_,cap,hv⟩
theorem RowQ.typ {w:World} {B:Nat} {v:Value} {xs:List Value} (h:RowQ w B v xs) {k:Nat} (hk:v.ownBlock=some k):Typ 27 w k:=by
 rcases h.2 with ⟨rfl,_⟩ | ⟨g,cap,cur,rfl,hb,hg,_⟩
 ·cases hk
 ·cases hk;exact ⟨_,hg⟩
theorem RowQ.at {w:World} {B:Nat} {ao:Option Addr} {n c:Nat} {xs:List Value} (h:RowQ w B (.slice ao n c) xs) (i:Nat) (x:Value) (hx:xs[i]?=some x):∃ g,ao=some ⟨g,0,none⟩∧g < w.heap.size∧n≤c∧w.cell? ⟨g,i,none⟩=some x:=by
 have hil:=(List.getElem?_eq_some_iff.1 hx).1
 rcases h.2 with ⟨e,hn⟩ | ⟨g,cap,cur,hv,hb,hg,k1,k2,k3,k4⟩
 ·rw [hn] at hil;omega
 ·simp only [Value.slice.injEq] at hv
  obtain ⟨rfl,rfl,rfl⟩:=hv
  refine ⟨g,rfl,(Array.getElem?_eq_some_iff.1 hg).1,k1,?_⟩
  have:=congrArg (fun l=>l[i]?) k4
  simp only [Nat.mul_one,List.getElem?_take_of_lt hil,Array.getElem?_toList] at this
  rw [cellOf hg,this,hx]
structure KR (w:World) (B:Nat) (vh:Value) (hs:List Hel) (vq:Value) (qs:List (Value × List Int)):Prop where
 h:OwnH w B vh hs
 hi:∀ x ∈ hs,HelI w B x
 q:RowQ w B vq (qs.map Prod.fst)
 qi:∀ x ∈ qs,OwnI w B x.1 x.2∧x.2.length≤100000000000
 di:qs.Pairwise fun x y=>∀ g,x.1.ownBlock=some g→y.1.ownBlock≠some g
 hq:∀ x ∈ hs,∀ y ∈ qs,∀ g,y.1.ownBlock=some g→x.l.ownBlock≠some g∧x.v.ownBlock≠some g
section
variable {P:Program} {W:World} {ops:Array Oper} {rest:List Oper} {o:Oper} {a:Act} {Q:Exit→Act→World→Prop}
theorem wpl_quiet (hgd:o.guard=none) (s x:Operand) (t:TypeId) (ho:o.op=.call { callee:=.builtin .append,args:=#[s,x],argTypes:=#[t,t] })
  (B:Nat) (hinf:(P.info? 27).map (fun i=>(i.zero,i.size,i.bytes))=some (some (.slice none 0 0),1,24)) (ht:P.underlying t=some (.slice 27))
  (v:Value) (xs:List Value) (hs:a.eval s=v) (hown:RowQ W B v xs) (y:Value) (hy:y.oneCell'=true) (g:Nat) (hx:a.eval x=.slice (some ⟨g,0,none⟩) 1 1) (hnew:W.cell? ⟨g,0,none⟩=some y)
  (hl:xs.length + 1≤1099511627776) (hB:B≤W.heap.size)
  (h:∀ v' w',RowQ w' B v' (xs ++ [y])→W.grownBy w' v.ownBlock→(v'.ownBlock=v.ownBlock∨v'.ownBlock=some W.heap.size)→wpList P ops Q rest (a.put o.dst v') w'):wpList P ops Q (o :: rest) a W:=by
 obtain ⟨i0,hi,hz0,hz1,hz2⟩:=info_parts hinf
 refine wpList_append_blk W hgd s x t ho B 27 i0 _ 1 24 ht hi hz0 hz1 hz2 rfl (by decide) v xs.length xs hs hown ⟨g,0,none⟩ 1 1 [y] hx rfl (fun j u hj=>?_) (fun u hu=>by rw [List.mem_singleton] at hu;rw [hu];exact hy) (by unfold maxLen;omega) (by omega) hB (by decide) ?_
 ·cases j with
  | zero=>simp at hj;subst hj;exact hnew
  | succ j=>simp at hj
 intro v' w' h1 h2 h3
 refine h v' w' ?_ h2 h3
 unfold RowQ
 rw [List.length_append]
 exact h1
theorem wpl_held (hgd:o.guard=none) (s x:Operand) (t:TypeId) (ho:o.op=.call { callee:=.builtin .append,args:=#[s,x],argTypes:=#[t,t] })
  (B:Nat) (hinf:(P.info? 45).map (fun i=>(i.zero,i.size,i.bytes))=some (some (.agg #[.slice none 0 0,.slice none 0 0,.int .i64 0]),3,56)) (ht:P.underlying t=some (.slice 45))
  (v:Value) (xs:List Hel) (hs:a.eval s=v) (hown:OwnH W B v xs) (y:Hel) (hy1:y.l.oneCell'=true) (hy2:y.v.oneCell'=true) (g:Nat) (hx:a.eval x=.slice (some ⟨g,0,none⟩) 1 1) (hnew:∀ j u,(hcs y)[j]?=some u→W.cell? ((⟨g,0,none⟩:Addr).add j)=some u)
  (hl:xs.length + 1≤1099511627776) (hB:B≤W.heap.size)
  (h:∀ v' w',OwnH w' B v' (xs ++ [y])→W.grownBy w' v.ownBlock→(v'.ownBlock=v.ownBlock∨v'.ownBlock=some W.heap.size)→wpList P ops Q rest (a.put o.dst v') w'):wpList P ops Q (o :: rest) a W:=by
 obtain ⟨i0,hi,hz0,hz1,hz2⟩:=info_parts hinf
 refine wpList_append_blk W hgd s x t ho B 45 i0 _ 3 56 ht hi hz0 hz1 hz2 rfl (by decide) v xs.length (hfl xs) hs hown ⟨g,0,none⟩ 1 1 (hcs y) hx rfl hnew (fun u hu=>?_) (by unfold maxLen;omega) (by omega) hB (by decide) ?_
 ·simp only [hcs,List.mem_cons,List.not_mem_nil,or_false] at hu
  rcases hu with rfl | rfl | rfl
  ·exact hy1
  ·exact hy2
  ·rfl
 intro v' w' h1 h2 h3
 refine h v' w' ?_ h2 h3
 unfold OwnH
 rw [List.length_append,hfl_app,show hfl [y]=hcs y by simp [hfl]]
 exact h1
end
theorem Tryz.info_q:(Tryz.prog.info? 27).map (fun i=>(i.zero,i.size,i.bytes))=some (some (.slice none 0 0),1,24):=by kernel_rfl
theorem Tryz.info_h:(Tryz.prog.info? 45).map (fun i=>(i.zero,i.size,i.bytes))=some (some (.agg #[.slice none 0 0,.slice none 0 0,.int .i64 0]),3,56):=by kernel_rfl
open Go.RowKit
structure KX (w:World) (B:Nat) (vh:Value) (hs:List Hel) (vq:Value) (xs:List Value) (qs:List (Value × List Int)):Prop where
 h:OwnH w B vh hs
 hi:∀ x ∈ hs,HelI w B x
 q:RowQ w B vq xs
 qi:∀ x ∈ qs,OwnI w B x.1 x.2∧x.2.length≤100000000000
 di:qs.Pairwise fun x y=>∀ g,x.1.ownBlock=some g→y.1.ownBlock≠some g
 hq:∀ x ∈ hs,∀ y ∈ qs,∀ g,y.1.ownBlock=some g→x.l.ownBlock≠some g∧x.v.ownBlock≠some g
def Fre (hs:List Hel) (qs:List (Value × List Int)) (g:Nat):Prop:=(∀ x ∈ hs,x.l.ownBlock≠some g∧x.v.ownBlock≠some g)∧∀ x ∈ qs,x.1.ownBlock≠some g
theorem KX.nil (w:World) (B:Nat):KX w B (.slice none 0 0) [] (.slice none 0 0) [] []:=⟨World.ownsRow_nil _ _ _ _,by simp,World.ownsRow_nil _ _ _ _,by simp,List.Pairwise.nil,by simp⟩
theorem OwnI.turn {w w':World} {B:Nat} {v:Value} {zs:List Int} {own:Nat→Prop} (h:OwnI w B v zs) (hk:Kps own w w') (h1:∀ k,own k→v.ownBlock≠some k):OwnI w' B v zs:=row_kps h hk (fun k e _ o=>h1 k o e)
theorem OwnI.blk {w:World} {B:Nat} {v:Value} {zs:List Int} (h:OwnI w B v zs) (k:Nat) (hk:v.ownBlock=some k):B≤k∧k < w.heap.size:=World.ownsRow.lt h k hk
theorem KX.kps {w w':World} {B:Nat} {vh:Value} {hs:List Hel} {vq:Value} {xs:List Value} {qs:List (Value × List Int)} {own:Nat→Prop} (h:KX w B vh hs vq xs qs) (hk:Kps own w w') (h1:∀ k,own k→Typ 3 w k∧Fre hs qs k):KX w' B vh hs vq xs qs :=
 ⟨row_kps h.h hk (fun k _ t e=>absurd (t.uniq (h1 k e).1) (by decide)),fun x hx=>⟨(h.hi x hx).1.turn hk (fun k e=>((h1 k e).2.1 x hx).1),(h.hi x hx).2.turn hk (fun k e=>((h1 k e).2.1 x hx).2)⟩,row_kps h.q hk (fun k _ t e=>absurd (t.uniq (h1 k e).1) (by decide)),fun x hx=>⟨(h.qi x hx).1.turn hk (fun k e=>(h1 k e).2.2 x hx),(h.qi x hx).2⟩,h.di,h.hq⟩
theorem KX.ext {w w':World} {B:Nat} {vh:Value} {hs:List Hel} {vq:Value} {xs:List Value} {qs:List (Value × List Int)} (h:KX w B vh hs vq xs qs) (hb:Below w.heap.size w w'):KX w' B vh hs vq xs qs:=h.kps (Kps.of_below (fun _=>False) hb) (fun _ e=>e.elim)
theorem KX.fre {w:World} {B:Nat} {vh:Value} {hs:List Hel} {vq:Value} {xs:List Value} {qs:List (Value × List Int)} (h:KX w B vh hs vq xs qs) {g:Nat} (hg:w.heap.size≤g):Fre hs qs g:=by
 refine ⟨fun x hx=>⟨fun e=>?_,fun e=>?_⟩,fun x hx e=>?_⟩
 ·have:=((h.hi x hx).1.blk g e).2;omega
 ·have:=((h.hi x hx).2.blk g e).2;omega
 ·have:=((h.qi x hx).1.blk g e).2;omega
theorem KX.push {w w':World} {B:Nat} {vh:Value} {hs:List Hel} {vq vq':Value} {xs:List Value} {qs:List (Value × List Int)} (h:KX w B vh hs vq xs qs) (v:Value) (zs:List Int) (hy:OwnI w B v zs) (hz:zs.length≤100000000000) (hf:∀ g,v.ownBlock=some g→Fre hs qs g) (hr:RowQ w' B vq' (xs ++ [v])) (hg:w.grownBy w' vq.ownBlock) :
  KX w' B vh hs vq' (xs ++ [v]) (qs ++ [(v,zs)]):=by
 have hk:Kps (fun k=>vq.ownBlock=some k) w w':=Kps.grown hg (fun k e _=>e)
 have ht:∀ k,vq.ownBlock=some k→Typ 27 w k:=fun k e=>h.q.typ e
 refine ⟨row_kps h.h hk (fun k _ t e=>absurd (t.uniq (ht k e)) (by decide)),fun x hx=>⟨(h.hi x hx).1.kps2 hk (fun k e q=>absurd ((ht k e).uniq q) (by decide)),(h.hi x hx).2.kps2 hk (fun k e q=>absurd ((ht k e).uniq q) (by decide))⟩,hr,?_,?_,?_⟩
 ·intro x hx
  rw [List.mem_append,List.mem_singleton] at hx
  rcases hx with hx | rfl
  ·exact ⟨(h.qi x hx).1.kps2 hk (fun k e q=>absurd ((ht k e).uniq q) (by decide)),(h.qi x hx).2⟩
  ·exact ⟨hy.kps2 hk (fun k e q=>absurd ((ht k e).uniq q) (by decide)),hz⟩
 ·rw [List.pairwise_append]
  refine ⟨h.di,List.pairwise_singleton _ _,fun x hx y hy g e=>?_⟩
  rw [List.mem_singleton] at hy
  subst hy
  intro e2
  exact (hf g e2).2 x hx e
 ·intro x hx y hy g e
  rw [List.mem_append,List.mem_singleton] at hy
  rcases hy with hy | rfl
  ·exact h.hq x hx y hy g e
  ·exact (hf g e).1 x hx
theorem KX.hold {w w':World} {B:Nat} {vh vh':Value} {hs:List Hel} {vq:Value} {xs:List Value} {qs:List (Value × List Int)} (h:KX w B vh hs vq xs qs) (x:Hel) (hx:HelI w B x) (hf:∀ g,x.l.ownBlock=some g∨x.v.ownBlock=some g→∀ y ∈ qs,y.1.ownBlock≠some g) (hr:OwnH w' B vh' (hs ++ [x])) (hg:w.grownBy w' vh.ownBlock) :
  KX w' B vh' (hs ++ [x]) vq xs qs:=by
 have hk:Kps (fun k=>vh.ownBlock=some k) w w':=Kps.grown hg (fun k e _=>e)
 have ht:∀ k,vh.ownBlock=some k→Typ 45 w k:=fun k e=>h.h.typ e
 refine ⟨hr,?_,row_kps h.q hk (fun k _ t e=>absurd (t.uniq (ht k e)) (by decide)),fun y hy=>⟨(h.qi y hy).1.kps2 hk (fun k e q=>absurd ((ht k e).uniq q) (by decide)),(h.qi y hy).2⟩,h.di,?_⟩
 ·intro y hy
  rw [List.mem_append,List.mem_singleton] at hy
  rcases hy with hy | rfl
  ·exact ⟨(h.hi y hy).1.kps2 hk (fun k e q=>absurd ((ht k e).uniq q) (by decide)),(h.hi y hy).2.kps2 hk (fun k e q=>absurd ((ht k e).uniq q) (by decide))⟩
  ·exact ⟨hx.1.kps2 hk (fun k e q=>absurd ((ht k e).uniq q) (by decide)),hx.2.kps2 hk (fun k e q=>absurd ((ht k e).uniq q) (by decide))⟩
 ·intro y hy z hz g e
  rw [List.mem_append,List.mem_singleton] at hy
  rcases hy with hy | rfl
  ·exact h.hq y hy z hz g e
  ·exact ⟨fun e2=>hf g (.inl e2) z hz e,fun e2=>hf g (.inr e2) z hz e⟩
theorem KX.first {w:World} {B:Nat} {vh:Value} {hs:List Hel} {vq:Value} {xs:List Value} {q:Value × List Int} {qs:List (Value × List Int)} (h:KX w B vh hs vq xs (q :: qs)):KX w B vh hs vq xs qs∧(OwnI w B q.1 q.2∧q.2.length≤100000000000)∧∀ g,q.1.ownBlock=some g→Fre hs qs g:=by
 have hd:=List.pairwise_cons.1 h.di
 exact ⟨⟨h.h,h.hi,h.q,fun x hx=>h.qi x (List.mem_cons_of_mem _ hx),hd.2,fun x hx y hy=>h.hq x hx y (List.mem_cons_of_mem _ hy)⟩,h.qi q (List.mem_cons_self ..),fun g e=>⟨fun x hx=>h.hq x hx q (List.mem_cons_self ..) g e,fun x hx=>hd.1 x hx g e⟩⟩
structure KO (enc:Int) (W:World) (bo t:Nat) (vA:Value) (A:List Int) (vt:Value) (T:List Int) (ob:Nat) (oc:Array Value) (w:World):Prop where
 s:KS enc W bo t vA A vt T w
 o:w.heap[ob]?=some (.cells oc 38 (0,0))
section
variable {enc:Int} {W:World} {bo t:Nat} {vA:Value} {A:List Int} {vt:Value} {T:List Int} {ob:Nat} {oc:Array Value} {w w':World}
theorem KS.tur {own:Nat→Prop} (h:KS enc W bo t vA A vt T w) (hk:Kps own w w') (h1:∀ k,own k→W.heap.size≤k∧(Typ 27 w k∨Typ 45 w k∨(Typ 3 w k∧vA.ownBlock≠some k∧vt.ownBlock≠some k))):KS enc W bo t vA A vt T w':=by
 have no:∀ {Y:TypeId} {k:Nat},Typ Y w k→Y≠27→Y≠45→Y≠3→¬ own k:=fun ht n1 n2 n3 e=>by
  rcases (h1 _ e).2 with q | q | q
  ·exact n1 (ht.uniq q)
  ·exact n2 (ht.uniq q)
  ·exact n3 (ht.uniq q.1)
 obtain ⟨L,ps,k1,k2,k3⟩:=h.tg
 obtain ⟨lv,u,q1,q2,q3⟩:=k1.ex
 refine ⟨(hk.same bo (Array.getElem?_eq_some_iff.1 h.bx).1 (no (Y:=29) ⟨_,h.bx⟩ (by decide) (by decide) (by decide))).trans h.bx,⟨L,ps,⟨⟨lv,u,(hk.same t (Array.getElem?_eq_some_iff.1 q1).1 (no (Y:=115) ⟨_,q1⟩ (by decide) (by decide) (by decide))).trans q1,q2.same ?_,q3.same ?_⟩,k1.pc.same ?_,k1.en,k1.by',k1.ll,k1.l0,k1.lm,k1.sz⟩,k2,k3⟩,h.bl.trans (hk.below h.bl.size (fun k e=>(h1 k e).1)),row_kps h.oa hk ?_,row_kps h.ot hk ?_⟩
 ·exact fun b hb=>hk.same b hb.lt (no hb (by decide) (by decide) (by decide))
 ·exact fun b hb=>hk.same b hb.lt (no hb (by decide) (by decide) (by decide))
 ·exact fun b hb=>hk.same b hb.lt (no hb (by decide) (by decide) (by decide))
 ·intro k e ht o
  rcases (h1 k o).2 with q | q | q
  ·exact absurd (ht.uniq q) (by decide)
  ·exact absurd (ht.uniq q) (by decide)
  ·exact q.2.1 e
 ·intro k e ht o
  rcases (h1 k o).2 with q | q | q
  ·exact absurd (ht.uniq q) (by decide)
  ·exact absurd (ht.uniq q) (by decide)
  ·exact q.2.2 e
theorem KO.tur {own:Nat→Prop} (h:KO enc W bo t vA A vt T ob oc w) (hk:Kps own w w') (h1:∀ k,own k→W.heap.size≤k∧(Typ 27 w k∨Typ 45 w k∨(Typ 3 w k∧vA.ownBlock≠some k∧vt.ownBlock≠some k))):KO enc W bo t vA A vt T ob oc w':=by
 refine ⟨h.s.tur hk h1,(hk.same ob (Array.getElem?_eq_some_iff.1 h.o).1 (fun e=>?_)).trans h.o⟩
 have ht:Typ 38 w ob:=⟨_,h.o⟩
 rcases (h1 _ e).2 with q | q | q
 ·exact absurd (ht.uniq q) (by decide)
 ·exact absurd (ht.uniq q) (by decide)
 ·exact absurd (ht.uniq q.1) (by decide)
theorem KO.ext (h:KO enc W bo t vA A vt T ob oc w) (hb:Below w.heap.size w w'):KO enc W bo t vA A vt T ob oc w':=h.tur (Kps.of_below (fun _=>False) hb) (fun _ e=>e.elim)
theorem KO.rowq {vq:Value} {xs:List Value} (h:KO enc W bo t vA A vt T ob oc w) (hr:RowQ w W.heap.size vq xs) (hg:w.grownBy w' vq.ownBlock):KO enc W bo t vA A vt T ob oc w' :=
 h.tur (Kps.grown (o:=fun k=>vq.ownBlock=some k) hg (fun _ e _=>e)) (fun k e=>⟨(World.ownsRow.lt hr k e).1,.inl (hr.typ e)⟩)
theorem KO.rowh {vh:Value} {hs:List Hel} (h:KO enc W bo t vA A vt T ob oc w) (hr:OwnH w W.heap.size vh hs) (hg:w.grownBy w' vh.ownBlock):KO enc W bo t vA A vt T ob oc w' :=
 h.tur (Kps.grown (o:=fun k=>vh.ownBlock=some k) hg (fun _ e _=>e)) (fun k e=>⟨(World.ownsRow.lt hr k e).1,.inr (.inl (hr.typ e))⟩)
theorem KO.ints {v:Value} {zs:List Int} {B:Nat} (h:KO enc W bo t vA A vt T ob oc w) (hr:OwnI w B v zs) (hB:W.heap.size≤B) (hf:∀ k,v.ownBlock=some k→vA.ownBlock≠some k∧vt.ownBlock≠some k) (hk:Kps (fun k=>v.ownBlock=some k) w w'):KO enc W bo t vA A vt T ob oc w' :=
 h.tur hk (fun k e=>⟨Nat.le_trans hB (hr.blk k e).1,.inr (.inr ⟨OwnI.typ hr e,hf k e⟩)⟩)
theorem KO.fre (h:KO enc W bo t vA A vt T ob oc w) {k:Nat} (hk:w.heap.size≤k):vA.ownBlock≠some k∧vt.ownBlock≠some k :=
 ⟨fun e=>by have:=(h.s.oa.blk k e).2;omega,fun e=>by have:=(h.s.ot.blk k e).2;omega⟩
theorem KO.cs {v0 v1 v2 v3 v4:Value} (h:KO enc W bo t vA A vt T ob #[v0,v1,v2,v3,v4] w):w.cell? ⟨bo,0,none⟩=some (.pointer (some ⟨t,0,none⟩))∧w.cell? ⟨bo,1,none⟩=some vA∧w.cell? ⟨ob,2,none⟩=some v2∧w.cell? ⟨ob,3,none⟩=some v3∧w.cell? ⟨ob,4,none⟩=some v4:=by
 obtain ⟨_,c0,c1,c2,c3,c4⟩:=cells5 h.o
 exact ⟨(cells2 h.s.bx).2.1,(cells2 h.s.bx).2.2.1,c2,c3,c4⟩
end
theorem cells_lit (w:World) (cs:List Value) (T:TypeId):∀ j u,cs[j]?=some u→(w.alloc (.cells cs.toArray T)).cell? ((⟨w.heap.size,0,none⟩:Addr).add j)=some u:=fun j u h=>by
 rw [Addr.add_lit,cell_of_row _ _ _ _ _ _ (heap_alloc_new _ _)]
 simpa using h
theorem sub_moreK (A:List Int):sub A 0 ((A.length:Nat) + 1)=A:=by
 unfold sub clp
 by_cases h0:A.length=0
 ·obtain rfl:=List.length_eq_zero_iff.1 h0
  simp
 ·rw [if_neg (by omega)]
  simp only
  rw [show (max (0:Int) 0).toNat=0 by omega,show (min (((A.length:Nat):Int) + 1) (A.length:Int)).toNat - 0=A.length by omega,List.drop_zero,List.take_length]
theorem lnK_b (enc:Int) (A:List Int) (k:Int):(lnK enc A k).b=0∨1≤(lnK enc A k).b:=by
 unfold lnK
 split
 ·exact .inl rfl
 ·right
  show 1≤knd A _
  unfold knd
  split
  ·omega
  ·split <;> omega
theorem wpList_want {P:Program} {ops:Array Oper} {Q:Exit→Act→World→Prop} {rest:List Oper} {o:Oper} {a:Act} {w:World} (h:Region.wanted o (yielded ops a.tmps)=true) (h2:o.wp P a w (wpList P ops Q rest) Q):wpList P ops Q (o :: rest) a w:=by
 unfold wpList
 rw [if_pos h]
 exact .inl h2
section
variable {P:Program} {W:World} {ops:Array Oper} {rest:List Oper} {o:Oper} {a:Act} {Q:Exit→Act→World→Prop}
theorem wpw_ints (hw:Region.wanted o (yielded ops a.tmps)=true) (s x:Operand) (t:TypeId) (ho:o.op=.call { callee:=.builtin .append,args:=#[s,x],argTypes:=#[t,t] })
  (base:Nat) (hinf:(P.info? 3).map (fun i=>(i.zero,i.size,i.bytes))=some (some (.int .i64 0),1,8)) (ht:P.underlying t=some (.slice 3))
  (v:Value) (zs:List Int) (hs:a.eval s=v) (hown:OwnI W base v zs) (ys:List Int) (ad:Addr) (m c:Nat) (hx:a.eval x=.slice (some ad) m c) (hm:m=ys.length)
  (hys:∀ j u,(ys.map (Value.int .i64))[j]?=some u→W.cell? (ad.add j)=some u) (hm0:0 < m) (hl:zs.length + ys.length≤1099511627776) (hbase:base≤W.heap.size)
  (h:∀ v' w',OwnI w' base v' (zs ++ ys)→Below base W w'→wpList P ops Q rest (a.put o.dst v') w'):wpList P ops Q (o :: rest) a W:=by
 obtain ⟨i0,hi,hz0,hz1,hz2⟩:=info_parts hinf
 obtain ⟨v',w',hrun,h2,h3,_⟩:=run_append_blk (P:=P) W base t o.type 3 i0 (.int .i64 0) 1 8 ht hi hz0 hz1 hz2 rfl (by decide) v zs.length (zs.map (Value.int .i64)) hown ad m c (ys.map (Value.int .i64)) (by simp [hm]) hys (fun u hu=>by rw [List.mem_map] at hu;obtain ⟨_,_,rfl⟩:=hu;rfl) (by unfold maxLen;omega) (by omega) hbase hm0
 refine wpList_want hw ?_
 unfold Oper.wp execOp
 simp only [ho,resolve,invoke,builtin,Sem.run_bind,Sem.run_pure,Result.andThen_ok,List.map_toArray,List.map_cons,List.map_nil,hs,hx,hrun]
 refine h v' w' ?_ ((Kps.grown (o:=fun k=>v.ownBlock=some k) h3 (fun k e _=>e)).below hbase (fun k e=>(World.ownsRow.lt hown k e).1))
 unfold OwnI
 rw [List.map_append,List.length_append,← hm]
 exact h2
end
theorem own_put {w:World} {B:Nat} {ao:Option Addr} {n c:Nat} {zs:List Int} (h:OwnI w B (.slice ao n c) zs) (k:Nat) (hk:k < n) :
  ∃ g y,ao=some ⟨g,0,none⟩∧w.cell? ⟨g,k,none⟩=some y∧w.frozen? ⟨g,k,none⟩=false∧n≤c∧c≤maxLen∧∀ x:Int,OwnI (w.setCell ⟨g,k,none⟩ (.int .i64 x)) B (.slice (some ⟨g,0,none⟩) n c) (zs.set k x)∧Kps (fun j=>(Value.slice (some ⟨g,0,none⟩) n c).ownBlock=some j) w (w.setCell ⟨g,k,none⟩ (.int .i64 x)):=by
 have hl:n=zs.length:=by obtain ⟨_,_,e⟩:=h.form;simp only [Value.slice.injEq] at e;exact e.2.1
 rcases h.2 with ⟨e,hn⟩ | ⟨g,cap,cur,hv,hb,hg,k1,k2,k3,k4⟩
 ·rw [hn] at hl;omega
 ·simp only [Value.slice.injEq] at hv
  obtain ⟨rfl,_,rfl⟩:=hv
  rw [Nat.mul_one] at k3 k4
  refine ⟨g,cur[k]'(by omega),rfl,by rw [cellOf hg];exact Array.getElem?_eq_getElem (by omega),by simp [World.frozen?,hg],by omega,k2,fun x=>?_⟩
  obtain ⟨s1,s2⟩:=set1 hg k (.int .i64 x)
  refine ⟨⟨by simp,.inr ⟨g,c,_,by rw [List.length_set,hl],hb,s1,by rw [List.length_set];exact k1,k2,by simpa using k3,?_⟩⟩,Kps.grown s2 (fun j e _=>e)⟩
  apply List.ext_getElem?
  intro j
  rw [List.length_set,Nat.mul_one]
  by_cases hj:j < zs.length
  ·have h4:=congrArg (fun l=>l[j]?) k4
   simp only [List.getElem?_take_of_lt hj,Array.getElem?_toList] at h4
   rw [List.getElem?_take_of_lt hj,Array.getElem?_toList,List.getElem?_map,List.getElem?_set]
   by_cases e:k=j
   ·subst e
    rw [Array.getElem?_setIfInBounds_self_of_lt (by omega),if_pos rfl,if_pos hj]
    rfl
   ·rw [Array.getElem?_setIfInBounds_ne e,if_neg e,h4,List.getElem?_map]
  ·rw [List.getElem?_take_eq_none (by omega),List.getElem?_eq_none (by simp;omega)]
open Go.RowKit
def ntA (enc:Int) (A:List Int) (z:Int):Int:=if (lnK enc A 0).b=0 then z else (lnK enc A 0).b
theorem Native_z (enc:Int) (w:World) (t:Nat) (A:List Int) (z:Int) (h:Tz enc w t A):Calls Tryz.prog 17 #[.pointer (some ⟨t,0,none⟩),.int .i64 z] w fun e w'=>e=.returned (.int .i64 (ntA enc A z))∧Below w.heap.size w w':=by
 obtain ⟨a1,a2⟩:=lnA_in enc A 0 (Int.le_refl _) (spn_nn enc A)
 have AT:=zh (At_z enc w t A 0 h)
 rw [a1,a2] at AT
 clear h a1 a2
 by_cases hb:(lnK enc A 0).b=0
 ·have HE:=zh (show ntA enc A z=z by unfold ntA;rw [if_pos hb])
  rw [hb] at AT
  clear hb
  go_enter Tryz.func17,Tryz.ntmps17
  go_wp2_with (go_at_call 14;refine AT.out.mono ?_;rintro e w1 ⟨rfl,hb1⟩;have HB1:=zh hb1;clear hb1;(try dsimp only))
  go_ret
  exact ⟨by rw [HE.out];rfl,zxt HB1.out (zxa (Below.refl _ _) _)⟩
 ·have HE:=zh (show ntA enc A z=(lnK enc A 0).b by unfold ntA;rw [if_neg hb])
  generalize lnK enc A 0=y at *
  have hbb:(y.b == 0)=false:=by simp [hb]
  go_enter Tryz.func17,Tryz.ntmps17
  go_wp2_with (go_at_call 14;refine AT.out.mono ?_;rintro e w1 ⟨rfl,hb1⟩;have HB1:=zh hb1;clear hb1;(try dsimp only))
  go_ret
  exact ⟨by rw [HE.out];rfl,zxt HB1.out (zxa (Below.refl _ _) _)⟩
end Go.Proofs.YtgfdfajblidleaaGreat.P
