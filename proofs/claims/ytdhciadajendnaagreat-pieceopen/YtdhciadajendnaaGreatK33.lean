import Derived.Test.YtdhciadajendnaaGreatK32
set_option maxRecDepth 100000
namespace Go.Proofs.YtdhciadajendnaaGreat.P
open Go.RowKit
section
variable {P:Program} {W:World} {ops:Array Oper} {rest:List Oper} {o:Oper} {a:Act} {Q:Exit→Act→World→Prop}
theorem wpl_intB (hgd:o.guard=none) (s x:Operand) (t:TypeId) (ho:o.op=.call { callee:=.builtin .append,args:=#[s,x],argTypes:=#[t,t] })
  (B:Nat) (hinf:(P.info? 3).map (fun i=>(i.zero,i.size,i.bytes))=some (some (.int .i64 0),1,8)) (ht:P.underlying t=some (.slice 3))
  (v:Value) (xs:List Int) (hs:a.eval s=v) (hown:OwnI W B v xs) (y:Int) (g:Nat) (hx:a.eval x=.slice (some ⟨g,0,none⟩) 1 1) (hnew:W.cell? ⟨g,0,none⟩=some (.int .i64 y))
  (hl:xs.length + 1≤1099511627776) (hB:B≤W.heap.size)
  (h:∀ v' w',OwnI w' B v' (xs ++ [y])→W.grownBy w' v.ownBlock→(v'.ownBlock=v.ownBlock∨v'.ownBlock=some W.heap.size)→wpList P ops Q rest (a.put o.dst v') w'):wpList P ops Q (o :: rest) a W:=by
 obtain ⟨i0,hi,hz0,hz1,hz2⟩:=info_parts hinf
 refine wpList_append_blk W hgd s x t ho B 3 i0 _ 1 8 ht hi hz0 hz1 hz2 rfl (by decide) v xs.length (xs.map (Value.int .i64)) hs hown ⟨g,0,none⟩ 1 1 [.int .i64 y] hx rfl (fun j u hj=>?_) (fun u hu=>by rw [List.mem_singleton] at hu;rw [hu];rfl) (by unfold maxLen;omega) (by omega) hB (by decide) ?_
 ·cases j with
  | zero=>simp at hj;subst hj;exact hnew
  | succ j=>simp at hj
 intro v' w' h1 h2 h3
 refine h v' w' ?_ h2 h3
 unfold OwnI
 rw [List.length_append,List.map_append]
 exact h1
end
theorem rNext_any (enc:Int) (v:Value) (zs:List Int) (k:Nat) (w:World) (h:Rd .u8 w v zs) (hb:Byt zs) (he:enc=1∨enc=2∨enc=3∨enc=4) (hl:k < zs.length) (hm:zs.length≤65536) :
  Calls Tryz.prog 68 #[.int .i64 enc,v,.int .i64 (k:Nat)] w fun e w'=>e=.returned (.tuple #[.int .i64 (Cx.fst enc (zs.drop k)).1,.int .i64 (Cx.fst enc (zs.drop k)).2])∧Below w.heap.size w w':=by
 have HR:=zh h
 have hk:Cx.known enc=true:=(Cx.known_iff enc).2 he
 obtain ⟨ao,cap,rfl,hl1,hm1,hc⟩:=h
 obtain ⟨b,off,rfl,hbl,_⟩:=hc (List.length_pos_iff.1 (by omega))
 have hcn:¬ cap=k:=by omega
 have HC:Hid (Rd .u8 w (.slice (some ⟨b,off + k,none⟩) (zs.length - k) (cap - k)) (zs.drop k)):=HR.out.cut (by omega)
 have AT:Hid (∀ w',Below w.heap.size w w'→Calls Tryz.prog 103 #[.int .i64 enc,.slice (some ⟨b,off + k,none⟩) (zs.length - k) (cap - k),.int .i64 ((0:Nat):Int)] w' fun e w''=>e=.returned (.tuple #[.int .i64 (Cx.fst enc (zs.drop k)).1,.int .i64 (Cx.fst enc (zs.drop k)).2])∧Below w'.heap.size w' w''):=fun w' hb'=>by
  have:=Go.Proofs.YtdhciadajendnaaGreat.At_any enc _ (zs.drop k) 0 w' (HC.out.ext hb') (fun z hz=>hb z (List.mem_of_mem_drop hz)) he (by rw [List.length_drop];omega) (by rw [List.length_drop];omega)
  rwa [List.drop_zero] at this
 generalize Cx.fst enc (zs.drop k)=R at *
 have hk1:¬ ((k:Int) ≥ (zs.length:Int)):=by omega
 have hk2:(k:Int) < (zs.length:Int):=by omega
 clear hb hc he
 go_enter Tryz.func68,Tryz.ntmps68
 go_wp2_with (first | (go_at_call 102;refine (rknown_any _ _).mono ?_;rintro e w' ⟨rfl,rfl⟩;rw [hk]) | (go_at_call 103;refine (AT.out _ (Below.refl _ _)).mono ?_;rintro e w' ⟨rfl,hb⟩;have HB:=zh hb;clear hb))
 go_ret2
 exact ⟨rfl,HB.out⟩
def DT (w:World) (q B:Nat) (enc lim:Int) (c:List (Int × Int)) (vk:Value):Prop :=
 ∃ va vt,w.heap[q]?=some (.cells #[.int .i64 enc,.int .i64 lim,va,vt,vk] 105 (0,0))∧OwnI w B va (c.map Prod.fst)∧OwnI w B vt (c.map Prod.snd)∧∀ g,va.ownBlock=some g→vt.ownBlock≠some g
theorem DT.ext {w w':World} {q B:Nat} {enc lim:Int} {c:List (Int × Int)} {vk:Value} (h:DT w q B enc lim c vk) (hb:Below w.heap.size w w'):DT w' q B enc lim c vk:=by
 obtain ⟨va,vt,h1,h2,h3,h4⟩:=h
 exact ⟨va,vt,(hb.block q (Array.getElem?_eq_some_iff.1 h1).1).trans h1,h2.ext hb,h3.ext hb,h4⟩
theorem own_turn {w w':World} {B:Nat} {v:Value} {zs:List Int} (h:OwnI w B v zs) (hs:∀ g,v.ownBlock=some g→w'.heap[g]?=w.heap[g]?):OwnI w' B v zs:=by
 obtain ⟨h1,h2⟩:=h
 refine ⟨h1,?_⟩
 rcases h2 with h2 | ⟨g,cap,cur,hv,hb,hg,r⟩
 ·exact .inl h2
 ·exact .inr ⟨g,cap,cur,hv,hb,(hs g (by rw [hv];rfl)).trans hg,r⟩
theorem own_lt {w:World} {B:Nat} {v:Value} {zs:List Int} (h:OwnI w B v zs) (g:Nat) (hg:v.ownBlock=some g):B≤g∧g < w.heap.size:=World.ownsRow.lt h g hg
structure DTr (w:World) (q B:Nat) (enc lim:Int) (va vt vk:Value) (A T:List Int):Prop where
 x:w.heap[q]?=some (.cells #[.int .i64 enc,.int .i64 lim,va,vt,vk] 105 (0,0))
 a:OwnI w B va A
 t:OwnI w B vt T
 d:∀ g,va.ownBlock=some g→vt.ownBlock≠some g
theorem DTr.ext {w w':World} {q B:Nat} {enc lim:Int} {va vt vk:Value} {A T:List Int} (h:DTr w q B enc lim va vt vk A T) (hb:Below w.heap.size w w'):DTr w' q B enc lim va vt vk A T:=⟨(hb.block q (Array.getElem?_eq_some_iff.1 h.x).1).trans h.x,h.a.ext hb,h.t.ext hb,h.d⟩
theorem cells5t {w:World} {b:Nat} {T:TypeId} {v0 v1 v2 v3 v4:Value} (h:w.heap[b]?=some (.cells #[v0,v1,v2,v3,v4] T (0,0))):w.cell? ⟨b,0,none⟩=some v0∧w.cell? ⟨b,1,none⟩=some v1∧w.cell? ⟨b,2,none⟩=some v2∧w.cell? ⟨b,3,none⟩=some v3∧w.cell? ⟨b,4,none⟩=some v4∧∀ i,w.frozen? ⟨b,i,none⟩=false:=by
 refine ⟨?_,?_,?_,?_,?_,fun i=>by simp [World.frozen?,h]⟩ <;> (rw [cell_of_row _ _ _ _ _ _ h];rfl)
theorem DTr.grew {w w':World} {q B:Nat} {enc lim:Int} {va vt vk:Value} {A T:List Int} (h:DTr w q B enc lim va vt vk A T) {v:Value} (hv:v=va∨v=vt) (hg:w.grownBy w' v.ownBlock):w'.heap[q]?=some (.cells #[.int .i64 enc,.int .i64 lim,va,vt,vk] 105 (0,0))∧(v=va→OwnI w' B vt T)∧(v=vt→OwnI w' B va A):=by
 have ty:∀ g,v.ownBlock=some g→Typ 3 w g:=fun g e=>by
  rcases hv with rfl | rfl
  ·exact h.a.typ e
  ·exact h.t.typ e
 refine ⟨(hg.block q (Array.getElem?_eq_some_iff.1 h.x).1 (fun e=>?_)).trans h.x,fun e=>own_turn h.t (fun g hg2=>hg.block g (own_lt h.t g hg2).2 (fun e2=>?_)),fun e=>own_turn h.a (fun g hg2=>hg.block g (own_lt h.a g hg2).2 (fun e2=>?_))⟩
 ·have h1:Typ 105 w q:=⟨_,h.x⟩
  exact absurd (h1.uniq (ty q e.symm)) (by decide)
 ·subst e;exact h.d g e2.symm hg2
 ·subst e;exact h.d g hg2 e2.symm
theorem DTr.setA {w w':World} {q B:Nat} {enc lim:Int} {va vt vk v':Value} {A T A':List Int} (h:DTr w q B enc lim va vt vk A T) (ho:OwnI w' B v' A') (hg:w.grownBy w' va.ownBlock) (hd:v'.ownBlock=va.ownBlock∨v'.ownBlock=some w.heap.size) :
  DTr (w'.setCell ⟨q,2,none⟩ v') q B enc lim v' vt vk A' T∧w'.grownBy (w'.setCell ⟨q,2,none⟩ v') (some q):=by
 obtain ⟨h1,h2,_⟩:=h.grew (.inl rfl) hg
 obtain ⟨s1,s2⟩:=set1 h1 2 v'
 have hq:Typ 105 w' q:=⟨_,h1⟩
 have ne:∀ {B:Nat} {v:Value} {zs:List Int},OwnI w' B v zs→∀ g,v.ownBlock=some g→(w'.setCell ⟨q,2,none⟩ v').heap[g]?=w'.heap[g]?:=fun {B v zs} ho g e=>s2.block g (own_lt ho g e).2 (fun e2=>by have h3:=ho.typ e;cases e2;exact absurd (hq.uniq h3) (by decide))
 refine ⟨⟨s1,own_turn ho (ne ho),own_turn (h2 rfl) (ne (h2 rfl)),fun g e e2=>?_⟩,s2⟩
 rcases hd with hd | hd
 ·exact h.d g (hd ▸ e) e2
 ·rw [hd] at e
  cases e
  have:=(own_lt h.t _ e2).2
  omega
theorem DTr.setT {w w':World} {q B:Nat} {enc lim:Int} {va vt vk v':Value} {A T T':List Int} (h:DTr w q B enc lim va vt vk A T) (ho:OwnI w' B v' T') (hg:w.grownBy w' vt.ownBlock) (hd:v'.ownBlock=vt.ownBlock∨v'.ownBlock=some w.heap.size) :
  DTr (w'.setCell ⟨q,3,none⟩ v') q B enc lim va v' vk A T'∧w'.grownBy (w'.setCell ⟨q,3,none⟩ v') (some q):=by
 obtain ⟨h1,_,h2⟩:=h.grew (.inr rfl) hg
 obtain ⟨s1,s2⟩:=set1 h1 3 v'
 have hq:Typ 105 w' q:=⟨_,h1⟩
 have ne:∀ {B:Nat} {v:Value} {zs:List Int},OwnI w' B v zs→∀ g,v.ownBlock=some g→(w'.setCell ⟨q,3,none⟩ v').heap[g]?=w'.heap[g]?:=fun {B v zs} ho g e=>s2.block g (own_lt ho g e).2 (fun e2=>by have h3:=ho.typ e;cases e2;exact absurd (hq.uniq h3) (by decide))
 refine ⟨⟨s1,own_turn (h2 rfl) (ne (h2 rfl)),own_turn ho (ne ho),fun g e e2=>?_⟩,s2⟩
 rcases hd with hd | hd
 ·exact h.d g e (hd ▸ e2)
 ·rw [hd] at e2
  cases e2
  have:=(own_lt h.a _ e).2
  omega
theorem DTr.low {w w' w'':World} {q B:Nat} {v:Value} {zs:List Int} (ho:OwnI w B v zs) (hB:B≤w.heap.size) (hg:w.grownBy w' v.ownBlock) (hq:B≤q) (hs:w'.grownBy w'' (some q)):Below B w w'':=by
 have k1:Kps (fun k=>v.ownBlock=some k) w w':=Kps.grown hg (fun k e _=>e)
 have k2:Kps (fun k=>k=q) w' w'':=Kps.grown hs (fun k e _=>(Option.some.inj e).symm)
 exact (k1.below hB (fun k e=>(own_lt ho k e).1)).trans (k2.below (Nat.le_trans hB k1.size) (fun k e=>by rw [e];exact hq))
def OpX (enc lim:Int) (zs:List Int) (w:World) (e:Ending) (w':World):Prop:=(opE enc lim zs.length≠0∧e=.returned (.tuple #[.pointer none,.int .i64 (opE enc lim zs.length)])∧Below w.heap.size w w')∨(opE enc lim zs.length=0∧∃ q,e=.returned (.tuple #[.pointer (some ⟨q,0,none⟩),.int .i64 0])∧DT w' q w.heap.size enc lim (ctn enc 0 (Cx.dec enc zs)) (.slice none 0 0)∧w.heap.size≤q∧Below w.heap.size w w')
theorem ctn_one (enc:Int) (k:Int) (hk:0≤k) (a:Int) (g:List Int):ctn enc k (a :: g)=(a,k) :: ctn enc (k + ((Cx.put enc a).length:Nat)) g:=by
 have e:tg k ((Cx.put enc a).length:Nat)=k + ((Cx.put enc a).length:Nat):=by unfold tg;rw [if_neg (by omega)]
 show (a,k) :: ctn enc (tg k ((Cx.put enc a).length:Nat)) g=_
 rw [e]
set_option maxHeartbeats 8000000 in
theorem rOpen_good (enc lim:Int) (v:Value) (zs:List Int) (w:World) (h:Rd .u8 w v zs) (hB:Byt zs) (hE:opE enc lim zs.length=0) :
  Calls Tryz.prog 41 #[.int .i64 enc,v,.int .i64 lim] w fun e w'=>Hid (OpX enc lim zs w e w'):=by
 have hk:Cx.known enc=true:=by
  by_cases e:Cx.known enc=true
  ·exact e
  ·unfold opE at hE;rw [if_neg e] at hE;cases hE
 have hlim:0≤lim∧lim≤65536∧(zs.length:Int)≤lim:=by
  unfold opE at hE
  rw [if_pos hk] at hE
  split at hE
  ·cases hE
  ·split at hE
   ·cases hE
   ·omega
 have HE:=zh hE
 have he:=(Cx.known_iff enc).1 hk
 have HR:=zh h
 have HB:=zh hB
 have HEN:=zh he
 obtain ⟨ao,cap,rfl,hl1,hm1,_⟩:=h
 have g1:¬ enc < 1:=by omega
 have g2:¬ enc > 4:=by omega
 have g2':¬ 4 < enc:=by omega
 have g3:¬ lim < 0:=by omega
 have g4:¬ lim > 65536:=by omega
 have g4':¬ 65536 < lim:=by omega
 have g5:¬ (zs.length:Int) > lim:=by omega
 have g5':¬ lim < (zs.length:Int):=by omega
 have hz6:zs.length≤65536:=by omega
 clear hE hk hlim he hB
 go_enter Tryz.func41,Tryz.ntmps41
 go_upto_region 8 with fail
 clear g1 g2 g2' g3 g4 g4' g5 g5'
 generalize hw1:World.alloc _ _=w1
 have HX1:Hid (w1.heap[w.heap.size]?=some (.cells #[.int .i64 enc,.int .i64 lim,.slice none 0 0,.slice none 0 0,.slice none 0 0] 105 (0,0))∧Below w.heap.size w w1):=by unfold Hid;rw [← hw1];exact ⟨heap_alloc_new _ _,zxa (Below.refl _ _) _⟩
 clear hw1
 obtain ⟨q,hq⟩:∃ q,q=w.heap.size:=⟨_,rfl⟩
 have HQ:=zh hq
 rw [← hq] at HX1
 rw [show w.heap.size=q from hq.symm]
 clear hq
 have HST:Hid (DT w1 q w.heap.size enc lim [] (.slice none 0 0)∧Below w.heap.size w w1):=⟨⟨_,_,HX1.out.1,World.ownsRow_nil _ _ _ _,World.ownsRow_nil _ _ _ _,by simp [Value.ownBlock]⟩,by rw [← HQ.out];rw [← HQ.out] at *;exact HX1.out.2⟩
 clear HX1
 go_wp2_with fail
 go_loopw [9] (fun i wr=>∃ (k:Nat) (c:List (Int × Int)),k≤zs.length∧i=.int .i64 (k:Nat)∧Hid (ctn enc 0 (Cx.dec enc zs)=c ++ ctn enc (k:Nat) (Cx.dec enc (zs.drop k)))∧c.length≤k∧Hid (DT wr q w.heap.size enc lim c (.slice none 0 0)∧Below w.heap.size w wr)) (fun i _=>zs.length - (intOf i).toNat)
 case atStart=>exact ⟨0,[],Nat.zero_le _,rfl,rfl,Nat.le_refl _,HST.out⟩
 case round =>
  clear HST
  obtain ⟨k,c,hk1,rfl,HC,hcl,HD⟩:=hrel
  by_cases hlt:k < zs.length
  ·have hn:zs.drop k≠[]:=List.length_pos_iff.1 (by rw [List.length_drop];omega)
   obtain ⟨a,n,hf,hn1,hn2⟩:∃ (a:Int) (n:Nat),Cx.fst enc (zs.drop k)=(a,(n:Int))∧1≤n∧n≤(zs.drop k).length:=by
    have:=Cx.fst_bd enc (zs.drop k) hn
    exact ⟨_,(Cx.fst enc (zs.drop k)).2.toNat,Prod.ext rfl (by simp only;omega),by omega,by omega⟩
   have hpl:(Cx.put enc a).length=n:=by
    have hb:=(Cx.back enc (zs.drop k) (fun z hz=>HB.out z (List.mem_of_mem_drop hz)) hn HEN.out).2
    rw [hf] at hb
    rw [hb,List.length_take]
    simp only [Int.toNat_natCast]
    omega
   have HC':Hid (ctn enc 0 (Cx.dec enc zs)=(c ++ [(a,(k:Int))]) ++ ctn enc ((k + n:Nat):Int) (Cx.dec enc (zs.drop (k + n)))):=by
    unfold Hid
    rw [HC.out,Cx.dec_cons enc _ hn a n hf,ctn_one enc k (by omega),hpl,List.drop_drop,List.append_assoc]
    rfl
   rw [List.length_drop] at hn2
   have NX:=zh (rNext_any enc _ zs k wr (HR.out.ext HD.out.2) HB.out HEN.out hlt hz6)
   rw [hf] at NX
   have hn3:¬ ((n:Int) < 1):=by omega
   have hlt2:(k:Int) < (zs.length:Int):=by omega
   clear hf hpl HC hn
   go_upto_region 12 with (go_at_call 68;refine NX.out.mono ?_;rintro e w2 ⟨rfl,hb⟩;have HB2:=zh hb;clear hb;(try dsimp only))
   obtain ⟨va,vt,k1,k2,k3,k4⟩:=HD.out.1.ext HB2.out
   obtain ⟨aa,ca,rfl⟩:=k2.form
   obtain ⟨at',ct,rfl⟩:=k3.form
   have hlA:(c.map Prod.fst).length=c.length:=by rw [List.length_map]
   have hlT:(c.map Prod.snd).length=c.length:=by rw [List.length_map]
   rw [hlA] at k1 k2 k4
   rw [hlT] at k1 k3 k4
   have HBW:Hid (Below w.heap.size w w2):=zxt HD.out.2 HB2.out
   have HK:Hid (DTr w2 q w.heap.size enc lim (.slice aa c.length ca) (.slice at' c.length ct) (.slice none 0 0) (c.map Prod.fst) (c.map Prod.snd)):=⟨k1,k2,k3,k4⟩
   have HML:Hid ((c.map Prod.fst).length=c.length∧(c.map Prod.snd).length=c.length):=⟨hlA,hlT⟩
   clear k1 k2 k3 k4 hlA hlT NX hlt HD HB2
   obtain ⟨A,hA⟩:∃ A,A=c.map Prod.fst:=⟨_,rfl⟩
   obtain ⟨T,hT⟩:∃ T,T=c.map Prod.snd:=⟨_,rfl⟩
   rw [← hA,← hT] at HK HML
   have HA:=zh hA
   have HT:=zh hT
   clear hA hT
   obtain ⟨m,hm⟩:∃ m,m=c.length:=⟨_,rfl⟩
   rw [← hm] at HK HML hcl
   have HM:=zh hm
   clear hm
   have HQL:Hid (w.heap.size≤q):=by rw [HQ.out];exact Nat.le_refl _
   obtain ⟨x0,x1,x2,x3,x4,fz⟩:=cells5t HK.out.x
   go_upto_region 13 with (at_builtin;go_loud (refine wpl_intB rfl _ _ 44 rfl w.heap.size Tryz.info_i64 Tryz.underlying44 _ A rfl (HK.out.a.ext (zxa (Below.refl _ _) _)) a _ rfl ((cell_of_row _ _ 0 _ _ _ (heap_alloc_new _ _)).trans rfl) (by have:=HML.out;omega) (by have:=HBW.out.size;simp;omega) ?_;intro v3 w3 o3 g3 d3;have HL3:(A ++ [a]).length=m + 1:=(by rw [List.length_append,HML.out.1];rfl);obtain ⟨a3,c3,e3⟩:=o3.form;rw [HL3] at e3;subst e3;have H3:=zh ((HK.out.ext (zxa (Below.refl _ _) _)).setA o3 g3 d3);have HX3:=zh ((HK.out.ext (zxa (Below.refl _ _) _)).grew (.inl rfl) g3).1;have HL:=zh (DTr.low (HK.out.a.ext (zxa (Below.refl _ _) _)) (by have:=HBW.out.size;simp;omega) g3 HQL.out H3.out.2);have HBA:Hid (Below w.heap.size w (w2.alloc (.cells #[.int .i64 a] 3))):=zxa HBW.out _;clear o3 g3 d3 HL3 x0 x1 x2 x3 x4 fz;obtain ⟨x0,x1,x2,x3,x4,fz⟩:=cells5t HX3.out;(try dsimp only)))
   generalize hw4:World.setCell w3 _ _=w4 at H3 HL ⊢
   have HB4:Hid (Below w.heap.size w w4):=HBA.out.trans HL.out
   have HK4:=zh H3.out.1
   clear hw4 H3 HL HBA HX3 HK HBW x0 x1 x2 x3 x4 fz
   obtain ⟨x0,x1,x2,x3,x4,fz⟩:=cells5t HK4.out.x
   go_upto_region 14 with (at_builtin;go_loud (refine wpl_intB rfl _ _ 44 rfl w.heap.size Tryz.info_i64 Tryz.underlying44 _ T rfl (HK4.out.t.ext (zxa (Below.refl _ _) _)) (k:Int) _ rfl ((cell_of_row _ _ 0 _ _ _ (heap_alloc_new _ _)).trans rfl) (by have:=HML.out;omega) (by have:=HB4.out.size;simp;omega) ?_;intro v5 w5 o3 g3 d3;have HL3:(T ++ [(k:Int)]).length=m + 1:=(by rw [List.length_append,HML.out.2];rfl);obtain ⟨a5,c5,e3⟩:=o3.form;rw [HL3] at e3;subst e3;have H5:=zh ((HK4.out.ext (zxa (Below.refl _ _) _)).setT o3 g3 d3);have HX5:=zh ((HK4.out.ext (zxa (Below.refl _ _) _)).grew (.inr rfl) g3).1;have HL:=zh (DTr.low (HK4.out.t.ext (zxa (Below.refl _ _) _)) (by have:=HB4.out.size;simp;omega) g3 HQL.out H5.out.2);have HBA:Hid (Below w.heap.size w (w4.alloc (.cells #[.int .i64 (k:Nat)] 3))):=zxa HB4.out _;clear o3 g3 d3 HL3 x0 x1 x2 x3 x4 fz;obtain ⟨x0,x1,x2,x3,x4,fz⟩:=cells5t HX5.out;(try dsimp only)))
   generalize hw6:World.setCell w5 _ _=w6 at H5 HL ⊢
   have HB6:Hid (Below w.heap.size w w6):=HBA.out.trans HL.out
   have HK6:=zh H5.out.1
   clear hw6 H5 HL HBA HX5 HK4 HB4 x0 x1 x2 x3 x4 fz
   go_wp2_with fail
   go_roundw
   case rel=>exact ⟨k + n,c ++ [(a,(k:Int))],by omega,by go_num,HC'.out,by rw [List.length_append,← HM.out];simp;omega,⟨_,_,HK6.out.x,by rw [List.map_append,← HA.out];exact HK6.out.a,by rw [List.map_append,← HT.out];exact HK6.out.t,HK6.out.d⟩,HB6.out⟩
   case measure=>simp [intOf];omega
  ·have hke:k=zs.length:=by omega
   subst hke
   have HT:Hid (ctn enc 0 (Cx.dec enc zs)=c):=by unfold Hid;rw [HC.out,List.drop_length,Cx.dec_nil];simp [ctn]
   clear HC hlt
   go_wp2_with fail
   go_ret2
   exact .inr ⟨HE.out,q,rfl,by rw [HT.out];exact HD.out.1,by rw [HQ.out];exact Nat.le_refl _,HD.out.2⟩
open Go.RowKit
theorem rOpen_bad (enc lim:Int) (v:Value) (zs:List Int) (w:World) (h:Rd .u8 w v zs) (hE:opE enc lim zs.length≠0) :
  Calls Tryz.prog 41 #[.int .i64 enc,v,.int .i64 lim] w fun e w'=>Hid (OpX enc lim zs w e w'):=by
 have HE:=zh hE
 obtain ⟨ao,cap,rfl,hl1,hm1,_⟩:=h
 by_cases hk:Cx.known enc=true
 ·have he:=(Cx.known_iff enc).1 hk
  have g1:¬ enc < 1:=by omega
  have g2:¬ enc > 4:=by omega
  have g2':¬ 4 < enc:=by omega
  by_cases h3:lim < 0
  ·have HX:Hid (opE enc lim zs.length=1):=by unfold Hid opE;rw [if_pos hk,if_pos (.inl h3)]
   clear hE hk he
   go_enter Tryz.func41,Tryz.ntmps41
   go_wp2_with fail
   go_ret2
   exact .inl ⟨HE.out,by rw [HX.out];rfl,Below.refl _ _⟩
  ·by_cases h4:lim > 65536
   ·have HX:Hid (opE enc lim zs.length=1):=by unfold Hid opE;rw [if_pos hk,if_pos (.inr h4)]
    have h4':65536 < lim:=h4
    clear hE hk he
    go_enter Tryz.func41,Tryz.ntmps41
    go_wp2_with fail
    go_ret2
    exact .inl ⟨HE.out,by rw [HX.out];rfl,Below.refl _ _⟩
   ·have h4':¬ 65536 < lim:=h4
    have h5:(zs.length:Int) > lim:=by
     unfold opE at hE
     rw [if_pos hk,if_neg (by omega)] at hE
     by_cases q:lim < (zs.length:Int)
     ·exact q
     ·rw [if_neg q] at hE;exact absurd rfl hE
    have h5':lim < (zs.length:Int):=h5
    have HX:Hid (opE enc lim zs.length=50):=by unfold Hid opE;rw [if_pos hk,if_neg (by omega),if_pos h5']
    clear hE hk he
    go_enter Tryz.func41,Tryz.ntmps41
    go_wp2_with fail
    go_ret2
    exact .inl ⟨HE.out,by rw [HX.out];rfl,Below.refl _ _⟩
 ·have HX:Hid (opE enc lim zs.length=10):=by unfold Hid opE;rw [if_neg hk]
  have hno:enc < 1∨4 < enc:=by
   by_cases q:enc=1∨enc=2∨enc=3∨enc=4
   ·exact absurd ((Cx.known_iff enc).2 q) hk
   ·omega
  clear hE hk
  by_cases g1:enc < 1
  ·clear hno
   go_enter Tryz.func41,Tryz.ntmps41
   go_wp2_with fail
   go_ret2
   exact .inl ⟨HE.out,by rw [HX.out];rfl,Below.refl _ _⟩
  ·have g2:enc > 4:=by omega
   have g2':4 < enc:=g2
   clear hno
   go_enter Tryz.func41,Tryz.ntmps41
   go_wp2_with fail
   go_ret2
   exact .inl ⟨HE.out,by rw [HX.out];rfl,Below.refl _ _⟩
theorem rOpen_any (enc lim:Int) (v:Value) (zs:List Int) (w:World) (h:Rd .u8 w v zs) (hB:Byt zs):Calls Tryz.prog 41 #[.int .i64 enc,v,.int .i64 lim] w fun e w'=>Hid (OpX enc lim zs w e w'):=by
 by_cases hE:opE enc lim zs.length=0
 ·exact rOpen_good enc lim v zs w h hB hE
 ·exact rOpen_bad enc lim v zs w h hE
open Go.RowKit
def OpL (enc lim:Int) (zs:List Int) (w:World) (e:Ending) (w':World):Prop:=∃ (t:Nat) (ps:List PG),e=.returned (.tuple #[.pointer (some ⟨t,0,none⟩),.int .i64 0])∧(Tx enc lim zs w' t ps∧sh enc ps=ctn enc 0 (Cx.dec enc zs)∧w.heap.size≤t)∧Below w.heap.size w w'∧∀ w'':World,(∀ b,w.heap.size≤b→Typ 5 w' b→w''.heap[b]?=w'.heap[b]?)→(∀ b,Typ 163 w' b→w''.heap[b]?=w'.heap[b]?)→(∀ b,Typ 92 w' b→w''.heap[b]?=w'.heap[b]?)→Tx enc lim zs w'' t ps
set_option maxHeartbeats 2000000 in
theorem Open_low (enc lim:Int) (v:Value) (zs:List Int) (w:World) (h:Rd .u8 w v zs) (hB:Byt zs) (hE:opE enc lim zs.length=0) :
  Calls Tryz.prog 22 #[.int .i64 enc,v,.int .i64 lim] w fun e w'=>OpL enc lim zs w e w':=by
 have hk:Cx.known enc=true:=by
  by_cases e:Cx.known enc=true
  ·exact e
  ·unfold opE at hE;rw [if_neg e] at hE;omega
 have hm:¬ (lim < 0∨65536 < lim):=fun e=>by unfold opE at hE;rw [if_pos hk,if_pos e] at hE;omega
 have hf:¬ lim < (zs.length:Int):=fun e=>by unfold opE at hE;rw [if_pos hk,if_neg hm,if_pos e] at hE;omega
 have he:Cx.En enc:=(Cx.known_iff enc).1 hk
 have her:Cx.er enc=0:=by unfold Cx.er;rw [if_pos hk]
 have h0:¬ lim < 0:=fun e=>hm (.inl e)
 have h1:¬ 65536 < lim:=fun e=>hm (.inr e)
 have D0:=zh (Decode_any enc (.slice none 0 0) [] w (rd_none w) (fun z hz=>by cases hz) (by simp))
 rw [her] at D0
 obtain ⟨bk1,bk2⟩:=Cx.back_all enc he _ zs (Nat.le_refl _) hB
 have CO:Hid (∀ w',Below w.heap.size w w'→Calls Tryz.prog 50 #[v] w' fun e w''=>e=.returned (.slice (some ⟨w'.heap.size,0,none⟩) zs.length zs.length)∧w''.heap[w'.heap.size]?=some (.cells (zs.map (Value.int .u8)).toArray 5 (0,0))∧Below w'.heap.size w' w''):=fun w' hb=>copyOf_any v zs w' (h.ext hb) (by omega)
 have D1:Hid (∀ w' b,RwU w' b 0 zs→Calls Tryz.prog 49 #[.int .i64 enc,.slice (some ⟨b,0,none⟩) zs.length zs.length] w' fun e w''=>∃ v',e=.returned (.tuple #[v',.int .i64 0])∧w''.ownsRow w'.heap.size 3 1 v' (Cx.dec enc zs).length ((Cx.dec enc zs).map (Value.int .i64))∧Below w'.heap.size w' w''):=fun w' b hr=>by
  have:=Decode_any enc _ zs w' (hr.rd zs.length (Nat.le_refl _) (by omega)) hB (by omega)
  rw [her,Cx.dd_yes enc zs hk] at this
  exact this
 have hdl:(Cx.dec enc zs).length≤zs.length:=Cx.dec_len enc _ _
 have CT:Hid (∀ w' b va,RwU w' b 0 zs→Rd .i64 w' va (Cx.dec enc zs)→Calls Tryz.prog 52 #[.int .i64 enc,va,.slice (some ⟨b,0,none⟩) zs.length zs.length] w' fun e w''=>∃ v gs,e=.returned v∧Hid (gs.flatten=Cx.dec enc zs∧(∀ g ∈ gs,Gr enc g)∧OwnR w'' w'.heap.size 97 v (mks enc b 0 0 gs))∧Below w'.heap.size w' w''):=fun w' b va hr ha =>
  cut_any enc he va _ (Cx.dec enc zs) b 0 w' ha bk2 (by rw [bk1];exact hr.rd zs.length (Nat.le_refl _) (by omega)) (fun _ p n c e=>by cases e;rfl) (by omega)
 obtain ⟨ao,cap,rfl,_⟩:=h
 have HK:=zh hk
 have HBZ:=zh hB
 have HEN:=zh he
 have HLM:=zh (show 0≤lim∧lim≤65536∧zs.length≤65536 by omega)
 have HBK:=zh bk1
 clear hk hm hE her hB he bk1 bk2
 go_enter Tryz.func22,Tryz.ntmps22
 go_upto_region 8 with (go_at_call 49;refine D0.out.mono ?_;rintro e w1 ⟨v1,rfl,_,hb⟩;have HB1:=zh hb;clear hb;(try dsimp only))
 go_upto_region 9 with (go_at_call 50;refine (CO.out w1 HB1.out).mono ?_;rintro e w2 ⟨rfl,hrw,hb⟩;have HR2:=zh (RwU.of hrw);have HB2:=zh hb;clear hb hrw;(try dsimp only))
 go_upto_region 10 with (go_at_call 49;refine (D1.out w2 w1.heap.size HR2.out).mono ?_;rintro e w3 ⟨v3,rfl,hv3,hb⟩;have HV3:=zh hv3;have HB3:=zh hb;clear hb hv3;(try dsimp only))
 go_upto_region 11 with (first
  | (go_at_call 52;refine (CT.out w3 w1.heap.size v3 (HR2.out.ext HB3.out) (Rd.of_own HV3.out)).mono ?_;rintro e w4 ⟨v4,gs,rfl,HG4,hb⟩;have HB4:=zh hb;clear hb;(try dsimp only))
  | (go_at_call 51;refine (Of_any v4 _ w4 HG4.out.2.2.rd (op_wt HG4.out.1 HG4.out.2.1 HBK.out HLM.out.2.2)).mono ?_;rintro e w5 ⟨u,rfl,ht,hb⟩;have HT5:=zh ht;have HB5:=zh hb;clear ht hb;(try dsimp only)))
 have FIN:Hid (∀ W t,RwU W w1.heap.size 0 zs→TT W (.agg #[.pointer u]) (mks enc w1.heap.size 0 0 gs)→W.heap[t]?=some (.cells #[.int .i64 enc,.int .i64 lim,.slice (some ⟨w1.heap.size,0,none⟩) zs.length zs.length,.pointer u] 92 (0,0))→Tx enc lim zs W t (mkp enc w1.heap.size 0 0 gs)):=fun W t r hT ht=>by
  have hp:=mkp_pcs enc HEN.out zs HBZ.out W w1.heap.size 0 r gs 0 HG4.out.2.1 (by rw [List.drop_zero,HG4.out.1]) (Nat.zero_le _)
  refine ⟨⟨_,u,ht,⟨_,_,_,rfl,Nat.le_refl _,by omega,r⟩,?_⟩,hp,HEN.out,HBZ.out,HLM.out.2.2,HLM.out.1,HLM.out.2.1,?_⟩
  ·rw [mkp_xs];exact hT
  ·rw [mkp_as,HG4.out.1]
   unfold ln
   rw [HBK.out]
   exact HLM.out.2.2
 have HSH:=zh (show sh enc (mkp enc w1.heap.size 0 0 gs)=ctn enc 0 (Cx.dec enc zs) by rw [mkp_sh,HG4.out.1];rfl)
 have HBW:=zh (zxt (zxt (zxt (zxt HB1.out HB2.out) HB3.out) HB4.out) HB5.out)
 go_wp2_with fail
 go_ret2
 have hr5:=((HR2.out.ext HB3.out).ext HB4.out).ext HB5.out
 have hx:=zxa (zxa (Below.refl w5.heap.size w5) (.cells #[.pointer u] 90)) (.cells #[.int .i64 enc,.int .i64 lim,.slice (some ⟨w1.heap.size,0,none⟩) zs.length zs.length,.pointer u] 92)
 have hrx:=hr5.ext hx
 have htx:=HT5.out.ext hx
 have hnew:((w5.alloc (.cells #[.pointer u] 90)).alloc (.cells #[.int .i64 enc,.int .i64 lim,.slice (some ⟨w1.heap.size,0,none⟩) zs.length zs.length,.pointer u] 92)).heap[w5.heap.size + 1]?=some (.cells #[.int .i64 enc,.int .i64 lim,.slice (some ⟨w1.heap.size,0,none⟩) zs.length zs.length,.pointer u] 92 (0,0)):=by
  rw [← alloc_size w5 (.cells #[.pointer u] 90)]
  exact heap_alloc_new _ _
 refine ⟨_,mkp enc w1.heap.size 0 0 gs,rfl,⟨FIN.out _ _ hrx htx hnew,HSH.out,?_⟩,zxa (zxa HBW.out _) _,fun w'' f1 f2 f3=>FIN.out _ _ (hrx.same (f1 _ HB1.out.size hrx.typ)) (htx.same f2) ((f3 _ ⟨_,hnew⟩).trans hnew)⟩
 have:=HBW.out.size
 omega
end Go.Proofs.YtdhciadajendnaaGreat.P
