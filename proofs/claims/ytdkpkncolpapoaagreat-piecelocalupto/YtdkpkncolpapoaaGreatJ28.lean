import Derived.Test.YtdkpkncolpapoaaGreatJ00
import Derived.Test.YtdkpkncolpapoaaGreatJ07
import Derived.Test.YtdkpkncolpapoaaGreatJ06
import Derived.Test.YtdkpkncolpapoaaGreatJ20
import Derived.Test.YtdkpkncolpapoaaGreatJ12
import Derived.Test.YtdkpkncolpapoaaGreatJ21
import Derived.Test.YtdkpkncolpapoaaGreatJ08
import Derived.Test.YtdkpkncolpapoaaGreatJ27
import Derived.Test.YtdkpkncolpapoaaGreatJ25
import Derived.Deep.RegionHeld3
import Derived.ProofKit
import Derived.OpenShut
import Derived.ChangeOld
import Derived.SizedLaws
import Derived.Below
namespace Go.Proofs.YtdkpkncolpapoaaGreat.P
open Go.RowKit
set_option maxRecDepth 100000 in
theorem known_yes (enc:Int) (la:Option Addr) (n lc:Nat) (w:World) (h:1≤enc∧enc≤4∧n≤65536):Calls Tryz.prog 25 #[.int .i64 enc,.slice la n lc] w fun e w'=>e=.returned (.bool true)∧w'=w:=by
 obtain ⟨h1,h2,h3⟩:=h
 have h3':(n:Int)≤65536:=by omega
 go_enter Tryz.func25,Tryz.ntmps25
 go_wp2_with fail
 go_ret
 exact ⟨rfl,rfl⟩
set_option maxRecDepth 100000 in
theorem known_no (enc:Int) (la:Option Addr) (n lc:Nat) (w:World) (hn:n≤9223372036854775807) (h:¬ (1≤enc∧enc≤4∧n≤65536)):Calls Tryz.prog 25 #[.int .i64 enc,.slice la n lc] w fun e w'=>e=.returned (.bool false)∧w'=w:=by
 by_cases h1:1≤enc
 ·by_cases h2:enc≤4
  ·have h3':¬ (n:Int)≤65536:=by omega
   clear h
   go_enter Tryz.func25,Tryz.ntmps25
   go_wp2_with fail
   go_ret
   exact ⟨rfl,rfl⟩
  ·clear h
   go_enter Tryz.func25,Tryz.ntmps25
   go_wp2_with fail
   go_ret
   exact ⟨rfl,rfl⟩
 ·clear h
  go_enter Tryz.func25,Tryz.ntmps25
  go_wp2_with fail
  go_ret
  exact ⟨rfl,rfl⟩
end Go.Proofs.YtdkpkncolpapoaaGreat.P

namespace Go.Proofs.YtdkpkncolpapoaaGreat.P
open Go.RowKit
structure KS where
 s:Nat
 qs:List PG
 aa:Option Addr
 ca:Nat
 ta:Option Addr
 ct:Nat
 b:Nat
def KS.ptr (k:KS):Value:=.pointer (some ⟨k.s,0,none⟩)
def KS.cs (enc:Int) (k:KS):List Value:=[.slice k.aa (asOf k.qs).length k.ca,.slice k.ta (asOf k.qs).length k.ct,.slice (some ⟨k.b,0,none⟩) (ln enc (asOf k.qs)) (ln enc (asOf k.qs))]
structure KOk (enc:Int) (L:List Int) (base t:Nat) (w:World) (k:KS):Prop where
 sn:Sn enc L w k.s t k.qs
 oa:OwnI w base (.slice k.aa (asOf k.qs).length k.ca) (asOf k.qs)
 ot:OwnI w base (.slice k.ta (asOf k.qs).length k.ct) ((sh enc k.qs).map Prod.snd)
 ob:RwU w k.b 0 (Cx.encB enc (asOf k.qs))
theorem KOk.same {enc:Int} {L:List Int} {base t:Nat} {w w':World} {k:KS} (h:KOk enc L base t w k) (h1:∀ b,Typ 5 w b→w'.heap[b]?=w.heap[b]?) (h2:∀ b,Typ 182 w b→w'.heap[b]?=w.heap[b]?) (h3:∀ b,Typ 150 w b→w'.heap[b]?=w.heap[b]?) (h4:∀ b,Typ 3 w b→w'.heap[b]?=w.heap[b]?):KOk enc L base t w' k :=
 ⟨h.sn.same h1 h2 h3,ownsRow_same h.oa h4,ownsRow_same h.ot h4,h.ob.same (h1 _ h.ob.typ)⟩
structure BkI (enc:Int) (L:List Int) (w:World) (t:Nat) (ks:List KS) (kv sv:Value) (qs:List PG) (wr:World):Prop where
 tx:Tx enc 65536 L wr t qs
 each:∀ k ∈ ks,KOk enc L w.heap.size t wr k
 kr:wr.ownsRow w.heap.size 71 1 kv ks.length (ks.map KS.ptr)
 sr:wr.ownsRow w.heap.size 36 3 sv ks.length (ks.flatMap (KS.cs enc))
 bel:Below w.heap.size w wr
 tl:w.heap.size≤t
theorem BkI.ext {enc:Int} {L:List Int} {w:World} {t:Nat} {ks:List KS} {kv sv:Value} {qs:List PG} {wr w':World} (h:BkI enc L w t ks kv sv qs wr) (hb:Below wr.heap.size wr w'):BkI enc L w t ks kv sv qs w' :=
 have hst:∀ T,∀ b,Typ T wr b→w'.heap[b]?=wr.heap[b]?:=fun _ b hb'=>hb.block b hb'.lt
 ⟨h.tx.ext hb,fun k hk=>(h.each k hk).same (hst _) (hst _) (hst _) (hst _),ownsRow_same h.kr (hst _),ownsRow_same h.sr (hst _),ext_trans h.bel hb,h.tl⟩
theorem BkI.kps {enc:Int} {L:List Int} {w:World} {t:Nat} {ks:List KS} {kv sv:Value} {qs qs':List PG} {wr w':World} (h:BkI enc L w t ks kv sv qs wr) (hk:Kps (fun k=>k=t) wr w') (hT:Tx enc 65536 L w' t qs'):BkI enc L w t ks kv sv qs' w':=by
 have ht:=h.tx.typ0
 have hst:∀ T,T≠116→∀ b,Typ T wr b→w'.heap[b]?=wr.heap[b]?:=fun T hT b hb=>hk.same b hb.lt (fun e=>hT (by subst e;exact hb.uniq ht))
 exact ⟨hT,fun k hk'=>(h.each k hk').same (hst _ (by decide)) (hst _ (by decide)) (hst _ (by decide)) (hst _ (by decide)),ownsRow_same h.kr (hst _ (by decide)),ownsRow_same h.sr (hst _ (by decide)),h.bel.trans (hk.below h.bel.size (fun k e=>by have:=h.tl;omega)),h.tl⟩
theorem BkI.grown {enc:Int} {L:List Int} {w:World} {t:Nat} {ks:List KS} {kv sv:Value} {qs:List PG} {wr w':World} (h:BkI enc L w t ks kv sv qs wr) (v:Value) (T:TypeId) (hT:∀ g,v.ownBlock=some g→Typ T wr g∧w.heap.size≤g) (hg:wr.grownBy w' v.ownBlock) (h1:116≠T) (h2:5≠T) (h3:182≠T) (h4:150≠T) (h5:3≠T) :
  Tx enc 65536 L w' t qs∧(∀ k ∈ ks,KOk enc L w.heap.size t w' k)∧Below w.heap.size w w'∧(71≠T→w'.ownsRow w.heap.size 71 1 kv ks.length (ks.map KS.ptr))∧(36≠T→w'.ownsRow w.heap.size 36 3 sv ks.length (ks.flatMap (KS.cs enc)))∧∀ U,U≠T→∀ b,Typ U wr b→w'.heap[b]?=wr.heap[b]?:=by
 have hst:∀ U,U≠T→∀ b,Typ U wr b→w'.heap[b]?=wr.heap[b]?:=fun U hU b hb=>hg.block b hb.lt (fun e=>hU (hb.uniq (hT b e.symm).1))
 exact ⟨h.tx.same (hst _ h2) (hst _ h3) (hst _ h1),fun k hk=>(h.each k hk).same (hst _ h2) (hst _ h3) (hst _ h4) (hst _ h5),Below.grown h.bel hg h.bel.size (fun k e=>(hT k e).2),fun hn=>ownsRow_same h.kr (hst _ hn),fun hn=>ownsRow_same h.sr (hst _ hn),hst⟩
theorem BkI.at {enc:Int} {L:List Int} {w:World} {t n:Nat} {ks:List KS} {ka sa:Option Addr} {kc sc:Nat} {qs:List PG} {wr:World} (h:BkI enc L w t ks (.slice ka n kc) (.slice sa n sc) qs wr) (i:Nat) (k:KS) (hk:ks[i]?=some k):∃ gk gs,ka=some ⟨gk,0,none⟩∧sa=some ⟨gs,0,none⟩∧wr.cell? ⟨gk,i,none⟩=some k.ptr∧wr.cell? ⟨gs,i * 3,none⟩=some (.slice k.aa (asOf k.qs).length k.ca)∧wr.cell? ⟨gs,i * 3 + 1,none⟩=some (.slice k.ta (asOf k.qs).length k.ct)∧wr.cell? ⟨gs,i * 3 + 2,none⟩=some (.slice (some ⟨k.b,0,none⟩) (ln enc (asOf k.qs)) (ln enc (asOf k.qs)))∧n≤kc∧n≤sc∧kc≤9223372036854775807∧sc≤9223372036854775807:=by
 have hi:=(List.getElem?_eq_some_iff.1 hk).1
 have h1:=h.kr
 have h2:=h.sr
 rcases h1.2 with ⟨_,e⟩ | ⟨gk,c1,cur1,hv1,_,_,hc1,hm1,_⟩
 ·omega
 rcases h2.2 with ⟨_,e⟩ | ⟨gs,c2,cur2,hv2,_,_,hc2,hm2,_⟩
 ·omega
 simp only [Value.slice.injEq] at hv1 hv2
 obtain ⟨rfl,rfl,rfl⟩:=hv1
 obtain ⟨rfl,_,rfl⟩:=hv2
 obtain ⟨f0,f1,f2⟩:=fm3 (fun k:KS=>Value.slice k.aa (asOf k.qs).length k.ca) (fun k:KS=>Value.slice k.ta (asOf k.qs).length k.ct) (fun k:KS=>Value.slice (some ⟨k.b,0,none⟩) (ln enc (asOf k.qs)) (ln enc (asOf k.qs))) ks i k hk
 unfold maxLen at hm1 hm2
 exact ⟨gk,gs,rfl,rfl,(h1.cellAt i (by omega)).trans (by rw [List.getElem?_map,hk];rfl),(h2.cellAt _ (by omega)).trans f0,(h2.cellAt _ (by omega)).trans f1,(h2.cellAt _ (by omega)).trans f2,hc1,hc2,hm1,hm2⟩
end Go.Proofs.YtdkpkncolpapoaaGreat.P

namespace Go.Proofs.YtdkpkncolpapoaaGreat
open Go.ChangeShapes Go.WideShapes Go.ChangeAt Go.RowKit
theorem ownK:ownKnob Tryz.prog.godebug=none:=by kernel_rfl
theorem laidOutK:laidOutB Tryz.prog=true:=by kernel_rfl
theorem rd_of {H:Type} {enc:TypeId × Value→H} {W:World} {t e:TypeId} {k:IntKind} {a0:Option Addr} {len0 cap0:Nat} {d:DataW H} {p:List MemPlace}
  (ht:Tryz.prog.underlying t=some (.slice e)) (he:Tryz.prog.underlying e=some (.int k)) (hc:Tryz.prog.cellsOf e=1)
  (h:DataW.Trod enc Tryz.prog W 0 (fun _=>true) true t (.slice a0 len0 cap0) d p) :
  ∃ zs,Rd k W (.slice a0 len0 cap0) zs∧(∀ n ∈ zs,(Lit.int k n).wf=true)∧(zs=[]∨∃ el sp,d=.slice el sp∧el.length=zs.length):=by
 obtain ⟨fuel,hf⟩:=h
 rcases open_ints ht he hc hf with ⟨hcs,_⟩ | ⟨x,l,c,zs,hcs,_,hl,hm,hz,hx,hcell,hwz⟩
 ·simp [Value.cells] at hcs
  obtain ⟨rfl,rfl,rfl⟩:=hcs
  exact ⟨[],⟨none,0,rfl,Nat.le_refl _,by simp [maxLen],fun h=>absurd rfl h⟩,by simp,.inl rfl⟩
 ·simp [Value.cells] at hcs
  obtain ⟨rfl,rfl,rfl⟩:=hcs
  simp at hz
  have hlen:(zs.take len0).length=len0:=by rw [List.length_take];omega
  refine ⟨zs.take len0,⟨some x,cap0,by rw [hlen],by omega,hm,fun hn=>?_⟩,fun n hn=>hwz n (List.mem_of_mem_take hn),.inr ⟨_,_,(Prod.mk.inj hx).1,by simp [lits]⟩⟩
  have hpos:0 < len0:=by
   rcases Nat.eq_zero_or_pos len0 with h | h
   ·subst h;simp at hn
   ·exact h
  obtain ⟨b,off,spot⟩:=x
  have hc0:=hcell 0 (by omega)
  have hspot:spot=none:=by simpa [Addr.add] using World.cell?_spot hc0
  subst hspot
  refine ⟨b,off,rfl,World.block_lt_of_cell? W _ (by simpa [Addr.add] using hc0),fun i hi=>?_⟩
  rw [hlen] at hi
  have:=hcell i (by omega)
  rw [Addr.add_lit] at this
  rw [this,List.getElem?_take,if_pos hi]
  simp [List.getD]
theorem byt_of {zs:List Int} (h:∀ n ∈ zs,(Lit.int .u8 n).wf=true):Byt zs:=by
 intro z hz
 have:=bounds_u8 (h z hz)
 omega
end Go.Proofs.YtdkpkncolpapoaaGreat

namespace Go.Proofs.YtdkpkncolpapoaaGreat.P
open Go.RowKit
def tgd (l:List (Int × Int)):List (Int × Int):=l.filter fun x=>x.2 != -1
theorem tgd_app (a b:List (Int × Int)):tgd (a ++ b)=tgd a ++ tgd b:=by unfold tgd;exact List.filter_append ..
theorem tgd_new (p:List Int):tgd (p.map fun a=>(a,(-1:Int)))=[]:=by
 induction p with
 | nil=>rfl
 | cons a p ih=>unfold tgd at *;rw [List.map_cons,List.filter_cons_of_neg (by simp)];exact ih
theorem tgd_ap (l:List (Int × Int)):∀ (es:List Ed) (p:Nat),rg l.length p es=true→(tgd (apE l p es)).Sublist (tgd (l.drop p)):=by
 intro es
 induction es with
 | nil=>intro p _;exact List.Sublist.refl _
 | cons e es ih =>
   intro p h
   rw [rg_cons] at h
   obtain ⟨⟨h1,h2,h3⟩,h4⟩:=h
   have k:=ih e.2.1.toNat (by rwa [Int.toNat_of_nonneg (by omega)])
   have e1:tgd (l.drop p)=tgd ((l.drop p).take (e.1.toNat - p)) ++ tgd (l.drop e.1.toNat):=by
    rw [← tgd_app]
    have:l.drop e.1.toNat=(l.drop p).drop (e.1.toNat - p):=by rw [List.drop_drop];congr 1;omega
    rw [this,List.take_append_drop]
   have e2:l.drop e.2.1.toNat=(l.drop e.1.toNat).drop (e.2.1.toNat - e.1.toNat):=by rw [List.drop_drop];congr 1;omega
   rw [apE,tgd_app,tgd_app,tgd_new,List.append_nil,e1]
   refine List.Sublist.append (List.Sublist.refl _) (k.trans ?_)
   rw [e2]
   exact (List.drop_sublist _ _).filter _
theorem tgd_ch (enc lim:Int) (l:List (Int × Int)) (es:List Ed):(tgd (chT enc lim l es)).Sublist (tgd l):=by
 unfold chT
 split
 ·rename_i h
  have hc:ckA enc lim l.length es=0:=by
   unfold chA at h
   split at h
   ·assumption
   ·exact h
  have:=tgd_ap l es 0 (ck_zero hc).2.1
  rwa [List.drop_zero] at this
 ·exact List.Sublist.refl _
theorem ctn_mem (enc:Int):∀ (g:List Int) (pl:Int),0≤pl→∀ x ∈ ctn enc pl g,∃ a b:List Int,g=a ++ x.1 :: b∧x.2=pl + (ln enc a:Nat):=by
 intro g
 induction g with
 | nil=>intro pl _ x hx;simp [ctn] at hx
 | cons a0 g ih =>
   intro pl h x hx
   rw [ctn,List.mem_cons] at hx
   rcases hx with rfl | hx
   ·exact ⟨[],g,rfl,by rw [ln_nil];simp⟩
   ·have ht:tg pl ((Cx.put enc a0).length:Nat)=pl + ((Cx.put enc a0).length:Nat):=by unfold tg;rw [if_neg (by omega)]
    rw [ht] at hx
    obtain ⟨a,b,h1,h2⟩:=ih _ (by omega) x hx
    refine ⟨a0 :: a,b,by rw [h1];rfl,?_⟩
    rw [h2,ln_cons]
    omega
theorem ctn_rise (enc:Int):∀ (g:List Int) (pl:Int),0≤pl→(ctn enc pl g).Pairwise (fun x y=>x.2 < y.2):=by
 intro g
 induction g with
 | nil=>intro pl _;exact List.Pairwise.nil
 | cons a0 g ih =>
   intro pl h
   have ht:tg pl ((Cx.put enc a0).length:Nat)=pl + ((Cx.put enc a0).length:Nat):=by unfold tg;rw [if_neg (by omega)]
   rw [ctn,ht]
   refine List.Pairwise.cons (fun y hy=>?_) (ih _ (by omega))
   obtain ⟨a,b,_,h2⟩:=ctn_mem enc g _ (by omega) y hy
   have:=(Cx.put_len enc a0).1
   rw [h2]
   show pl < _
   omega
def Fai (enc:Int) (L:List Int) (l:List (Int × Int)):Prop:=(tgd l).Sublist (ctn enc 0 (Cx.dec enc L))
theorem Fai.first (enc:Int) (L:List Int):Fai enc L (ctn enc 0 (Cx.dec enc L)):=List.filter_sublist
theorem Fai.ch {enc:Int} {L:List Int} {l:List (Int × Int)} (h:Fai enc L l) (lim:Int) (es:List Ed):Fai enc L (chT enc lim l es):=(tgd_ch enc lim l es).trans h
theorem Fai.at {enc:Int} (he:Cx.En enc) {L:List Int} (hB:Byt L) {l:List (Int × Int)} (h:Fai enc L l) (x:Int × Int) (hx:x ∈ l) (hn:x.2≠-1):∃ k:Nat,x.2=(k:Int)∧k + (Cx.put enc x.1).length≤L.length∧(L.drop k).take (Cx.put enc x.1).length=Cx.put enc x.1:=by
 have hm:x ∈ ctn enc 0 (Cx.dec enc L):=h.subset (by unfold tgd;rw [List.mem_filter];exact ⟨hx,by simpa using hn⟩)
 obtain ⟨a,b,h1,h2⟩:=ctn_mem enc _ 0 (Int.le_refl _) x hm
 have hb:=(Cx.back_all enc he L.length L (Nat.le_refl _) hB).1
 rw [h1,Cx.encB_app,Cx.encB_cons] at hb
 refine ⟨ln enc a,by rw [h2];omega,?_,?_⟩
 ·have:=congrArg List.length hb
  rw [List.length_append,List.length_append] at this
  show (Cx.encB enc a).length + _≤_
  omega
 ·rw [← hb,show ln enc a=(Cx.encB enc a).length from rfl,List.drop_left,List.take_left]
theorem Fai.rise {enc:Int} {L:List Int} {l:List (Int × Int)} (h:Fai enc L l) (i:Nat) (x:Int × Int) (hx:l[i]?=some x) (hn:x.2≠-1):∀ y ∈ l.drop (i + 1),y.2≠-1→x.2 < y.2:=by
 have hp:(tgd l).Pairwise (fun x y=>x.2 < y.2):=(ctn_rise enc _ 0 (Int.le_refl _)).sublist h
 have hi:=(List.getElem?_eq_some_iff.1 hx).1
 have hl:l=l.take i ++ x :: l.drop (i + 1):=by
  have e:l.drop i=x :: l.drop (i + 1):=by
   rw [List.drop_eq_getElem_cons hi]
   congr 1
   exact (List.getElem?_eq_some_iff.1 hx).2
  rw [← e,List.take_append_drop]
 intro y hy hyn
 rw [hl,tgd_app,List.pairwise_append] at hp
 have h2:=hp.2.1
 have e2:tgd (x :: l.drop (i + 1))=x :: tgd (l.drop (i + 1)):=by unfold tgd;rw [List.filter_cons_of_pos (by simpa using hn)]
 rw [e2,List.pairwise_cons] at h2
 exact h2.1 y (by unfold tgd;rw [List.mem_filter];exact ⟨hy,by simpa using hyn⟩)
end Go.Proofs.YtdkpkncolpapoaaGreat.P

namespace Go.Proofs.YtdkpkncolpapoaaGreat.P
open Go.RowKit
theorem rd_at {k:IntKind} {w:World} {ao:Option Addr} {n c:Nat} {zs:List Int} (h:Rd k w (.slice ao n c) zs) (i:Nat) (hi:i < zs.length):∃ b o,ao=some ⟨b,o,none⟩∧b < w.heap.size∧w.cell? ⟨b,o + i,none⟩=some (.int k (zs[i]?.getD 0))∧n≤c:=by
 obtain ⟨ao',c',e1,h1,_,h3⟩:=h
 simp only [Value.slice.injEq] at e1
 obtain ⟨rfl,rfl,rfl⟩:=e1
 obtain ⟨b,o,rfl,hb,hc⟩:=h3 (by intro e;subst e;simp at hi)
 exact ⟨b,o,rfl,hb,hc i hi,h1⟩
end Go.Proofs.YtdkpkncolpapoaaGreat.P

namespace Go.Proofs.YtdkpkncolpapoaaGreat.P
open Go.RowKit
def EdL (w:World) (v:Value) (ess:List (List Ed)):Prop :=
 ∃ ao cap,v=.slice ao ess.length cap∧ess.length≤cap∧cap≤9223372036854775807∧∀ i es,ess[i]?=some es→∃ b o ea ec,ao=some ⟨b,o,none⟩∧b < w.heap.size∧w.cell? ⟨b,o + i,none⟩=some (.slice ea es.length ec)∧EdR w (.slice ea es.length ec) es∧Bnd es
theorem rd8_kpt {enc lim:Int} {L:List Int} {w w':World} {t:Nat} {ps:List PG} (h:Tx enc lim L w t ps) (hk:Kps (fun k=>k=t) w w') {v:Value} {zs:List Int} (hr:Rd .u8 w v zs):Rd .u8 w' v zs:=by
 obtain ⟨ao,cap,h1,h2,h3,h4⟩:=hr
 refine ⟨ao,cap,h1,h2,h3,fun hn=>?_⟩
 obtain ⟨b,off,k1,k2,k3⟩:=h4 hn
 have hbt:b≠t:=fun e=>by
  subst e
  obtain ⟨lv,u,m1,m2,_⟩:=h.ex
  have c:=k3 0 (List.length_pos_iff.2 hn)
  rw [cell_of_row w b _ _ _ _ m1,Nat.add_zero] at c
  obtain ⟨bl,ol,cl,rfl,_⟩:=m2
  match off with
  | 0=>simp at c
  | 1=>simp at c
  | 2=>simp at c
  | 3=>simp at c
  | n + 4=>simp at c
 refine ⟨b,off,k1,Nat.lt_of_lt_of_le k2 hk.size,fun i hi=>?_⟩
 rw [← k3 i hi]
 exact World.cell?_of_block (hk.same b k2 hbt)
structure FtI (enc:Int) (L:List Int) (w:World) (t s bx:Nat) (ps0 ps:List PG) (va vt vb:Value) (wr:World):Prop where
 tx:Tx enc 65536 L wr t ps
 fai:Fai enc L (sh enc ps)
 sn:Sn enc L wr s t ps0
 blk:wr.heap[bx]?=some (.cells #[va,vt,vb] 36 (0,0))
 oa:OwnI wr w.heap.size va (asOf ps0)
 ot:OwnI wr w.heap.size vt ((sh enc ps0).map Prod.snd)
 ob:Rd .u8 wr vb (Cx.encB enc (asOf ps0))
 bel:Below w.heap.size w wr
 tl:w.heap.size≤t
theorem FtI.ext {enc:Int} {L:List Int} {w:World} {t s bx:Nat} {ps0 ps:List PG} {va vt vb:Value} {wr w':World} (h:FtI enc L w t s bx ps0 ps va vt vb wr) (hb:Below wr.heap.size wr w'):FtI enc L w t s bx ps0 ps va vt vb w' :=
 ⟨h.tx.ext hb,h.fai,h.sn.ext hb,(hb.block _ (Array.getElem?_eq_some_iff.1 h.blk).1).trans h.blk,h.oa.ext hb,h.ot.ext hb,h.ob.ext hb,ext_trans h.bel hb,h.tl⟩
theorem OwnI.kpt0 {w w':World} {base t:Nat} {v:Value} {zs:List Int} (h:OwnI w base v zs) (hk:Kps (fun k=>k=t) w w') (ht:Typ 116 w t):OwnI w' base v zs :=
 ownsRow_same h fun b hb=>hk.same b hb.lt (fun e=>by subst e;exact absurd (hb.uniq ht) (by decide))
theorem FtI.kps {enc:Int} {L:List Int} {w:World} {t s bx:Nat} {ps0 ps ps':List PG} {va vt vb:Value} {wr w':World} (h:FtI enc L w t s bx ps0 ps va vt vb wr) (hk:Kps (fun k=>k=t) wr w') (hT:Tx enc 65536 L w' t ps') (hF:Fai enc L (sh enc ps')):FtI enc L w t s bx ps0 ps' va vt vb w':=by
 have ht:=h.tx.typ0
 have hst:∀ T,T≠116→∀ b,Typ T wr b→w'.heap[b]?=wr.heap[b]?:=fun T hT b hb=>hk.same b hb.lt (fun e=>hT (by subst e;exact hb.uniq ht))
 exact ⟨hT,hF,h.sn.same (hst _ (by decide)) (hst _ (by decide)) (hst _ (by decide)),(hst _ (by decide) _ ⟨_,h.blk⟩).trans h.blk,h.oa.kpt0 hk ht,h.ot.kpt0 hk ht,rd8_kpt h.tx hk h.ob,h.bel.trans (hk.below h.bel.size (fun k e=>by have:=h.tl;omega)),h.tl⟩
end Go.Proofs.YtdkpkncolpapoaaGreat.P

namespace Go.Proofs.YtdkpkncolpapoaaGreat.P
open Go.RowKit
section
variable {P:Program} (W:World)
theorem run_ints_blk (base:Nat) (t ty:TypeId) (hinf:(P.info? 3).map (fun i=>(i.zero,i.size,i.bytes))=some (some (.int .i64 0),1,8)) (ht:P.underlying t=some (.slice 3))
  (v:Value) (zs:List Int) (hown:OwnI W base v zs) (ys:List Int) (ad:Addr) (c:Nat) (hys:∀ j u,(ys.map (Value.int .i64))[j]?=some u→W.cell? (ad.add j)=some u) (hl:zs.length + ys.length≤1099511627776) (hbase:base≤W.heap.size) :
  ∃ v' w',(Builtin.append_ #[t,t] ty #[v,.slice (some ad) ys.length c]).run P W=.ok v' w'∧OwnI w' base v' (zs ++ ys)∧W.grownBy w' v.ownBlock∧(v'.ownBlock=v.ownBlock∨v'.ownBlock=some W.heap.size):=by
 obtain ⟨i0,hi,hz0,hz1,hz2⟩:=info_parts hinf
 have hone:∀ u ∈ ys.map (Value.int .i64),u.oneCell'=true:=fun u hu=>by rw [List.mem_map] at hu;obtain ⟨_,_,rfl⟩:=hu;rfl
 by_cases hn:ys=[]
 ·subst hn
  obtain ⟨v',w',h1,h2,h3,h4⟩:=run_append_own (P:=P) W base t ty 3 i0 (.int .i64 0) 1 8 ht hi hz0 hz1 hz2 rfl (by decide) v zs.length (zs.map (Value.int .i64)) hown ad 0 c [] rfl (fun j u hj=>by simp at hj) (fun u hu=>by cases hu) (by unfold maxLen;simp at hl;omega) (by simp at hl;omega) hbase
  refine ⟨v',w',h1,?_,h3,?_⟩
  ·rw [List.append_nil]
   rw [List.append_nil] at h2
   exact h2
  ·rcases hown.2 with ⟨e1,e2⟩ | ⟨g,cap,cur,rfl,hbg,hg,hnc,hcm,hcs,htake⟩
   ·have e3:=h4.2 ⟨e1,rfl⟩
    rw [e1,e3]
    exact .inl rfl
   ·have hr:=run_append_room (P:=P) W t ty 3 i0 ht hi g zs.length cap cur hg ad 0 c [] (by simp) (fun j u hj=>by simp at hj) (fun u hu=>by cases hu) (by omega) (by rw [hz1,hcs];simp;omega)
    have hr1:(Builtin.append_ #[t,t] ty #[.slice (some ⟨g,0,none⟩) zs.length cap,.slice (some ad) 0 c]).run P W=.ok v' w':=h1
    rw [hr] at hr1
    cases hr1
    exact .inl rfl
 ·obtain ⟨v',w',h1,h2,h3,h4⟩:=Go.Proofs.YtdkpkncolpapoaaGreat.run_append_blk (P:=P) W base t ty 3 i0 (.int .i64 0) 1 8 ht hi hz0 hz1 hz2 rfl (by decide) v zs.length (zs.map (Value.int .i64)) hown ad ys.length c (ys.map (Value.int .i64)) (by simp) hys hone (by unfold maxLen;omega) (by omega) hbase (List.length_pos_iff.2 hn)
  refine ⟨v',w',h1,?_,h3,h4⟩
  unfold OwnI
  rw [List.length_append,List.map_append]
  exact h2
theorem wp_ints_blk {op:Oper} {a:Act} {K:Act→World→Prop} {Q:Exit→Act→World→Prop} (s x:Operand) (t:TypeId) (ho:op.op=.call { callee:=.builtin .append,args:=#[s,x],argTypes:=#[t,t] })
  (base:Nat) (hinf:(P.info? 3).map (fun i=>(i.zero,i.size,i.bytes))=some (some (.int .i64 0),1,8)) (ht:P.underlying t=some (.slice 3))
  (v:Value) (zs:List Int) (hs:a.eval s=v) (hown:OwnI W base v zs) (ys:List Int) (ad:Addr) (m c:Nat) (hx:a.eval x=.slice (some ad) m c) (hm:m=ys.length) (hys:∀ j u,(ys.map (Value.int .i64))[j]?=some u→W.cell? (ad.add j)=some u) (hl:zs.length + ys.length≤1099511627776) (hbase:base≤W.heap.size)
  (h:∀ v' w',OwnI w' base v' (zs ++ ys)→W.grownBy w' v.ownBlock→(v'.ownBlock=v.ownBlock∨v'.ownBlock=some W.heap.size)→K (a.put op.dst v') w'):op.wp P a W K Q:=by
 subst hm
 obtain ⟨v',w',hr,h2,h3,h4⟩:=run_ints_blk (P:=P) W base t op.type hinf ht v zs hown ys ad c hys hl hbase
 unfold Oper.wp execOp
 simp only [ho,resolve,invoke,builtin,Sem.run_bind,Sem.run_pure,Result.andThen_ok,List.map_toArray,List.map_cons,List.map_nil,hs,hx,hr]
 exact h v' w' h2 h3 h4
end
structure GI (w:World) (va vt vb na nt:Value) (As Ts:List Int) (wr:World):Prop where
 sb:wr.heap[w.heap.size]?=some (.cells #[va,vt,vb] 36 (0,0))
 rb:wr.heap[w.heap.size + 1]?=some (.cells #[.slice none 0 0,.slice none 0 0,.slice none 0 0] 36 (0,0))
 nb:wr.heap[w.heap.size + 2]?=some (.cells #[na,nt,.slice none 0 0] 36 (0,0))
 oa:OwnI wr w.heap.size na As
 ot:OwnI wr w.heap.size nt Ts
 ne:na.ownBlock=none∨na.ownBlock≠nt.ownBlock
 bel:Below w.heap.size w wr
theorem OwnI.typ2 {w:World} {base:Nat} {v:Value} {zs:List Int} (h:OwnI w base v zs) (g:Nat) (hg:v.ownBlock=some g):Typ 3 w g∧base≤g:=by
 rcases h.2 with ⟨rfl,_⟩ | ⟨g',cap,cur,rfl,hb,hg',_⟩
 ·cases hg
 ·have e:g'=g:=by simpa [Value.ownBlock] using hg
  subst e
  exact ⟨⟨_,hg'⟩,hb⟩
theorem GI.ext {w:World} {va vt vb na nt:Value} {As Ts:List Int} {wr w':World} (h:GI w va vt vb na nt As Ts wr) (hb:Below wr.heap.size wr w'):GI w va vt vb na nt As Ts w' :=
 have k:∀ {b:Nat} {o:Obj},wr.heap[b]?=some o→w'.heap[b]?=some o:=fun e=>(hb.block _ (Array.getElem?_eq_some_iff.1 e).1).trans e
 ⟨k h.sb,k h.rb,k h.nb,h.oa.ext hb,h.ot.ext hb,h.ne,ext_trans h.bel hb⟩
theorem GI.appA {w:World} {va vt vb na nt:Value} {As Ts:List Int} {wr:World} (h:GI w va vt vb na nt As Ts wr) (ys:List Int) (v':Value) (w':World) (ho:OwnI w' w.heap.size v' (As ++ ys)) (hg:wr.grownBy w' na.ownBlock) (hb:v'.ownBlock=na.ownBlock∨v'.ownBlock=some wr.heap.size):GI w va vt vb v' nt (As ++ ys) Ts (w'.setCell ⟨w.heap.size + 2,0,none⟩ v'):=by
 have hst:∀ U,U≠3→∀ b,Typ U wr b→w'.heap[b]?=wr.heap[b]?:=fun U hU b hb'=>hg.block b hb'.lt (fun e=>hU (hb'.uniq (h.oa.typ2 b e.symm).1))
 have n1:=(hst _ (by decide) _ ⟨_,h.nb⟩).trans h.nb
 obtain ⟨p1,p2⟩:=set1 n1 0 v'
 have hs2:∀ b,b≠w.heap.size + 2→b < w'.heap.size→(w'.setCell ⟨w.heap.size + 2,0,none⟩ v').heap[b]?=w'.heap[b]?:=fun b h1 h2=>p2.block b h2 (fun e=>h1 (Option.some.inj e))
 have hlt:∀ {b:Nat},b < wr.heap.size→b < w'.heap.size:=fun h1=>Nat.lt_of_lt_of_le h1 hg.size
 refine ⟨?_,?_,p1,?_,?_,?_,?_⟩
 ·exact (hs2 _ (by omega) (hlt (Array.getElem?_eq_some_iff.1 h.sb).1)).trans ((hst _ (by decide) _ ⟨_,h.sb⟩).trans h.sb)
 ·exact (hs2 _ (by omega) (hlt (Array.getElem?_eq_some_iff.1 h.rb).1)).trans ((hst _ (by decide) _ ⟨_,h.rb⟩).trans h.rb)
 ·exact ownsRow_same ho fun b hb'=>hs2 b (fun e=>by subst e;exact absurd (hb'.uniq ⟨_,n1⟩) (by decide)) hb'.lt
 ·refine World.ownsRow.kept (World.ownsRow.kept h.ot hg ?_) p2 ?_
  ·rcases h.ne with e | e
   ·rw [e];cases nt.ownBlock <;> simp
   ·exact .inr (fun e2=>e e2.symm)
  ·right
   intro e
   have hh:=(h.ot.typ2 _ e).1
   exact absurd (hh.uniq ⟨_,h.nb⟩) (by decide)
 ·rcases hb with e1 | e1
  ·rw [e1];exact h.ne
  right
  intro e
  rw [e1] at e
  have:=(h.ot.typ2 _ e.symm).1.lt
  omega
 ·have hb1:=Below.grown h.bel hg h.bel.size (fun k e=>(h.oa.typ2 k e).2)
  exact Below.grown hb1 p2 hb1.size (fun k e=>by have:=Option.some.inj e;omega)
theorem GI.appT {w:World} {va vt vb na nt:Value} {As Ts:List Int} {wr:World} (h:GI w va vt vb na nt As Ts wr) (ys:List Int) (v':Value) (w':World) (ho:OwnI w' w.heap.size v' (Ts ++ ys)) (hg:wr.grownBy w' nt.ownBlock) (hb:v'.ownBlock=nt.ownBlock∨v'.ownBlock=some wr.heap.size):GI w va vt vb na v' As (Ts ++ ys) (w'.setCell ⟨w.heap.size + 2,1,none⟩ v'):=by
 have hst:∀ U,U≠3→∀ b,Typ U wr b→w'.heap[b]?=wr.heap[b]?:=fun U hU b hb'=>hg.block b hb'.lt (fun e=>hU (hb'.uniq (h.ot.typ2 b e.symm).1))
 have n1:=(hst _ (by decide) _ ⟨_,h.nb⟩).trans h.nb
 obtain ⟨p1,p2⟩:=set1 n1 1 v'
 have hs2:∀ b,b≠w.heap.size + 2→b < w'.heap.size→(w'.setCell ⟨w.heap.size + 2,1,none⟩ v').heap[b]?=w'.heap[b]?:=fun b h1 h2=>p2.block b h2 (fun e=>h1 (Option.some.inj e))
 have hlt:∀ {b:Nat},b < wr.heap.size→b < w'.heap.size:=fun h1=>Nat.lt_of_lt_of_le h1 hg.size
 refine ⟨?_,?_,p1,?_,?_,?_,?_⟩
 ·exact (hs2 _ (by omega) (hlt (Array.getElem?_eq_some_iff.1 h.sb).1)).trans ((hst _ (by decide) _ ⟨_,h.sb⟩).trans h.sb)
 ·exact (hs2 _ (by omega) (hlt (Array.getElem?_eq_some_iff.1 h.rb).1)).trans ((hst _ (by decide) _ ⟨_,h.rb⟩).trans h.rb)
 ·refine World.ownsRow.kept (World.ownsRow.kept h.oa hg h.ne) p2 ?_
  right
  intro e
  have hh:=(h.oa.typ2 _ e).1
  exact absurd (hh.uniq ⟨_,h.nb⟩) (by decide)
 ·exact ownsRow_same ho fun b hb'=>hs2 b (fun e=>by subst e;exact absurd (hb'.uniq ⟨_,n1⟩) (by decide)) hb'.lt
 ·rcases hb with e1 | e1
  ·rw [e1];exact h.ne
  right
  intro e
  rw [e1] at e
  have:=(h.oa.typ2 _ e).1.lt
  omega
 ·have hb1:=Below.grown h.bel hg h.bel.size (fun k e=>(h.ot.typ2 k e).2)
  exact Below.grown hb1 p2 hb1.size (fun k e=>by have:=Option.some.inj e;omega)
end Go.Proofs.YtdkpkncolpapoaaGreat.P

namespace Go.Proofs.YtdkpkncolpapoaaGreat.P
open Go.RowKit
def lastT:Nat→List Ed→Nat
 | p,[]=>p
 | _,e :: es=>lastT e.2.1.toNat es
def prE (l:List (Int × Int)):Nat→List Ed→List (Int × Int)
 | _,[]=>[]
 | p,e :: es=>(l.drop p).take (e.1.toNat - p) ++ (e.2.2.map fun a=>(a,-1)) ++ prE l e.2.1.toNat es
theorem ap_pr (l:List (Int × Int)):∀ (es:List Ed) (p:Nat),apE l p es=prE l p es ++ l.drop (lastT p es):=by
 intro es
 induction es with
 | nil=>intro p;rfl
 | cons e es ih=>intro p;rw [apE,prE,lastT,ih];simp only [List.append_assoc]
theorem lastT_snoc (e:Ed):∀ (es:List Ed) (p:Nat),lastT p (es ++ [e])=e.2.1.toNat:=by
 intro es
 induction es with
 | nil=>intro p;rfl
 | cons x es ih=>intro p;rw [List.cons_append,lastT];exact ih _
theorem pr_snoc (l:List (Int × Int)) (e:Ed):∀ (es:List Ed) (p:Nat),prE l p (es ++ [e])=prE l p es ++ (l.drop (lastT p es)).take (e.1.toNat - lastT p es) ++ (e.2.2.map fun a=>(a,-1)):=by
 intro es
 induction es with
 | nil=>intro p;simp [prE,lastT]
 | cons x es ih=>intro p;rw [List.cons_append,prE,prE,lastT,ih];simp only [List.append_assoc]
theorem rg_snoc (n:Int) (e:Ed):∀ (es:List Ed) (p:Nat),rg n p (es ++ [e])=true ↔ rg n p es=true∧((lastT p es:Int)≤e.1∧e.1≤e.2.1∧e.2.1≤n):=by
 intro es
 induction es with
 | nil=>intro p;rw [List.nil_append,rg_cons,lastT];simp [rg]
 | cons x es ih =>
   intro p
   rw [List.cons_append,rg_cons,rg_cons,lastT]
   constructor
   ·rintro ⟨h1,h2⟩
    have ex:x.2.1=((x.2.1.toNat:Nat):Int):=by omega
    rw [ex] at h2
    have h3:=(ih _).1 h2
    rw [← ex] at h3
    exact ⟨⟨h1,h3.1⟩,h3.2⟩
   ·rintro ⟨⟨h1,h2⟩,h3⟩
    have ex:x.2.1=((x.2.1.toNat:Nat):Int):=by omega
    refine ⟨h1,?_⟩
    rw [ex]
    refine (ih _).2 ⟨?_,h3⟩
    rwa [← ex]
theorem ln_puts (enc:Int) (l:List (Int × Int)):∀ (es:List Ed) (p:Nat),ln enc (puts es)≤ln enc ((apE l p es).map Prod.fst):=by
 intro es
 induction es with
 | nil=>intro p;simp [puts,ln_nil]
 | cons e es ih =>
   intro p
   have e1:puts (e :: es)=e.2.2 ++ puts es:=by simp [puts]
   have e2:(e.2.2.map fun a=>(a,(-1:Int))).map Prod.fst=e.2.2:=by simp [List.map_map,Function.comp_def]
   rw [e1,apE,List.map_append,List.map_append,ln_app,ln_app,ln_app,e2]
   have:=ih e.2.1.toNat
   omega
theorem good_ch (enc lim:Int) (l:List (Int × Int)) (es:List Ed) (h7:es.length≤70000):chA enc lim l es=0 ↔ rg l.length 0 es=true∧(∀ a ∈ puts es,Cx.fits enc a=true)∧(ln enc ((apE l 0 es).map Prod.fst):Int)≤lim:=by
 have hp:=ln_puts enc l es 0
 constructor
 ·intro h
  have hc:ckA enc lim l.length es=0:=by
   unfold chA at h
   split at h
   ·assumption
   ·exact h
  obtain ⟨_,h2,h3,_⟩:=ck_zero hc
  refine ⟨h2,h3,?_⟩
  unfold chA at h
  rw [if_pos hc] at h
  split at h
  ·omega
  ·omega
 ·rintro ⟨h1,h2,h3⟩
  have hc:ckA enc lim l.length es=0:=by
   unfold ckA
   rw [if_neg (by omega),if_pos h1]
   unfold cpA
   rw [if_pos h2,if_neg (by omega)]
  unfold chA
  rw [if_pos hc,if_neg (by omega)]
theorem pr_len (n:Int) (l:List (Int × Int)):∀ (es:List Ed) (p:Nat),rg n p es=true→(prE l p es).length + p≤lastT p es + (puts es).length:=by
 intro es
 induction es with
 | nil=>intro p _;simp [prE,lastT,puts]
 | cons x es ih =>
   intro p hr
   rw [rg_cons] at hr
   obtain ⟨⟨h1,h2,h3⟩,h4⟩:=hr
   have ex:x.2.1=((x.2.1.toNat:Nat):Int):=by omega
   rw [ex] at h4
   have i1:=ih _ h4
   have e1:puts (x :: es)=x.2.2 ++ puts es:=by simp [puts]
   rw [prE,lastT,e1]
   simp only [List.length_append,List.length_take,List.length_drop,List.length_map]
   omega
end Go.Proofs.YtdkpkncolpapoaaGreat.P

namespace Go.Proofs.YtdkpkncolpapoaaGreat.P
open Go.RowKit
def nw (l:List Int):List (Int × Int):=l.map fun a=>(a,-1)
def ins (l:List Int) (q:Nat) (x:Int):List Int:=l.take q ++ (x :: l.drop q)
structure MlI (enc:Int) (t:Nat) (w:World) (lv:Value) (l:List Int) (wr:World):Prop where
 tx:∃ ps,Tx enc 65536 [] wr t ps∧sh enc ps=nw l
 own:OwnI wr w.heap.size lv l
 nil:l=[]→lv=.slice none 0 0
 fit:∀ a ∈ l,Cx.fits enc a=true
 bel:Below w.heap.size w wr
 tl:w.heap.size≤t
theorem MlI.ext {enc:Int} {t:Nat} {w:World} {lv:Value} {l:List Int} {wr w':World} (h:MlI enc t w lv l wr) (hb:Below wr.heap.size wr w'):MlI enc t w lv l w':=by
 obtain ⟨ps,h1,h2⟩:=h.tx
 exact ⟨⟨ps,h1.ext hb,h2⟩,h.own.ext hb,h.nil,h.fit,ext_trans h.bel hb,h.tl⟩
theorem OwnI.kpt {w w':World} {base t:Nat} {v:Value} {zs:List Int} (h:OwnI w base v zs) (hk:Kps (fun k=>k=t) w w') (ht:Typ 116 w t):OwnI w' base v zs:=by
 obtain ⟨h1,h2⟩:=id h
 refine ⟨h1,?_⟩
 rcases h2 with h2 | ⟨k,cap,cur,hv,hb,hgg,r⟩
 ·exact .inl h2
 ·refine .inr ⟨k,cap,cur,hv,hb,(hk.same k (Array.getElem?_eq_some_iff.1 hgg).1 (fun e=>?_)).trans hgg,r⟩
  subst e
  exact absurd (Typ.uniq (T:=3) ⟨_,hgg⟩ ht) (by decide)
theorem Tx.typ {enc lim:Int} {L:List Int} {w:World} {t:Nat} {ps:List PG} (h:Tx enc lim L w t ps):Typ 116 w t:=by
 obtain ⟨_,_,h1,_⟩:=h.ex
 exact ⟨_,h1⟩
section
variable {P:Program} {W:World} {ops:Array Oper} {rest:List Oper} {o:Oper} {a:Act} {Q:Exit→Act→World→Prop}
end
theorem Addr.add_zero_add (g q j:Nat):((⟨g,0,none⟩:Addr).add (q + j))=(⟨g,q,none⟩:Addr).add j:=by
 unfold Addr.add
 split <;> split <;> simp <;> omega
theorem OwnI.row {w:World} {base:Nat} {v:Value} {zs:List Int} (h:OwnI w base v zs) (hn:zs≠[]):∃ g cap,v=.slice (some ⟨g,0,none⟩) zs.length cap∧g < w.heap.size∧zs.length≤cap∧cap≤9223372036854775807∧∀ j u,(zs.map (Value.int .i64))[j]?=some u→w.cell? ((⟨g,0,none⟩:Addr).add j)=some u:=by
 rcases h.2 with ⟨_,h2⟩ | ⟨g,cap,cur,hv,hb,hg,h3,h4,h5,h6⟩
 ·exact absurd (List.length_eq_zero_iff.1 h2) hn
 ·exact ⟨g,cap,hv,(Array.getElem?_eq_some_iff.1 hg).1,h3,by unfold maxLen at h4;exact h4,World.ownsRow.cells h (by rw [hv];simp [Value.ownBlock])⟩
set_option maxRecDepth 100000 in
set_option maxHeartbeats 2000000 in
theorem Fits_any (enc a:Int) (w:World):Calls Tryz.prog 18 #[.int .i64 enc,.int .i64 a] w fun e w'=>e=.returned (.bool (Cx.fits enc a))∧Below w.heap.size w w':=by
 have SZ:=hidIt (Go.Proofs.YtdkpkncolpapoaaGreat.Size_any enc a w)
 cases hf:Cx.fits enc a with
 | true =>
   have hs:0 < Cx.size enc a:=by rw [size_fit enc a hf];have:=(Cx.put_len enc a).1;omega
   go_enter Tryz.func18,Tryz.ntmps18
   go_wp2_with (go_at_call 53;refine SZ.out.mono ?_;rintro e w1 ⟨rfl,hb1⟩;have HB1:=hidIt hb1;clear hb1;(try dsimp only))
   go_ret
   exact ⟨rfl,HB1.out⟩
 | false =>
   have hs:¬ 0 < Cx.size enc a:=by unfold Cx.size;rw [hf];simp
   go_enter Tryz.func18,Tryz.ntmps18
   go_wp2_with (go_at_call 53;refine SZ.out.mono ?_;rintro e w1 ⟨rfl,hb1⟩;have HB1:=hidIt hb1;clear hb1;(try dsimp only))
   go_ret
   exact ⟨rfl,HB1.out⟩
end Go.Proofs.YtdkpkncolpapoaaGreat.P

namespace Go.Proofs.YtdkpkncolpapoaaGreat.P
open Go.RowKit
section
variable {P:Program} (W:World)
theorem wp_append_opt {op:Oper} {a:Act} {K:Act→World→Prop} {Q:Exit→Act→World→Prop} (s x:Operand) (t:TypeId) (ho:op.op=.call { callee:=.builtin .append,args:=#[s,x],argTypes:=#[t,t] })
  (base:Nat) (hinf:(P.info? 3).map (fun i=>(i.zero,i.size,i.bytes))=some (some (.int .i64 0),1,8)) (ht:P.underlying t=some (.slice 3))
  (v:Value) (zs:List Int) (hs:a.eval s=v) (hown:OwnI W base v zs) (ys:List Int) (ao:Option Addr) (m c:Nat) (hx:a.eval x=.slice ao m c) (hm:m=ys.length) (hys:(ao=none∧c=0∧ys=[])∨∃ ad,ao=some ad∧∀ j u,(ys.map (Value.int .i64))[j]?=some u→W.cell? (ad.add j)=some u) (hl:zs.length + ys.length≤1099511627776) (hbase:base≤W.heap.size)
  (h:∀ v' w',OwnI w' base v' (zs ++ ys)→W.grownBy w' v.ownBlock→(v'.ownBlock=v.ownBlock∨v'.ownBlock=some W.heap.size)→K (a.put op.dst v') w'):op.wp P a W K Q:=by
 rcases hys with ⟨rfl,rfl,rfl⟩ | ⟨ad,rfl,hc⟩
 ·obtain ⟨i0,hi,hz0,hz1,hz2⟩:=info_parts hinf
  subst hm
  have hrun:=run_append_owned_none (P:=P) (w:=W) base t op.type 3 i0 1 ht hi v zs.length (zs.map (Value.int .i64)) hown
  unfold Oper.wp execOp
  simp only [List.length_nil] at hx
  simp only [ho,resolve,invoke,builtin,Sem.run_bind,Sem.run_pure,Result.andThen_ok,List.map_toArray,List.map_cons,List.map_nil,hs,hx,hrun]
  exact h v W (by rw [List.append_nil];exact hown) ⟨rfl,rfl,rfl,Nat.le_refl _,fun _ _ _=>rfl⟩ (.inl rfl)
 ·exact wp_ints_blk W s x t ho base hinf ht v zs hs hown ys ad m c hx hm hc hl hbase h
end
theorem grown_other {w w':World} {base:Nat} {v:Value} {zs:List Int} (h:OwnI w base v zs) (hg:w.grownBy w' v.ownBlock) {b:Nat} {cs:Array Value} {T:TypeId} {z:Nat × Nat} (hT:T≠3) (hb:w.heap[b]?=some (.cells cs T (0,0))):w'.heap[b]?=some (.cells cs T (0,0)) :=
 have _:=z
 (hg.block b (Array.getElem?_eq_some_iff.1 hb).1 (fun e=>hT (Typ.uniq (T:=T) ⟨_,hb⟩ (h.typ2 b e.symm).1))).trans hb
theorem set_other {w:World} {g b i:Nat} {v:Value} {o:Obj} (hb:w.heap[b]?=some o) {cs:Array Value} {T:TypeId} (hg:w.heap[g]?=some (.cells cs T (0,0))) (hn:b≠g) (hi:i < cs.size):(w.setCell ⟨g,i,none⟩ v).heap[b]?=some o:=by
 have _:=hi
 obtain ⟨_,p2⟩:=set1 hg i v
 exact (p2.block b (Array.getElem?_eq_some_iff.1 hb).1 (fun e=>hn (Option.some.inj e))).trans hb
theorem GI.stepA {w:World} {va vt vb na nt:Value} {As Ts:List Int} {W:World} (h:GI w va vt vb na nt As Ts W) (ys:List Int) (v':Value) (w':World) (ho:OwnI w' w.heap.size v' (As ++ ys)) (hg:W.grownBy w' na.ownBlock) (hb:v'.ownBlock=na.ownBlock∨v'.ownBlock=some W.heap.size) :
  w'.heap[w.heap.size]?=some (.cells #[va,vt,vb] 36 (0,0))∧w'.heap[w.heap.size + 2]?=some (.cells #[na,nt,.slice none 0 0] 36 (0,0))∧GI w va vt vb v' nt (As ++ ys) Ts (w'.setCell ⟨w.heap.size + 2,0,none⟩ v') :=
 ⟨grown_other (z:=(0,0)) h.oa hg (by decide) h.sb,grown_other (z:=(0,0)) h.oa hg (by decide) h.nb,h.appA ys v' w' ho hg hb⟩
theorem GI.stepT {w:World} {va vt vb na nt:Value} {As Ts:List Int} {W:World} (h:GI w va vt vb na nt As Ts W) (ys:List Int) (v':Value) (w':World) (ho:OwnI w' w.heap.size v' (Ts ++ ys)) (hg:W.grownBy w' nt.ownBlock) (hb:v'.ownBlock=nt.ownBlock∨v'.ownBlock=some W.heap.size) :
  w'.heap[w.heap.size]?=some (.cells #[va,vt,vb] 36 (0,0))∧w'.heap[w.heap.size + 2]?=some (.cells #[na,nt,.slice none 0 0] 36 (0,0))∧GI w va vt vb na v' As (Ts ++ ys) (w'.setCell ⟨w.heap.size + 2,1,none⟩ v') :=
 ⟨grown_other (z:=(0,0)) h.ot hg (by decide) h.sb,grown_other (z:=(0,0)) h.ot hg (by decide) h.nb,h.appT ys v' w' ho hg hb⟩
def SnO (w:World) (base:Nat) (va vt vb:Value) (az ts bs:List Int):Prop:=OwnI w base va az∧OwnI w base vt ts∧Rd .u8 w vb bs
theorem SnO.ext {w w':World} {base:Nat} {va vt vb:Value} {az ts bs:List Int} (h:SnO w base va vt vb az ts bs) (hb:Below w.heap.size w w'):SnO w' base va vt vb az ts bs:=⟨h.1.ext hb,h.2.1.ext hb,h.2.2.ext hb⟩
def GdR (base:Nat) (enc lim:Int) (l:List (Int × Int)) (es:List Ed) (w:World) (e:Ending) (w':World):Prop :=
 ∃ xa xt xb,e=.returned (.tuple #[.agg #[xa,xt,xb],.bool (decide (chA enc lim l es=0))])∧Hid (SnO w' base xa xt xb ((chT enc lim l es).map Prod.fst) ((chT enc lim l es).map Prod.snd) (Cx.encB enc ((chT enc lim l es).map Prod.fst)))∧Below w.heap.size w w'
theorem GI.refuse {base:Nat} {enc lim:Int} {l:List (Int × Int)} {es:List Ed} {w:World} {va vt vb na nt:Value} {As Ts:List Int} {wr:World} (h:GI w va vt vb na nt As Ts wr) (hS:SnO w base va vt vb (l.map Prod.fst) (l.map Prod.snd) (Cx.encB enc (l.map Prod.fst))) (hc:chA enc lim l es≠0) (z:World) (hz:z=((wr.setCell ⟨w.heap.size + 1,0,none⟩ va).setCell ⟨w.heap.size + 1,1,none⟩ vt).setCell ⟨w.heap.size + 1,2,none⟩ vb) :
  (z.cell? ⟨w.heap.size + 1,0,none⟩=some va∧z.cell? ⟨w.heap.size + 1,1,none⟩=some vt∧z.cell? ⟨w.heap.size + 1,2,none⟩=some vb)∧GdR base enc lim l es w (.returned (.tuple #[.agg #[va,vt,vb],.bool false])) z:=by
 obtain ⟨p1,p2⟩:=put3 h.rb va vt vb
 rw [← hz] at p1 p2
 have hb:Below w.heap.size w z:=h.bel.trans (p2.below h.bel.size (fun k hk=>by omega))
 refine ⟨⟨?_,?_,?_⟩,va,vt,vb,by rw [decide_eq_false hc],?_,hb⟩
 ·rw [cell_of_row z _ _ _ _ _ p1];rfl
 ·rw [cell_of_row z _ _ _ _ _ p1];rfl
 ·rw [cell_of_row z _ _ _ _ _ p1];rfl
 ·have e:chT enc lim l es=l:=by unfold chT;rw [if_neg hc]
  rw [e]
  exact hS.ext hb
theorem GI.finish {base:Nat} {enc lim:Int} {l:List (Int × Int)} {es:List Ed} {w:World} {va vt vb na nt:Value} {wr:World} (hbase:base≤w.heap.size) (xb:Value) (h:GI w va vt vb na nt ((apE l 0 es).map Prod.fst) ((apE l 0 es).map Prod.snd) wr) (hx:Rd .u8 wr xb (Cx.encB enc ((apE l 0 es).map Prod.fst))) (hxo:∀ b o n c,xb=.slice (some ⟨b,o,none⟩) n c→b≠w.heap.size + 1∧b≠w.heap.size + 2) (hc:chA enc lim l es=0) (y z:World) (hy:y=wr.setCell ⟨w.heap.size + 2,2,none⟩ xb) (hz:z=((y.setCell ⟨w.heap.size + 1,0,none⟩ na).setCell ⟨w.heap.size + 1,1,none⟩ nt).setCell ⟨w.heap.size + 1,2,none⟩ xb) :
  (y.cell? ⟨w.heap.size + 2,0,none⟩=some na∧y.cell? ⟨w.heap.size + 2,1,none⟩=some nt∧y.cell? ⟨w.heap.size + 2,2,none⟩=some xb∧(∀ i,y.frozen? ⟨w.heap.size + 1,i,none⟩=false)∧y.cell? ⟨w.heap.size + 1,0,none⟩=some (.slice none 0 0)∧y.cell? ⟨w.heap.size + 1,1,none⟩=some (.slice none 0 0)∧y.cell? ⟨w.heap.size + 1,2,none⟩=some (.slice none 0 0))∧(z.cell? ⟨w.heap.size + 1,0,none⟩=some na∧z.cell? ⟨w.heap.size + 1,1,none⟩=some nt∧z.cell? ⟨w.heap.size + 1,2,none⟩=some xb)∧GdR base enc lim l es w (.returned (.tuple #[.agg #[na,nt,xb],.bool true])) z:=by
 obtain ⟨q1,q2⟩:=set1 h.nb 2 xb
 rw [← hy] at q1 q2
 have rb:y.heap[w.heap.size + 1]?=some (.cells #[.slice none 0 0,.slice none 0 0,.slice none 0 0] 36 (0,0)):=(q2.block _ (Array.getElem?_eq_some_iff.1 h.rb).1 (fun e=>by have:=Option.some.inj e;omega)).trans h.rb
 obtain ⟨p1,p2⟩:=put3 rb na nt xb
 rw [← hz] at p1 p2
 have kk:Kps (fun k=>k=w.heap.size + 1∨k=w.heap.size + 2) wr z:=(Kps.grown (o:=fun k=>k=w.heap.size + 1∨k=w.heap.size + 2) q2 fun j e _=>.inr (Option.some.inj e).symm).trans (p2.mono (p:=fun k=>k=w.heap.size + 1∨k=w.heap.size + 2) fun _ _ e=>.inl e) fun _ _ e=>e
 have hb:Below w.heap.size w z:=h.bel.trans (kk.below h.bel.size (fun k hk=>by rcases hk with rfl | rfl <;> omega))
 have so:∀ {v:Value} {zs:List Int},OwnI wr w.heap.size v zs→OwnI z w.heap.size v zs:=fun ho=>ownsRow_same ho fun b hb'=>kk.same b hb'.lt (fun e=>by
  rcases e with rfl | rfl
  ·exact absurd (hb'.uniq ⟨_,h.rb⟩) (by decide)
  ·exact absurd (hb'.uniq ⟨_,h.nb⟩) (by decide))
 refine ⟨⟨?_,?_,?_,?_,?_,?_,?_⟩,⟨?_,?_,?_⟩,na,nt,xb,by rw [decide_eq_true hc],?_,hb⟩
 ·rw [cell_of_row y _ _ _ _ _ q1];rfl
 ·rw [cell_of_row y _ _ _ _ _ q1];rfl
 ·rw [cell_of_row y _ _ _ _ _ q1];rfl
 ·intro i;simp [World.frozen?,rb]
 ·rw [cell_of_row y _ _ _ _ _ rb];rfl
 ·rw [cell_of_row y _ _ _ _ _ rb];rfl
 ·rw [cell_of_row y _ _ _ _ _ rb];rfl
 ·rw [cell_of_row z _ _ _ _ _ p1];rfl
 ·rw [cell_of_row z _ _ _ _ _ p1];rfl
 ·rw [cell_of_row z _ _ _ _ _ p1];rfl
 ·have e:chT enc lim l es=apE l 0 es:=by unfold chT;rw [if_pos hc]
  rw [e]
  refine ⟨(so h.oa).mono hbase,(so h.ot).mono hbase,?_⟩
  obtain ⟨ao,cap,h1,h2,h3,h4⟩:=hx
  refine ⟨ao,cap,h1,h2,h3,fun hn=>?_⟩
  obtain ⟨b,off,k1,k2,k3⟩:=h4 hn
  refine ⟨b,off,k1,Nat.lt_of_lt_of_le k2 kk.size,fun i hi=>?_⟩
  rw [← k3 i hi]
  obtain ⟨n1,n2⟩:=hxo b off _ _ (by rw [h1,k1])
  exact World.cell?_of_block (kk.same b k2 (fun e=>by rcases e with e | e <;> omega))
theorem OwnI.cutv {w:World} {base:Nat} {a0:Option Addr} {n c0:Nat} {zs:List Int} (h:OwnI w base (.slice a0 n c0) zs):(a0=none∧c0=0∧zs=[])∨∃ g,a0=some ⟨g,0,none⟩∧zs.length≤c0∧c0≤9223372036854775807∧∀ (A m:Nat) (w':World),Below w.heap.size w w'→∀ j u,(((zs.drop A).take m).map (Value.int .i64))[j]?=some u→w'.cell? ((⟨g,A,none⟩:Addr).add j)=some u:=by
 rcases h.2 with ⟨e1,e2⟩ | ⟨g,cap,cur,hv,hb,hg,h3,h4,h5,h6⟩
 ·simp only [Value.slice.injEq] at e1
  exact .inl ⟨e1.1,e1.2.2,List.length_eq_zero_iff.1 e2⟩
 ·have hcells:∀ j u,(zs.map (Value.int .i64))[j]?=some u→w.cell? ((⟨g,0,none⟩:Addr).add j)=some u:=World.ownsRow.cells h (by rw [hv];simp [Value.ownBlock])
  simp only [Value.slice.injEq] at hv
  obtain ⟨rfl,rfl,rfl⟩:=hv
  refine .inr ⟨g,rfl,h3,by unfold maxLen at h4;exact h4,fun A m w' hbw j u hj=>?_⟩
  have hlt:=(Array.getElem?_eq_some_iff.1 hg).1
  rw [← Addr.add_zero_add]
  refine (hbw.cell (p:=(⟨g,0,none⟩:Addr).add (A + j)) (by unfold Addr.add;split <;> exact hlt)).trans (hcells (A + j) u ?_)
  rw [List.getElem?_map] at hj ⊢
  rw [List.getElem?_take] at hj
  split at hj
  ·rwa [List.getElem?_drop] at hj
  ·simp at hj
end Go.Proofs.YtdkpkncolpapoaaGreat.P

namespace Go.Proofs.YtdkpkncolpapoaaGreat.P
open Go.RowKit
end Go.Proofs.YtdkpkncolpapoaaGreat.P

namespace Go.Proofs.YtdkpkncolpapoaaGreat.P
open Go.RowKit
def nb (b:Int) (cr:Bool) (a:Int):Int:=b + (if a=10∨a=13 then 1 else 0) - (if cr=true∧a=10 then 1 else 0)
end Go.Proofs.YtdkpkncolpapoaaGreat.P

namespace Go.Proofs.YtdkpkncolpapoaaGreat.P
open Go.RowKit
end Go.Proofs.YtdkpkncolpapoaaGreat.P

namespace Go.Proofs.YtdkpkncolpapoaaGreat.P
open Go.RowKit
theorem rdi_new (w:World) (x:Int):∀ j u,([x].map (Value.int .i64))[j]?=some u→(w.alloc (.cells #[.int .i64 x] 3)).cell? ((⟨w.heap.size,0,none⟩:Addr).add j)=some u:=fun j u hj=>by
 cases j with
 | zero =>
   simp only [List.map_cons,List.getElem?_cons_zero,Option.some.injEq] at hj
   subst hj
   rw [show ((⟨w.heap.size,0,none⟩:Addr).add 0)=⟨w.heap.size,0,none⟩ from rfl,cell_of_row _ _ _ _ _ _ (heap_alloc_new _ _)]
   rfl
 | succ j=>simp at hj
end Go.Proofs.YtdkpkncolpapoaaGreat.P
