import Derived.Test.YtdkpkncolpapoaaGreatJ00
import Derived.Test.YtdkpkncolpapoaaGreatJ30
import Derived.Test.YtdkpkncolpapoaaGreatJ29
import Derived.Test.YtdkpkncolpapoaaGreatJ27
import Derived.Test.YtdkpkncolpapoaaGreatJ26
import Derived.JoinedCond
import Derived.Deep.RegionHeld3
namespace Go.Proofs.YtdkpkncolpapoaaGreat
open Go.ChangeShapes Go.WideShapes Go.ChangeAt Go.RowKit
theorem bulk_one {H:Type} (d:DataW H):1≤Rows.uptoBulk d:=by
 cases d with
 | lit l=>cases l <;> simp [Rows.uptoBulk]
 | nil=>simp [Rows.uptoBulk]
 | ptr d=>simp [Rows.uptoBulk]
 | slice elems spare=>simp [Rows.uptoBulk]
 | agg parts=>simp [Rows.uptoBulk]
 | iface t d=>simp [Rows.uptoBulk]
 | map entries=>simp [Rows.uptoBulk]
 | held h=>simp [Rows.uptoBulk]
theorem bulk_part {H:Type} {d:DataW H} {l:List (DataW H)} (h:d ∈ l):Rows.uptoBulk d≤Rows.uptoBulkAll l:=by
 induction l with
 | nil=>cases h
 | cons x r ih =>
   simp only [Rows.uptoBulkAll]
   cases List.mem_cons.1 h with
   | inl e=>subst e;omega
   | inr e=>have:=ih e;omega
theorem bulk_length {H:Type} (l:List (DataW H)):l.length≤Rows.uptoBulkAll l:=by
 induction l with
 | nil=>simp
 | cons x r ih=>have:=bulk_one x;simp only [Rows.uptoBulkAll,List.length_cons];omega
theorem bulk_bound {H:Type} {l:List (DataW H)} (hk:Rows.uptoSmall H l=true):Rows.uptoBulkAll l≤1048576:=of_decide_eq_true hk
end Go.Proofs.YtdkpkncolpapoaaGreat

namespace Go.Proofs.YtdkpkncolpapoaaGreat.P
open Go.RowKit
structure KS where
 s:Nat
 qs:List PG
 aa:Option Addr
 ca:Nat
 ta:Option Addr
 ct:Nat
 b:Nat
def KS.ptr (k:KS):Value:=.pointer (some ⟨k.s,0,none⟩)
def KS.cs (enc:Int) (k:KS):List Value:=[.slice k.aa (asOf k.qs).length k.ca,.slice k.ta (asOf k.qs).length k.ct,.slice (some ⟨k.b,0,none⟩) (ln enc (asOf k.qs)) (ln enc (asOf k.qs))]
structure KOk (enc:Int) (L:List Int) (base t:Nat) (w:World) (k:KS):Prop where
 sn:Sn enc L w k.s t k.qs
 oa:OwnI w base (.slice k.aa (asOf k.qs).length k.ca) (asOf k.qs)
 ot:OwnI w base (.slice k.ta (asOf k.qs).length k.ct) ((sh enc k.qs).map Prod.snd)
 ob:RwU w k.b 0 (Cx.encB enc (asOf k.qs))
theorem KOk.same {enc:Int} {L:List Int} {base t:Nat} {w w':World} {k:KS} (h:KOk enc L base t w k) (h1:∀ b,Typ 5 w b→w'.heap[b]?=w.heap[b]?) (h2:∀ b,Typ 182 w b→w'.heap[b]?=w.heap[b]?) (h3:∀ b,Typ 150 w b→w'.heap[b]?=w.heap[b]?) (h4:∀ b,Typ 3 w b→w'.heap[b]?=w.heap[b]?):KOk enc L base t w' k :=
 ⟨h.sn.same h1 h2 h3,ownsRow_same h.oa h4,ownsRow_same h.ot h4,h.ob.same (h1 _ h.ob.typ)⟩
structure BkI (enc:Int) (L:List Int) (w:World) (t:Nat) (ks:List KS) (kv sv:Value) (qs:List PG) (wr:World):Prop where
 tx:Tx enc 65536 L wr t qs
 each:∀ k ∈ ks,KOk enc L w.heap.size t wr k
 kr:wr.ownsRow w.heap.size 71 1 kv ks.length (ks.map KS.ptr)
 sr:wr.ownsRow w.heap.size 36 3 sv ks.length (ks.flatMap (KS.cs enc))
 bel:Below w.heap.size w wr
 tl:w.heap.size≤t
theorem BkI.ext {enc:Int} {L:List Int} {w:World} {t:Nat} {ks:List KS} {kv sv:Value} {qs:List PG} {wr w':World} (h:BkI enc L w t ks kv sv qs wr) (hb:Below wr.heap.size wr w'):BkI enc L w t ks kv sv qs w' :=
 have hst:∀ T,∀ b,Typ T wr b→w'.heap[b]?=wr.heap[b]?:=fun _ b hb'=>hb.block b hb'.lt
 ⟨h.tx.ext hb,fun k hk=>(h.each k hk).same (hst _) (hst _) (hst _) (hst _),ownsRow_same h.kr (hst _),ownsRow_same h.sr (hst _),ext_trans h.bel hb,h.tl⟩
theorem BkI.kps {enc:Int} {L:List Int} {w:World} {t:Nat} {ks:List KS} {kv sv:Value} {qs qs':List PG} {wr w':World} (h:BkI enc L w t ks kv sv qs wr) (hk:Kps (fun k=>k=t) wr w') (hT:Tx enc 65536 L w' t qs'):BkI enc L w t ks kv sv qs' w':=by
 have ht:=h.tx.typ0
 have hst:∀ T,T≠116→∀ b,Typ T wr b→w'.heap[b]?=wr.heap[b]?:=fun T hT b hb=>hk.same b hb.lt (fun e=>hT (by subst e;exact hb.uniq ht))
 exact ⟨hT,fun k hk'=>(h.each k hk').same (hst _ (by decide)) (hst _ (by decide)) (hst _ (by decide)) (hst _ (by decide)),ownsRow_same h.kr (hst _ (by decide)),ownsRow_same h.sr (hst _ (by decide)),h.bel.trans (hk.below h.bel.size (fun k e=>by have:=h.tl;omega)),h.tl⟩
theorem BkI.grown {enc:Int} {L:List Int} {w:World} {t:Nat} {ks:List KS} {kv sv:Value} {qs:List PG} {wr w':World} (h:BkI enc L w t ks kv sv qs wr) (v:Value) (T:TypeId) (hT:∀ g,v.ownBlock=some g→Typ T wr g∧w.heap.size≤g) (hg:wr.grownBy w' v.ownBlock) (h1:116≠T) (h2:5≠T) (h3:182≠T) (h4:150≠T) (h5:3≠T) :
  Tx enc 65536 L w' t qs∧(∀ k ∈ ks,KOk enc L w.heap.size t w' k)∧Below w.heap.size w w'∧(71≠T→w'.ownsRow w.heap.size 71 1 kv ks.length (ks.map KS.ptr))∧(36≠T→w'.ownsRow w.heap.size 36 3 sv ks.length (ks.flatMap (KS.cs enc)))∧∀ U,U≠T→∀ b,Typ U wr b→w'.heap[b]?=wr.heap[b]?:=by
 have hst:∀ U,U≠T→∀ b,Typ U wr b→w'.heap[b]?=wr.heap[b]?:=fun U hU b hb=>hg.block b hb.lt (fun e=>hU (hb.uniq (hT b e.symm).1))
 exact ⟨h.tx.same (hst _ h2) (hst _ h3) (hst _ h1),fun k hk=>(h.each k hk).same (hst _ h2) (hst _ h3) (hst _ h4) (hst _ h5),Below.grown h.bel hg h.bel.size (fun k e=>(hT k e).2),fun hn=>ownsRow_same h.kr (hst _ hn),fun hn=>ownsRow_same h.sr (hst _ hn),hst⟩
theorem BkI.at {enc:Int} {L:List Int} {w:World} {t n:Nat} {ks:List KS} {ka sa:Option Addr} {kc sc:Nat} {qs:List PG} {wr:World} (h:BkI enc L w t ks (.slice ka n kc) (.slice sa n sc) qs wr) (i:Nat) (k:KS) (hk:ks[i]?=some k):∃ gk gs,ka=some ⟨gk,0,none⟩∧sa=some ⟨gs,0,none⟩∧wr.cell? ⟨gk,i,none⟩=some k.ptr∧wr.cell? ⟨gs,i * 3,none⟩=some (.slice k.aa (asOf k.qs).length k.ca)∧wr.cell? ⟨gs,i * 3 + 1,none⟩=some (.slice k.ta (asOf k.qs).length k.ct)∧wr.cell? ⟨gs,i * 3 + 2,none⟩=some (.slice (some ⟨k.b,0,none⟩) (ln enc (asOf k.qs)) (ln enc (asOf k.qs)))∧n≤kc∧n≤sc∧kc≤9223372036854775807∧sc≤9223372036854775807:=by
 have hi:=(List.getElem?_eq_some_iff.1 hk).1
 have h1:=h.kr
 have h2:=h.sr
 rcases h1.2 with ⟨_,e⟩ | ⟨gk,c1,cur1,hv1,_,_,hc1,hm1,_⟩
 ·omega
 rcases h2.2 with ⟨_,e⟩ | ⟨gs,c2,cur2,hv2,_,_,hc2,hm2,_⟩
 ·omega
 simp only [Value.slice.injEq] at hv1 hv2
 obtain ⟨rfl,rfl,rfl⟩:=hv1
 obtain ⟨rfl,_,rfl⟩:=hv2
 obtain ⟨f0,f1,f2⟩:=fm3 (fun k:KS=>Value.slice k.aa (asOf k.qs).length k.ca) (fun k:KS=>Value.slice k.ta (asOf k.qs).length k.ct) (fun k:KS=>Value.slice (some ⟨k.b,0,none⟩) (ln enc (asOf k.qs)) (ln enc (asOf k.qs))) ks i k hk
 unfold maxLen at hm1 hm2
 exact ⟨gk,gs,rfl,rfl,(h1.cellAt i (by omega)).trans (by rw [List.getElem?_map,hk];rfl),(h2.cellAt _ (by omega)).trans f0,(h2.cellAt _ (by omega)).trans f1,(h2.cellAt _ (by omega)).trans f2,hc1,hc2,hm1,hm2⟩
theorem back_seen (enc:Int) (L:List Int) (w:World) (t:Nat) (ks:List KS) (kv sv:Value) (qs:List PG) (wr:World) (h:BkI enc L w t ks kv sv qs wr) (k:KS) (hk:k ∈ ks) :
  Calls Tryz.prog 40 #[.pointer (some ⟨t,0,none⟩),k.ptr] wr fun e w'=>e=.returned (.int .i64 0)∧Hid (BkI enc L w t ks kv sv k.qs w'):=by
 refine (Back_own enc 65536 L wr t k.s qs k.qs h.tx (h.each k hk).sn).mono ?_
 rintro e w' ⟨rfl,h1,h2⟩
 exact ⟨rfl,h.kps h2 h1⟩
theorem see_same (enc:Int) (L:List Int) (w:World) (t:Nat) (ks:List KS) (kv sv:Value) (wr:World) (k:KS) (hk:k ∈ ks) (h:BkI enc L w t ks kv sv k.qs wr) :
  Calls Tryz.prog 21 #[.pointer (some ⟨t,0,none⟩)] wr fun e w'=>∃ (xa:Option Addr) (xc:Nat) (ya:Option Addr) (yc:Nat) (za:Option Addr) (zc:Nat),e=.returned (.agg #[.slice xa (asOf k.qs).length xc,.slice ya (asOf k.qs).length yc,.slice za (ln enc (asOf k.qs)) zc])∧Hid (BkI enc L w t ks kv sv k.qs w'∧∀ w3,Below w'.heap.size w' w3→Calls Tryz.prog 39 #[.agg #[.slice xa (asOf k.qs).length xc,.slice ya (asOf k.qs).length yc,.slice za (ln enc (asOf k.qs)) zc],.agg (KS.cs enc k).toArray] w3 fun e w4=>e=.returned (.bool true)∧Below w3.heap.size w3 w4):=by
 refine (see_any enc 65536 L wr t k.qs h.tx).mono ?_
 rintro e w' ⟨va,vt,vb,rfl,⟨h1,h2,b3,rfl,h3⟩,hb⟩
 obtain ⟨aa,ca,e1⟩:=h1.form
 obtain ⟨at',ct,e2⟩:=h2.form
 rw [List.length_map,sh_len] at e2
 subst e1 e2
 have hI:=h.ext hb
 have hN:ln enc (asOf k.qs)≤9223372036854775807:=by have:=h.tx.sz;omega
 refine ⟨aa,ca,at',ct,some ⟨b3,0,none⟩,_,rfl,hI,fun w3 hb3=>?_⟩
 have hk3:=(hI.ext hb3).each k hk
 exact same_any _ _ _ _ _ _ (asOf k.qs) ((sh enc k.qs).map Prod.snd) (Cx.encB enc (asOf k.qs)) w3 ⟨h1.rd.ext hb3,h2.rd.ext hb3,(h3.ext hb3).rd _ (Nat.le_refl _) hN⟩ ⟨hk3.oa.rd,hk3.ot.rd,hk3.ob.rd _ (Nat.le_refl _) hN⟩
theorem Tryz.info_sp:(Tryz.prog.info? 71).map (fun i=>(i.zero,i.size,i.bytes))=some (some (.pointer none),1,8):=by kernel_rfl
theorem Tryz.info_seen:(Tryz.prog.info? 36).map (fun i=>(i.zero,i.size,i.bytes))=some (some (.agg #[.slice none 0 0,.slice none 0 0,.slice none 0 0]),3,72):=by kernel_rfl
theorem own_st {w w':World} {base:Nat} {T:TypeId} {s:Nat} {v:Value} {n:Nat} {xs:List Value} (h:w.ownsRow base T s v n xs) (hg:w.grownBy w' v.ownBlock):∀ U,U≠T→∀ b,Typ U w b→w'.heap[b]?=w.heap[b]?:=fun U hU b hb=>hg.block b hb.lt (fun e=>by
 rcases h.2 with ⟨rfl,_⟩ | ⟨g,cap,cur,rfl,_,hg',_⟩
 ·cases e
 ·have e':b=g:=by simpa [Value.ownBlock] using e
  subst e'
  exact hU (hb.uniq ⟨_,hg'⟩))
theorem new_cells {w:World} {T:TypeId} (cs:List Value):∀ j u,cs[j]?=some u→(w.alloc (.cells cs.toArray T)).cell? ((⟨w.heap.size,0,none⟩:Addr).add j)=some u:=fun j u hj=>by
 rw [Addr.add_lit,cell_of_row _ _ _ _ _ _ (heap_alloc_new _ _),Nat.zero_add,List.getElem?_toArray]
 exact hj
def TnL (w:World) (v:Value) (ts:List (Bool × List Ed × Int)):Prop :=
 ∃ ao cap,v=.slice ao ts.length cap∧ts.length≤cap∧cap≤9223372036854775807∧∀ i x,ts[i]?=some x→∃ b o ea ec,ao=some ⟨b,o,none⟩∧b < w.heap.size∧w.cell? ⟨b,o + i * 3,none⟩=some (.bool x.1)∧w.cell? ⟨b,o + i * 3 + 1,none⟩=some (.slice ea x.2.1.length ec)∧w.cell? ⟨b,o + i * 3 + 2,none⟩=some (.int .i64 x.2.2)∧EdR w (.slice ea x.2.1.length ec) x.2.1∧Bnd x.2.1
set_option maxRecDepth 100000 in
set_option maxHeartbeats 8000000 in
theorem backLaw_any (enc:Int) (lv tv:Value) (L:List Int) (ts:List (Bool × List Ed × Int)) (w:World) (hL:Rd .u8 w lv L) (hB:Byt L) (hlv:∀ c,lv=.slice none L.length c→c=0∧L=[]) (hT:TnL w tv ts) (hts:ts.length≤1048576) :
  Calls Tryz.prog 7 #[.int .i64 enc,lv,tv] w fun e w'=>e=.returned (.bool true)∧Below w.heap.size w w':=by
 have AB:Hid (∀ w',Calls Tryz.prog 16 #[] w' fun e w''=>e=.returned (.bool true)∧Below w'.heap.size w' w''):=fun w'=>able_any w'
 obtain ⟨la,lc,rfl,hl1,hl2,_⟩:=id hL
 obtain ⟨ea,ec,rfl,he1,he2,he3⟩:=id hT
 have HE':=hidIt he3
 have HL:=hidIt hL
 have hLm:L.length≤9223372036854775807:=hL.len
 by_cases hkn:1≤enc∧enc≤4∧L.length≤65536
 ·have KN:Hid (∀ w',Calls Tryz.prog 25 #[.int .i64 enc,.slice la L.length lc] w' fun e w''=>e=.returned (.bool true)∧w''=w'):=fun w'=>known_yes enc la L.length lc w' hkn
  have hEn:Cx.En enc:=by unfold Cx.En;omega
  have hk2:Cx.known enc=true:=by rcases hEn with rfl | rfl | rfl | rfl <;> rfl
  have OP:Hid (∀ w',Below w.heap.size w w'→Calls Tryz.prog 17 #[.int .i64 enc,.slice la L.length lc] w' fun e w''=>∃ (t:Nat) (ps:List PG),e=.returned (.pointer (some ⟨t,0,none⟩))∧Hid (Tx enc 65536 L w'' t ps∧sh enc ps=ctn enc 0 (Cx.dec enc L)∧w'.heap.size≤t)∧Below w'.heap.size w' w''):=fun w' hb=>opened_any enc hk2 la lc L w' (hL.ext hb) hB hkn.2.2 (fun e=>by subst e;exact hlv lc rfl)
  have HBK:=hidIt (Cx.back_all enc hEn L.length L (Nat.le_refl _) hB).1
  have hL6:=hkn.2.2
  obtain ⟨i1,hi1,hz10,hz11,hz12⟩:=info_parts Tryz.info_sp
  obtain ⟨i2,hi2,hz20,hz21,hz22⟩:=info_parts Tryz.info_seen
  clear hL hT he3 hlv hkn hk2
  go_enter Tryz.func7,Tryz.ntmps7
  go_upto_region 6 with (first
   | (go_at_call 16;refine (AB.out w).mono ?_;rintro e w1 ⟨rfl,hb1⟩;have HB1:=hidIt hb1;clear hb1;(try dsimp only))
   | (go_at_call 25;refine (KN.out w1).mono ?_;rintro e w1' ⟨rfl,hw1⟩;rw [hw1];clear hw1;(try dsimp only))
   | (go_at_call 17;refine (OP.out w1 HB1.out).mono ?_;rintro e w2 ⟨t,ps,rfl,hop,hb2⟩;have HOP:=hidIt hop.out;have HB2:=hidIt (ext_trans HB1.out hb2);clear hop hb2;(try dsimp only)))
  have htl:w.heap.size≤t:=Nat.le_trans HB1.out.size HOP.out.2.2
  have hbL:Cx.encB enc (asOf ps)=L:=by rw [← sh_fst enc ps,HOP.out.2.1,ctn_fst];exact HBK.out
  have BY:=hidIt (Bytes_any enc 65536 L w2 t ps HOP.out.1)
  rw [hbL] at BY
  have BN:Hid (∀ w',Calls Tryz.prog 40 #[.pointer (some ⟨t,0,none⟩),.pointer none] w' fun e w''=>e=.returned (.int .i64 51)∧Below w'.heap.size w' w''):=fun w'=>Back_nil w' t
  clear hbL
  go_upto_block 0 with (first
   | (go_at_call 31;refine BY.out.mono ?_;rintro e w3 ⟨b3,rfl,hr3,_,hb3⟩;have HB3:=hidIt hb3;have SB3:=hidIt (sameBytes_eq (.slice (some ⟨b3,0,none⟩) L.length L.length) (.slice la L.length lc) L w3 (hr3.rd _ (Nat.le_refl _) (by omega)) (HL.out.ext (ext_trans HB2.out hb3)));clear hr3 hb3;(try dsimp only))
   | (go_at_call 23;refine SB3.out.mono ?_;rintro e w4 ⟨rfl,hb4⟩;have HB4:=hidIt (ext_trans HB3.out hb4);clear hb4;(try dsimp only))
   | (go_at_call 40;refine (BN.out w4).mono ?_;rintro e w5 ⟨rfl,hb5⟩;have HB5:=hidIt (ext_trans HB4.out hb5);clear hb5;(try dsimp only)))
  have HI0:Hid (BkI enc L w t [] (.slice none 0 0) (.slice none 0 0) ps w5):=⟨HOP.out.1.ext HB5.out,(fun k hk=>by cases hk),World.ownsRow_nil _ _ _ _,World.ownsRow_nil _ _ _ _,ext_trans HB2.out HB5.out,htl⟩
  clear HB5 HB4 HB3 SB3 BY BN HOP
  go_wp2_with fail
  go_loopg [8,9,10] ts.length (fun gk pk pv pi wr=>∃ (i:Nat) (ks:List KS) (ka:Option Addr) (kc:Nat) (sa:Option Addr) (sc:Nat) (qs:List PG) (n:Nat),i + gk=ts.length∧n≤i∧pk=.slice ka n kc∧pv=.slice sa n sc∧pi=.int .i64 (i:Nat)∧Hid (ks.length=n∧BkI enc L w t ks (.slice ka n kc) (.slice sa n sc) qs wr))
  case atStart=>exact ⟨0,[],none,0,none,0,ps,0,by omega,by omega,rfl,rfl,rfl,rfl,HI0.out⟩
  case round =>
   obtain ⟨i,ks,ka,kc,sa,sc,qs,n,hi,hni,rfl,rfl,rfl,HI⟩:=hrel
   by_cases hil:i < ts.length
   ·have hil2:(i:Int) < (ts.length:Int):=by omega
    obtain ⟨⟨keep,es,bk⟩,hx⟩:∃ x,ts[i]?=some x:=⟨_,List.getElem?_eq_getElem hil⟩
    obtain ⟨b,o,va,vc,rfl,hbl,k0,k1,k2,hed,hbn⟩:=HE'.out i _ hx
    simp only at k0 k1 k2 hed hbn
    have HCW:Hid (∀ w',Below w.heap.size w w'→w'.cell? ⟨b,o + i * 3,none⟩=some (.bool keep)∧w'.cell? ⟨b,o + i * 3 + 1,none⟩=some (.slice va es.length vc)∧w'.cell? ⟨b,o + i * 3 + 2,none⟩=some (.int .i64 bk)):=fun w' hb=>⟨(hb.cell (p:=⟨b,o + i * 3,none⟩) hbl).trans k0,(hb.cell (p:=⟨b,o + i * 3 + 1,none⟩) hbl).trans k1,(hb.cell (p:=⟨b,o + i * 3 + 2,none⟩) hbl).trans k2⟩
    have HED:=hidIt hed
    have HBN:=hidIt hbn
    clear k0 k1 k2 hed hbn hx hbl
    obtain ⟨c0,c1,c2⟩:=HCW.out wr HI.out.2.bel
    go_upto_if 47 with fail
    go_cut [8,9,11] from 48 to 60 (fun kv sv _ wF=>∃ (ks:List KS) (ka:Option Addr) (kc:Nat) (sa:Option Addr) (sc:Nat) (qs:List PG) (n:Nat),n≤i + 1∧kv=.slice ka n kc∧sv=.slice sa n sc∧Hid (ks.length=n∧BkI enc L w t ks (.slice ka n kc) (.slice sa n sc) qs wF))
    case first =>
     cases keep with
     | false =>
       go_wp2_with fail
       go_meet
       case rel=>exact ⟨ks,ka,kc,sa,sc,qs,n,by omega,rfl,rfl,HI.out⟩
     | true =>
       have SN:=hidIt (Snap_any enc 65536 L wr t qs HI.out.2.tx)
       clear c0 c1 c2
       go_upto_region 17 with (go_at_call 41;refine SN.out.mono ?_;rintro e w1 ⟨sn,rfl,hsn,_,hb1⟩;have HSN:=hidIt hsn;have HI1:=hidIt (HI.out.2.ext hb1);clear hsn hb1;(try dsimp only))
       have HNl:=hidIt HI.out.1
       have HOW:Hid ((w1.alloc (.cells #[.pointer (some ⟨sn,0,none⟩)] 71)).ownsRow w.heap.size 71 1 (.slice ka n kc) n (ks.map KS.ptr)):=by
        have:=HI1.out.kr
        rw [HNl.out] at this
        exact ownsRow_same this fun b' hb'=>(ext_alloc (Below.refl w1.heap.size w1) _).block b' hb'.lt
       have HNW:=hidIt (new_cells (w:=w1) (T:=71) [.pointer (some ⟨sn,0,none⟩)])
       have HSZ:=hidIt (show w.heap.size≤(w1.alloc (.cells #[.pointer (some ⟨sn,0,none⟩)] 71)).heap.size from Nat.le_trans HI1.out.bel.size (size_alloc_le _ _))
       go_upto_region 18 with (at_builtin;refine wpList_append_own _ rfl _ _ 67 rfl w.heap.size 71 i1 (.pointer none) 1 8 Tryz.underlying67 hi1 hz10 hz11 hz12 rfl (by decide) (.slice ka n kc) n (ks.map KS.ptr) rfl HOW.out ⟨w1.heap.size,0,none⟩ 1 1 [.pointer (some ⟨sn,0,none⟩)] rfl rfl HNW.out (by intro u hu;rw [List.mem_singleton] at hu;subst hu;rfl) (by unfold maxLen;omega) (by omega) HSZ.out ?_;intro v2 w2 ho2 hg2 _;obtain ⟨a2,c2,hv2⟩:=ownsRow_form ho2;subst hv2;have HO2:=hidIt ho2;have HG2:=hidIt hg2;clear ho2 hg2)
       have hB1a:Below w1.heap.size w1 (w1.alloc (.cells #[.pointer (some ⟨sn,0,none⟩)] 71)):=ext_alloc (Below.refl _ _) _
       have hst2:∀ U,U≠71→∀ b,Typ U w1 b→w2.heap[b]?=w1.heap[b]?:=fun U hU b hb=>(own_st HOW.out HG2.out U hU b (hb.ext hB1a)).trans (hB1a.block b hb.lt)
       have hT2:=HI1.out.tx.same (hst2 _ (by decide)) (hst2 _ (by decide)) (hst2 _ (by decide))
       have hS2:=HSN.out.same (hst2 _ (by decide)) (hst2 _ (by decide)) (hst2 _ (by decide))
       have hE2:∀ k ∈ ks,KOk enc L w.heap.size t w2 k:=fun k hk=>(HI1.out.each k hk).same (hst2 _ (by decide)) (hst2 _ (by decide)) (hst2 _ (by decide)) (hst2 _ (by decide))
       have hR2:=ownsRow_same HI1.out.sr (hst2 _ (by decide))
       have hb2:Below w.heap.size w w2:=Below.grown (ext_trans HI1.out.bel hB1a) HG2.out HSZ.out (fun k e=>(World.ownsRow.lt HOW.out k e).1)
       have HX2:=hidIt (⟨hT2,hS2,hE2,hR2,hb2⟩:_∧_∧_∧_∧_)
       have SE2:=hidIt (see_any enc 65536 L w2 t qs hT2)
       clear hT2 hS2 hE2 hR2 hb2 hst2 hB1a HOW HNW HSZ HSN SN
       have SE3:Hid (Calls Tryz.prog 21 #[.pointer (some ⟨t,0,none⟩)] w2 fun e w3=>∃ (xa:Option Addr) (xc:Nat) (ya:Option Addr) (yc:Nat) (b3:Nat),e=.returned (.agg #[.slice xa (asOf qs).length xc,.slice ya (asOf qs).length yc,.slice (some ⟨b3,0,none⟩) (ln enc (asOf qs)) (ln enc (asOf qs))])∧Hid (OwnI w3 w2.heap.size (.slice xa (asOf qs).length xc) (asOf qs)∧OwnI w3 w2.heap.size (.slice ya (asOf qs).length yc) ((sh enc qs).map Prod.snd)∧RwU w3 b3 0 (Cx.encB enc (asOf qs)))∧Below w2.heap.size w2 w3):=by
        refine SE2.out.mono ?_
        rintro e w3 ⟨va',vt',vb',rfl,⟨h1,h2,b3,rfl,h3⟩,hb⟩
        obtain ⟨xa,xc,e1⟩:=h1.form
        obtain ⟨ya,yc,e2⟩:=h2.form
        rw [List.length_map,sh_len] at e2
        subst e1 e2
        exact ⟨xa,xc,ya,yc,b3,rfl,⟨h1,h2,h3⟩,hb⟩
       go_wp2_with (first
        | (go_at_call 21;refine SE3.out.mono ?_;rintro e w3 ⟨xa,xc,ya,yc,b3,rfl,HS3,hb3⟩;have HB3:=hidIt hb3;have HOW3:Hid ((w3.alloc (.cells #[.slice xa (asOf qs).length xc,.slice ya (asOf qs).length yc,.slice (some ⟨b3,0,none⟩) (ln enc (asOf qs)) (ln enc (asOf qs))] 36)).ownsRow w.heap.size 36 3 (.slice sa n sc) n (ks.flatMap (KS.cs enc))):=(by have:=HX2.out.2.2.2.1;rw [HNl.out] at this;exact ownsRow_same this fun b' hb'=>(ext_alloc hb3 _).block b' hb'.lt);have HNW3:=hidIt (new_cells (w:=w3) (T:=36) [.slice xa (asOf qs).length xc,.slice ya (asOf qs).length yc,.slice (some ⟨b3,0,none⟩) (ln enc (asOf qs)) (ln enc (asOf qs))]);have HSZ3:=hidIt (show w.heap.size≤(w3.alloc (.cells #[.slice xa (asOf qs).length xc,.slice ya (asOf qs).length yc,.slice (some ⟨b3,0,none⟩) (ln enc (asOf qs)) (ln enc (asOf qs))] 36)).heap.size from Nat.le_trans HX2.out.2.2.2.2.size (Nat.le_trans hb3.size (size_alloc_le _ _)));clear hb3;(try dsimp only))
        | (at_builtin;refine wpList_append_own _ rfl _ _ 68 rfl w.heap.size 36 i2 (.agg #[.slice none 0 0,.slice none 0 0,.slice none 0 0]) 3 72 Tryz.underlying68 hi2 hz20 hz21 hz22 rfl (by decide) (.slice sa n sc) n (ks.flatMap (KS.cs enc)) rfl HOW3.out ⟨w3.heap.size,0,none⟩ 1 1 [.slice xa (asOf qs).length xc,.slice ya (asOf qs).length yc,.slice (some ⟨b3,0,none⟩) (ln enc (asOf qs)) (ln enc (asOf qs))] rfl rfl HNW3.out (by intro u hu;simp only [List.mem_cons,List.not_mem_nil,or_false] at hu;rcases hu with rfl | rfl | rfl <;> rfl) (by unfold maxLen;omega) (by omega) HSZ3.out ?_;intro v4 w4 ho4 hg4 _;obtain ⟨a4,c4,hv4⟩:=ownsRow_form ho4;subst hv4;have HO4:=hidIt ho4;have HG4:=hidIt hg4;clear ho4 hg4))
       go_meet
       case rel =>
        obtain ⟨hT2,hS2,hE2,hR2,hb2⟩:=HX2.out
        obtain ⟨h1,h2,h3⟩:=HS3.out
        have hB3a:=ext_alloc HB3.out (.cells #[.slice xa (asOf qs).length xc,.slice ya (asOf qs).length yc,.slice (some ⟨b3,0,none⟩) (ln enc (asOf qs)) (ln enc (asOf qs))] 36)
        have hB3b:=ext_alloc (Below.refl w3.heap.size w3) (.cells #[.slice xa (asOf qs).length xc,.slice ya (asOf qs).length yc,.slice (some ⟨b3,0,none⟩) (ln enc (asOf qs)) (ln enc (asOf qs))] 36)
        have hst4:∀ U,U≠36→∀ b,Typ U w2 b→w4.heap[b]?=w2.heap[b]?:=fun U hU b hb=>(own_st HOW3.out HG4.out U hU b (hb.ext hB3a)).trans (hB3a.block b hb.lt)
        have hst5:∀ U,U≠36→∀ b,Typ U w3 b→w4.heap[b]?=w3.heap[b]?:=fun U hU b hb=>(own_st HOW3.out HG4.out U hU b (hb.ext hB3b)).trans (hB3b.block b hb.lt)
        refine ⟨ks ++ [⟨sn,qs,xa,xc,ya,yc,b3⟩],a2,c2,a4,c4,qs,n + 1,by omega,rfl,rfl,by rw [List.length_append,HNl.out];rfl,?_⟩
        refine ⟨hT2.same (hst4 _ (by decide)) (hst4 _ (by decide)) (hst4 _ (by decide)),fun k hk=>?_,?_,?_,Below.grown (ext_trans hb2 hB3a) HG4.out HSZ3.out (fun k e=>(World.ownsRow.lt HOW3.out k e).1),htl⟩
        ·rcases List.mem_append.1 hk with hk | hk
         ·exact (hE2 k hk).same (hst4 _ (by decide)) (hst4 _ (by decide)) (hst4 _ (by decide)) (hst4 _ (by decide))
         ·rw [List.mem_singleton] at hk
          subst hk
          exact ⟨hS2.same (hst4 _ (by decide)) (hst4 _ (by decide)) (hst4 _ (by decide)),ownsRow_same (h1.mono hb2.size) (hst5 _ (by decide)),ownsRow_same (h2.mono hb2.size) (hst5 _ (by decide)),h3.same (hst5 _ (by decide) _ h3.typ)⟩
        ·have:=ownsRow_same HO2.out (hst4 _ (by decide))
         rw [List.length_append,List.map_append,HNl.out]
         exact this
        ·rw [List.length_append,List.flatMap_append,HNl.out]
         exact HO4.out
    obtain ⟨ks2,ka2,kc2,sa2,sc2,qs2,n2,hn2,rfl,rfl,HI2⟩:=hcut
    clear c0 c1 c2 HI
    have CG:=hidIt (changed_any enc 65536 L w wc t qs2 _ es HI2.out.2.tx HED.out HI2.out.2.bel htl HBN.out)
    obtain ⟨c0,c1,c2⟩:=HCW.out wc HI2.out.2.bel
    go_upto_region 20 with (go_at_call 30;refine CG.out.mono ?_;clear c0 c1 c2;rintro e w6 ⟨rfl,hc6⟩;have HC6:=hidIt hc6;clear hc6;(try dsimp only))
    obtain ⟨ps',hT6,_,hk6⟩:=HC6.out
    have HI6:Hid (ks2.length=n2∧BkI enc L w t ks2 (.slice ka2 n2 kc2) (.slice sa2 n2 sc2) ps' w6):=⟨HI2.out.1,HI2.out.2.kps hk6 hT6⟩
    clear hT6 hk6 HC6 HI2 CG
    obtain ⟨c0,c1,c2⟩:=HCW.out w6 HI6.out.2.bel
    by_cases hb0:bk < 0
    ·go_wp2_with fail
     go_roundg (ts.length - (i + 1))
     case rel=>exact ⟨i + 1,ks2,ka2,kc2,sa2,sc2,ps',n2,by omega,hn2,rfl,rfl,by go_num,HI6.out⟩
     case measure=>omega
    obtain ⟨kk,rfl⟩:∃ kk:Nat,bk=kk:=⟨bk.toNat,by omega⟩
    by_cases hbn:kk < n2
    ·have hbn2:¬ (n2:Int)≤(kk:Int):=by omega
     have hbn3:(kk:Int) < (n2:Int):=by omega
     obtain ⟨x,hx⟩:∃ x,ks2[kk]?=some x:=⟨_,List.getElem?_eq_getElem (by have:=HI6.out.1;omega)⟩
     obtain ⟨gk,gs,rfl,rfl,_,_,_,_,hkc1,hsc1,hkc2,hsc2⟩:=HI6.out.2.at kk x hx
     have hxm:=List.mem_of_getElem? hx
     obtain ⟨xs,xq,xa,xc,ya,yc,xb⟩:=x
     have HBC:Hid (∀ w' q,BkI enc L w t ks2 (.slice (some ⟨gk,0,none⟩) n2 kc2) (.slice (some ⟨gs,0,none⟩) n2 sc2) q w'→w'.cell? ⟨gk,kk,none⟩=some (.pointer (some ⟨xs,0,none⟩))∧w'.cell? ⟨gs,kk * 3,none⟩=some (.slice xa (asOf xq).length xc)∧w'.cell? ⟨gs,kk * 3 + 1,none⟩=some (.slice ya (asOf xq).length yc)∧w'.cell? ⟨gs,kk * 3 + 2,none⟩=some (.slice (some ⟨xb,0,none⟩) (ln enc (asOf xq)) (ln enc (asOf xq)))):=fun w' q h=>by
      obtain ⟨_,_,e1,e2,q0,q1,q2,q3,_⟩:=h.at kk _ hx
      cases e1
      cases e2
      exact ⟨q0,q1,q2,q3⟩
     have HBE:Hid (∀ w',Below w6.heap.size w6 w'→BkI enc L w t ks2 (.slice (some ⟨gk,0,none⟩) n2 kc2) (.slice (some ⟨gs,0,none⟩) n2 sc2) _ w'):=fun w' hb=>HI6.out.2.ext hb
     have BK:Hid (∀ w',Below w6.heap.size w6 w'→Calls Tryz.prog 40 #[.pointer (some ⟨t,0,none⟩),.pointer (some ⟨xs,0,none⟩)] w' fun e w''=>e=.returned (.int .i64 0)∧Hid (BkI enc L w t ks2 (.slice (some ⟨gk,0,none⟩) n2 kc2) (.slice (some ⟨gs,0,none⟩) n2 sc2) xq w'')):=fun w' hb=>back_seen enc L w t ks2 _ _ _ w' (HI6.out.2.ext hb) _ hxm
     have SEE:Hid (∀ w',BkI enc L w t ks2 (.slice (some ⟨gk,0,none⟩) n2 kc2) (.slice (some ⟨gs,0,none⟩) n2 sc2) xq w'→Calls Tryz.prog 21 #[.pointer (some ⟨t,0,none⟩)] w' fun e w''=>∃ (x1:Option Addr) (x2:Nat) (x3:Option Addr) (x4:Nat) (x5:Option Addr) (x6:Nat),e=.returned (.agg #[.slice x1 (asOf xq).length x2,.slice x3 (asOf xq).length x4,.slice x5 (ln enc (asOf xq)) x6])∧Hid (BkI enc L w t ks2 (.slice (some ⟨gk,0,none⟩) n2 kc2) (.slice (some ⟨gs,0,none⟩) n2 sc2) xq w''∧∀ w3,Below w''.heap.size w'' w3→Calls Tryz.prog 39 #[.agg #[.slice x1 (asOf xq).length x2,.slice x3 (asOf xq).length x4,.slice x5 (ln enc (asOf xq)) x6],.agg #[.slice xa (asOf xq).length xc,.slice ya (asOf xq).length yc,.slice (some ⟨xb,0,none⟩) (ln enc (asOf xq)) (ln enc (asOf xq))]] w3 fun e w4=>e=.returned (.bool true)∧Below w3.heap.size w3 w4)):=fun w' h=>see_same enc L w t ks2 _ _ w' ⟨xs,xq,xa,xc,ya,yc,xb⟩ hxm h
     clear hx hxm
     obtain ⟨q0,q1,q2,q3⟩:=HBC.out w6 _ HI6.out.2
     go_upto_region 22 with fail
     go_cut [97] from 81 to 96 (fun v wF=>v=.bool false∧Hid (BkI enc L w t ks2 (.slice (some ⟨gk,0,none⟩) n2 kc2) (.slice (some ⟨gs,0,none⟩) n2 sc2) xq wF))
     case first =>
      go_region_held3 (fun w'=>w'.cell? ⟨gk,kk,none⟩=some (.pointer (some ⟨xs,0,none⟩))∧w'.cell? ⟨gs,kk * 3,none⟩=some (.slice xa (asOf xq).length xc)∧w'.cell? ⟨gs,kk * 3 + 1,none⟩=some (.slice ya (asOf xq).length yc)∧w'.cell? ⟨gs,kk * 3 + 2,none⟩=some (.slice (some ⟨xb,0,none⟩) (ln enc (asOf xq)) (ln enc (asOf xq)))) (first | exact HBC.out _ _ (HI9.out.ext HB10.out) | exact HBC.out _ _ HI9.out | exact HBC.out _ _ HI8.out | exact HBC.out _ _ (HBE.out _ (by repeat (first | exact Below.refl _ _ | apply Below.drew))) | go_keep) (first
       | (go_at_call 40;refine (BK.out _ (by repeat (first | exact Below.refl _ _ | apply Below.drew))).mono ?_;clear q0 q1 q2 q3;rintro e w8 ⟨rfl,HI8⟩;obtain ⟨q0,q1,q2,q3⟩:=HBC.out w8 _ HI8.out;(try dsimp only))
       | (go_at_call 21;refine (SEE.out _ HI8.out).mono ?_;clear q0 q1 q2 q3;rintro e w9 ⟨x1,x2,x3,x4,x5,x6,rfl,HS9⟩;have HI9:=hidIt HS9.out.1;have SM9:=hidIt (HS9.out.2 w9 (Below.refl _ _));obtain ⟨q0,q1,q2,q3⟩:=HBC.out w9 _ HI9.out;(try dsimp only))
       | (go_at_call 39;refine SM9.out.mono ?_;clear q0 q1 q2 q3;rintro e w10 ⟨rfl,hb10⟩;have HB10:=hidIt hb10;obtain ⟨q0,q1,q2,q3⟩:=HBC.out w10 _ (HI9.out.ext hb10);clear hb10;(try dsimp only)))
      all_goals go_wp2_with fail
      all_goals go_meet
      case rel=>exact ⟨rfl,HI9.out.ext HB10.out⟩
     obtain ⟨rfl,HIc⟩:=hcut
     clear q0 q1 q2 q3
     go_wp2_with fail
     go_roundg (ts.length - (i + 1))
     case rel=>exact ⟨i + 1,ks2,some ⟨gk,0,none⟩,kc2,some ⟨gs,0,none⟩,sc2,xq,n2,by omega,hn2,rfl,rfl,by go_num,HI6.out.1,HIc.out⟩
     case measure=>omega
    ·have hbn2:(n2:Int)≤(kk:Int):=by omega
     go_wp2_with fail
     go_roundg (ts.length - (i + 1))
     case rel=>exact ⟨i + 1,ks2,ka2,kc2,sa2,sc2,ps',n2,by omega,hn2,rfl,rfl,by go_num,HI6.out⟩
     case measure=>omega
   ·have hil2:¬ (i:Int) < (ts.length:Int):=by omega
    go_wp2_with fail
    go_loopg [13] n (fun gk2 p wr2=>∃ (j:Nat) (q:List PG),j + gk2=n∧p=.int .i64 (j:Nat)∧Hid (ks.length=n∧BkI enc L w t ks (.slice ka n kc) (.slice sa n sc) q wr2))
    case atStart=>exact ⟨0,qs,by omega,rfl,HI.out⟩
    case round =>
     obtain ⟨j,q,hj,rfl,HI7⟩:=hrel
     by_cases hjn:j < n
     ·have hjn2:(j:Int) < (n:Int):=by omega
      generalize wr=w7 at *
      obtain ⟨x,hx⟩:∃ x,ks[j]?=some x:=⟨_,List.getElem?_eq_getElem (by have:=HI7.out.1;omega)⟩
      obtain ⟨gk,gs,rfl,rfl,_,_,_,_,hkc1,hsc1,hkc2,hsc2⟩:=HI7.out.2.at j x hx
      have hxm:=List.mem_of_getElem? hx
      obtain ⟨xs,xq,xa,xc,ya,yc,xb⟩:=x
      have HBC:Hid (∀ w' q,BkI enc L w t ks (.slice (some ⟨gk,0,none⟩) n kc) (.slice (some ⟨gs,0,none⟩) n sc) q w'→w'.cell? ⟨gk,j,none⟩=some (.pointer (some ⟨xs,0,none⟩))∧w'.cell? ⟨gs,j * 3,none⟩=some (.slice xa (asOf xq).length xc)∧w'.cell? ⟨gs,j * 3 + 1,none⟩=some (.slice ya (asOf xq).length yc)∧w'.cell? ⟨gs,j * 3 + 2,none⟩=some (.slice (some ⟨xb,0,none⟩) (ln enc (asOf xq)) (ln enc (asOf xq)))):=fun w' q h=>by
       obtain ⟨_,_,e1,e2,q0,q1,q2,q3,_⟩:=h.at j _ hx
       cases e1
       cases e2
       exact ⟨q0,q1,q2,q3⟩
      have HBE:Hid (∀ w',Below w7.heap.size w7 w'→BkI enc L w t ks (.slice (some ⟨gk,0,none⟩) n kc) (.slice (some ⟨gs,0,none⟩) n sc) _ w'):=fun w' hb=>HI7.out.2.ext hb
      have BK:Hid (∀ w',Below w7.heap.size w7 w'→Calls Tryz.prog 40 #[.pointer (some ⟨t,0,none⟩),.pointer (some ⟨xs,0,none⟩)] w' fun e w''=>e=.returned (.int .i64 0)∧Hid (BkI enc L w t ks (.slice (some ⟨gk,0,none⟩) n kc) (.slice (some ⟨gs,0,none⟩) n sc) xq w'')):=fun w' hb=>back_seen enc L w t ks _ _ _ w' (HI7.out.2.ext hb) _ hxm
      have SEE:Hid (∀ w',BkI enc L w t ks (.slice (some ⟨gk,0,none⟩) n kc) (.slice (some ⟨gs,0,none⟩) n sc) xq w'→Calls Tryz.prog 21 #[.pointer (some ⟨t,0,none⟩)] w' fun e w''=>∃ (x1:Option Addr) (x2:Nat) (x3:Option Addr) (x4:Nat) (x5:Option Addr) (x6:Nat),e=.returned (.agg #[.slice x1 (asOf xq).length x2,.slice x3 (asOf xq).length x4,.slice x5 (ln enc (asOf xq)) x6])∧Hid (BkI enc L w t ks (.slice (some ⟨gk,0,none⟩) n kc) (.slice (some ⟨gs,0,none⟩) n sc) xq w''∧∀ w3,Below w''.heap.size w'' w3→Calls Tryz.prog 39 #[.agg #[.slice x1 (asOf xq).length x2,.slice x3 (asOf xq).length x4,.slice x5 (ln enc (asOf xq)) x6],.agg #[.slice xa (asOf xq).length xc,.slice ya (asOf xq).length yc,.slice (some ⟨xb,0,none⟩) (ln enc (asOf xq)) (ln enc (asOf xq))]] w3 fun e w4=>e=.returned (.bool true)∧Below w3.heap.size w3 w4)):=fun w' h=>see_same enc L w t ks _ _ w' ⟨xs,xq,xa,xc,ya,yc,xb⟩ hxm h
      clear hx hxm
      obtain ⟨q0,q1,q2,q3⟩:=HBC.out w7 _ HI7.out.2
      go_upto_region 27 with fail
      go_cut [120] from 104 to 119 (fun v wF=>v=.bool false∧Hid (BkI enc L w t ks (.slice (some ⟨gk,0,none⟩) n kc) (.slice (some ⟨gs,0,none⟩) n sc) xq wF))
      case first =>
       go_region_held3 (fun w'=>w'.cell? ⟨gk,j,none⟩=some (.pointer (some ⟨xs,0,none⟩))∧w'.cell? ⟨gs,j * 3,none⟩=some (.slice xa (asOf xq).length xc)∧w'.cell? ⟨gs,j * 3 + 1,none⟩=some (.slice ya (asOf xq).length yc)∧w'.cell? ⟨gs,j * 3 + 2,none⟩=some (.slice (some ⟨xb,0,none⟩) (ln enc (asOf xq)) (ln enc (asOf xq)))) (first | exact HBC.out _ _ (HI9.out.ext HB10.out) | exact HBC.out _ _ HI9.out | exact HBC.out _ _ HI8.out | exact HBC.out _ _ (HBE.out _ (by repeat (first | exact Below.refl _ _ | apply Below.drew))) | go_keep) (first
        | (go_at_call 40;refine (BK.out _ (by repeat (first | exact Below.refl _ _ | apply Below.drew))).mono ?_;clear q0 q1 q2 q3;rintro e w8 ⟨rfl,HI8⟩;obtain ⟨q0,q1,q2,q3⟩:=HBC.out w8 _ HI8.out;(try dsimp only))
        | (go_at_call 21;refine (SEE.out _ HI8.out).mono ?_;clear q0 q1 q2 q3;rintro e w9 ⟨x1,x2,x3,x4,x5,x6,rfl,HS9⟩;have HI9:=hidIt HS9.out.1;have SM9:=hidIt (HS9.out.2 w9 (Below.refl _ _));obtain ⟨q0,q1,q2,q3⟩:=HBC.out w9 _ HI9.out;(try dsimp only))
        | (go_at_call 39;refine SM9.out.mono ?_;clear q0 q1 q2 q3;rintro e w10 ⟨rfl,hb10⟩;have HB10:=hidIt hb10;obtain ⟨q0,q1,q2,q3⟩:=HBC.out w10 _ (HI9.out.ext hb10);clear hb10;(try dsimp only)))
       all_goals go_wp2_with fail
       all_goals go_meet
       case rel=>exact ⟨rfl,HI9.out.ext HB10.out⟩
      obtain ⟨rfl,HIc⟩:=hcut
      clear q0 q1 q2 q3
      go_wp2_with fail
      go_roundg (n - (j + 1))
      case rel=>exact ⟨j + 1,xq,by omega,by go_num,HI7.out.1,HIc.out⟩
      case measure=>omega
     ·have hjn2:¬ (j:Int) < (n:Int):=by omega
      go_wp2_with fail
      go_ret
      exact ⟨rfl,HI7.out.2.bel⟩
 ·have KN:Hid (∀ w',Calls Tryz.prog 25 #[.int .i64 enc,.slice la L.length lc] w' fun e w''=>e=.returned (.bool false)∧w''=w'):=fun w'=>known_no enc la L.length lc w' hLm hkn
  clear hL hT he3 hlv hkn
  go_enter Tryz.func7,Tryz.ntmps7
  go_wp2_with (first
   | (go_at_call 16;refine (AB.out w).mono ?_;rintro e w1 ⟨rfl,hb1⟩;have HB1:=hidIt hb1;clear hb1;(try dsimp only))
   | (go_at_call 25;refine (KN.out w1).mono ?_;rintro e w1' ⟨rfl,hw1⟩;rw [hw1];clear hw1;(try dsimp only)))
  go_ret
  exact ⟨rfl,HB1.out⟩
end Go.Proofs.YtdkpkncolpapoaaGreat.P

namespace Go.Proofs.YtdkpkncolpapoaaGreat
open Go.ChangeShapes Go.WideShapes Go.ChangeAt Go.RowKit
theorem cSl:Tryz.prog.cellsOf 22=1:=by kernel_rfl
theorem cEs:Tryz.prog.cellsOf 31=1:=by kernel_rfl
theorem cIn:Tryz.prog.cellsOf 3=1:=by kernel_rfl
theorem cBo:Tryz.prog.cellsOf 4=1:=by kernel_rfl
theorem cEd:Tryz.prog.cellsOf 30=3:=by kernel_rfl
theorem cTn:Tryz.prog.cellsOf 70=3:=by kernel_rfl
theorem bulk_in {H:Type} {el sp:List (DataW H)} {d:DataW H} (h:d ∈ el):Rows.uptoBulk d≤Rows.uptoBulk (DataW.slice el sp):=by
 have:=bulk_part h
 simp only [Rows.uptoBulk]
 omega
theorem bulk_agg {H:Type} {parts:List (DataW H)} {d:DataW H} (h:d ∈ parts):Rows.uptoBulk d≤Rows.uptoBulk (DataW.agg parts):=by
 have:=bulk_part h
 simp only [Rows.uptoBulk]
 omega
theorem bulk_len {H:Type} {el sp:List (DataW H)} (h:Rows.uptoBulk (DataW.slice el sp)≤1048576):el.length≤1048576:=by
 have:=bulk_length el
 simp only [Rows.uptoBulk] at h
 omega
theorem inner_boundB {H:Type} {zs:List Int} {d:DataW H} (hd:zs=[]∨∃ el sp,d=DataW.slice el sp∧el.length=zs.length) (hw:Rows.uptoBulk d≤1048576):zs.length≤1048576:=by
 rcases hd with rfl | ⟨el,sp,rfl,hel⟩
 ·simp
 ·have:=bulk_len hw
  omega
theorem inner_of {H:Type} {enc:TypeId × Value→H} {W:World} {fuel:Nat} {c:Value} {d:DataW H} {p:List MemPlace}
  (h:DataW.trod enc Tryz.prog W 0 (fun _=>true) true fuel 22 [c]=some (d,p)) :
  ∃ ao cap zs,c=.slice ao zs.length cap∧Rd .i64 W (.slice ao zs.length cap) zs∧(zs=[]∨∃ el sp,d=.slice el sp∧el.length=zs.length):=by
 have hs:∃ ao len cap,c=.slice ao len cap:=by
  rcases DataW.trod_slice Tryz.underlying22 h with ⟨hcs,_⟩ | ⟨x,l,k,elems,rest,n,_,hcs,_⟩
  ·exact ⟨none,0,0,by simpa using hcs⟩
  ·exact ⟨some x,l,k,by simpa using hcs⟩
 obtain ⟨ao,len,cap,rfl⟩:=hs
 obtain ⟨zs,hr,_,hd⟩:=rd_of (enc:=enc) (d:=d) (p:=p) Tryz.underlying22 Tryz.underlying3 (by kernel_rfl) ⟨fuel,by simpa [Value.cells] using h⟩
 obtain ⟨ao',cap',hv,r1,r2,r3⟩:=id hr
 simp only [Value.slice.injEq] at hv
 obtain ⟨rfl,rfl,rfl⟩:=hv
 exact ⟨ao,cap,zs,rfl,hr,hd⟩
structure EdAt (w:World) (f:Nat→Option Value) (e:P.Ed):Prop where
 c0:f 0=some (.int .i64 e.1)
 c1:f 1=some (.int .i64 e.2.1)
 c2:∃ pv,f 2=some pv∧Rd .i64 w pv e.2.2
 hz:e.2.2.length * 8≤140737488351232
set_option maxRecDepth 100000 in
theorem ed_cellsB {H:Type} {enc:TypeId × Value→H} {w:World} {fuel:Nat} {cs:List Value} {d:DataW H} {p:List MemPlace}
  (h:DataW.trod enc Tryz.prog w 0 (fun _=>true) true fuel 30 cs=some (d,p)) (hw:Rows.uptoBulk d≤1048576) :
  ∃ e:P.Ed,EdAt w (fun i=>cs[i]?) e:=by
 obtain ⟨xs,n,rfl,hx,hl,hxl,hall⟩:=DataW.trod_struct Tryz.underlying30 h
 match xs,hxl with
 | [x0,x1,x2],_ =>
   obtain ⟨k0,e0,r0,w0⟩:=DataW.trod_int Tryz.underlying3 (hall 0 _ rfl)
   obtain ⟨k1,e1,r1,w1⟩:=DataW.trod_int Tryz.underlying3 (hall 1 _ rfl)
   have h2:=hall 2 _ rfl
   have e0':(cs.drop 0).take (Tryz.prog.cellsOf 3)=[.int .i64 k0]:=e0
   have e1':(cs.drop 1).take (Tryz.prog.cellsOf 3)=[.int .i64 k1]:=e1
   have h2':DataW.trod enc Tryz.prog w 0 (fun _=>true) true n 22 ((cs.drop 2).take (Tryz.prog.cellsOf 22))=some x2:=h2
   rw [cEd] at hl
   rw [cIn] at e0' e1'
   rw [cSl] at h2'
   match cs,hl with
   | [c0,c1,c2],_ =>
     simp at e0' e1'
     subst e0';subst e1'
     simp only [List.drop_succ_cons,List.drop_zero,List.take_succ_cons,List.take_zero] at h2'
     obtain ⟨ai,ci,zs,rfl,hr,hd⟩:=inner_of (d:=x2.1) (p:=x2.2) h2'
     refine ⟨(k0,k1,zs),rfl,rfl,⟨_,rfl,hr⟩,?_⟩
     obtain ⟨rfl,_⟩:=Prod.mk.inj hx
     have h1:Rows.uptoBulk x2.1≤1048576:=Nat.le_trans (bulk_agg (d:=x2.1) (by simp)) hw
     have:=inner_boundB hd h1
     show zs.length * 8≤_
     omega
set_option maxRecDepth 100000 in
theorem eds_ofB {H:Type} {enc:TypeId × Value→H} {W:World} {a0:Option Addr} {len0 cap0:Nat} {d:DataW H} {p:List MemPlace}
  (h:DataW.Trod enc Tryz.prog W 0 (fun _=>true) true 31 (.slice a0 len0 cap0) d p) (hw:Rows.uptoBulk d≤1048576) :
  ∃ es,es.length=len0∧P.EdR W (.slice a0 len0 cap0) es∧P.Bnd es:=by
 obtain ⟨fuel,hf⟩:=h
 rcases DataW.trod_slice Tryz.underlying31 hf with ⟨hcs,_⟩ | ⟨x,l,c,elems,rest,n,_,hcs,hx,hb,hl,hm,hlen,hel,_,_⟩
 ·simp [Value.cells] at hcs
  obtain ⟨rfl,rfl,rfl⟩:=hcs
  exact ⟨[],rfl,⟨none,0,rfl,Nat.le_refl _,by omega,fun h=>absurd rfl h⟩,⟨(fun e he=>by cases he),by simp⟩⟩
 ·simp [Value.cells] at hcs
  obtain ⟨rfl,rfl,rfl⟩:=hcs
  rw [cEd] at hel
  obtain ⟨rfl,_⟩:=Prod.mk.inj hx
  obtain ⟨b,off,spot⟩:=x
  have each:∀ i,∃ e:P.Ed,i < len0→EdAt W (fun j=>W.cell? (((⟨b,off,spot⟩:Addr).add (i * 3)).add j)) e:=by
   intro i
   by_cases hi:i < len0
   ·have hi':i < elems.length:=by omega
    have:=hel i hi
    rw [List.getElem?_eq_getElem hi',Option.bind_eq_some_iff] at this
    obtain ⟨cs,hcs,hy⟩:=this
    obtain ⟨e,he⟩:=ed_cellsB (d:=elems[i].1) (p:=elems[i].2) hy (Nat.le_trans (bulk_in (List.mem_map.2 ⟨elems[i],List.getElem_mem hi',rfl⟩)) hw)
    have hcell:=(World.cells?_some hcs).2.2
    refine ⟨e,fun _=>⟨(hcell 0 (by omega)).trans he.c0,(hcell 1 (by omega)).trans he.c1,?_,he.hz⟩⟩
    obtain ⟨pv,h1,h2⟩:=he.c2
    exact ⟨pv,(hcell 2 (by omega)).trans h1,h2⟩
   ·exact ⟨(0,0,[]),fun h=>absurd h hi⟩
  obtain ⟨f,hf'⟩:=Classical.skolem.1 each
  have hlr:((List.range len0).map f).length=len0:=by simp
  refine ⟨(List.range len0).map f,hlr,⟨some ⟨b,off,spot⟩,cap0,by rw [hlr],by rw [hlr];exact hl,by unfold maxLen at hm;exact hm,fun hn=>?_⟩,⟨fun e he=>?_,?_⟩⟩
  ·have hpos:0 < len0:=by rw [← hlr];exact List.length_pos_iff.2 hn
   have hs:spot=none:=by simpa [Addr.add] using World.cell?_spot (hf' 0 hpos).c0
   subst hs
   refine ⟨b,off,rfl,World.block_lt_of_cell? W _ (by simpa [Addr.add] using (hf' 0 hpos).c0),fun i e hie=>?_⟩
   have hi:i < len0:=by have:=(List.getElem?_eq_some_iff.1 hie).1;rwa [hlr] at this
   have e1:e=f i:=by rw [List.getElem?_map,List.getElem?_range hi] at hie;simpa using hie.symm
   subst e1
   have:=hf' i hi
   simp only [Addr.add_lit] at this
   exact ⟨this.c0,this.c1,this.c2⟩
  ·rw [List.mem_map] at he
   obtain ⟨i,hi,rfl⟩:=he
   exact (hf' i (List.mem_range.1 hi)).hz
  ·have:=bulk_len hw
   rw [List.length_map] at this
   rw [hlr]
   omega
structure TnAt (w:World) (f:Nat→Option Value) (x:Bool × List P.Ed × Int):Prop where
 c0:f 0=some (.bool x.1)
 c1:∃ ea ec,f 1=some (.slice ea x.2.1.length ec)∧P.EdR w (.slice ea x.2.1.length ec) x.2.1
 c2:f 2=some (.int .i64 x.2.2)
 bn:P.Bnd x.2.1
set_option maxRecDepth 100000 in
theorem tn_cells {H:Type} {enc:TypeId × Value→H} {w:World} {fuel:Nat} {cs:List Value} {d:DataW H} {p:List MemPlace}
  (h:DataW.trod enc Tryz.prog w 0 (fun _=>true) true fuel 70 cs=some (d,p)) (hw:Rows.uptoBulk d≤1048576) :
  ∃ x,TnAt w (fun i=>cs[i]?) x:=by
 obtain ⟨xs,n,rfl,hx,hl,hxl,hall⟩:=DataW.trod_struct Tryz.underlying70 h
 match xs,hxl with
 | [x0,x1,x2],_ =>
   obtain ⟨k0,e0,r0⟩:=DataW.trod_bool Tryz.underlying4 (hall 0 _ rfl)
   obtain ⟨k2,e2,r2,w2⟩:=DataW.trod_int Tryz.underlying3 (hall 2 _ rfl)
   have h1:=hall 1 _ rfl
   have e0':(cs.drop 0).take (Tryz.prog.cellsOf 4)=[.bool k0]:=e0
   have e2':(cs.drop 2).take (Tryz.prog.cellsOf 3)=[.int .i64 k2]:=e2
   have h1':DataW.trod enc Tryz.prog w 0 (fun _=>true) true n 31 ((cs.drop 1).take (Tryz.prog.cellsOf 31))=some x1:=h1
   rw [cTn] at hl
   rw [cBo] at e0'
   rw [cIn] at e2'
   rw [cEs] at h1'
   match cs,hl with
   | [c0,c1,c2],_ =>
     simp at e0' e2'
     subst e0';subst e2'
     simp only [List.drop_succ_cons,List.drop_zero,List.take_succ_cons,List.take_zero] at h1'
     have hs:∃ ao len cap,c1=.slice ao len cap:=by
      rcases DataW.trod_slice Tryz.underlying31 h1' with ⟨hcs,_⟩ | ⟨x,l,k,_,_,_,_,hcs,_⟩
      ·exact ⟨none,0,0,by simpa using hcs⟩
      ·exact ⟨some x,l,k,by simpa using hcs⟩
     obtain ⟨ao,len,cap,rfl⟩:=hs
     obtain ⟨rfl,_⟩:=Prod.mk.inj hx
     obtain ⟨es,g1,g2,g3⟩:=eds_ofB (enc:=enc) (d:=x1.1) (p:=x1.2) ⟨_,by simpa [Value.cells] using h1'⟩ (Nat.le_trans (bulk_agg (d:=x1.1) (by simp)) hw)
     subst g1
     exact ⟨(k0,es,k2),rfl,⟨ao,cap,rfl,g2⟩,rfl,g3⟩
set_option maxRecDepth 100000 in
theorem turns_of {H:Type} {enc:TypeId × Value→H} {W:World} {a0:Option Addr} {len0 cap0:Nat} {d:DataW H} {p:List MemPlace}
  (h:DataW.Trod enc Tryz.prog W 0 (fun _=>true) true 65 (.slice a0 len0 cap0) d p) (hw:Rows.uptoBulk d≤1048576) :
  ∃ ts,P.TnL W (.slice a0 len0 cap0) ts∧ts.length≤1048576:=by
 obtain ⟨fuel,hf⟩:=h
 rcases DataW.trod_slice Tryz.underlying65 hf with ⟨hcs,_⟩ | ⟨x,l,c,elems,rest,n,_,hcs,hx,hb,hl,hm,hlen,hel,_,_⟩
 ·simp [Value.cells] at hcs
  obtain ⟨rfl,rfl,rfl⟩:=hcs
  exact ⟨[],⟨none,0,rfl,Nat.le_refl _,by omega,fun i x h=>by simp at h⟩,by simp⟩
 ·simp [Value.cells] at hcs
  obtain ⟨rfl,rfl,rfl⟩:=hcs
  rw [cTn] at hel
  obtain ⟨rfl,_⟩:=Prod.mk.inj hx
  obtain ⟨b,off,spot⟩:=x
  have each:∀ i,∃ x:Bool × List P.Ed × Int,i < len0→TnAt W (fun j=>W.cell? (((⟨b,off,spot⟩:Addr).add (i * 3)).add j)) x:=by
   intro i
   by_cases hi:i < len0
   ·have hi':i < elems.length:=by omega
    have:=hel i hi
    rw [List.getElem?_eq_getElem hi',Option.bind_eq_some_iff] at this
    obtain ⟨cs,hcs,hy⟩:=this
    obtain ⟨x,hx⟩:=tn_cells (d:=elems[i].1) (p:=elems[i].2) hy (Nat.le_trans (bulk_in (List.mem_map.2 ⟨elems[i],List.getElem_mem hi',rfl⟩)) hw)
    have hcell:=(World.cells?_some hcs).2.2
    refine ⟨x,fun _=>⟨(hcell 0 (by omega)).trans hx.c0,?_,(hcell 2 (by omega)).trans hx.c2,hx.bn⟩⟩
    obtain ⟨ea,ec,h1,h2⟩:=hx.c1
    exact ⟨ea,ec,(hcell 1 (by omega)).trans h1,h2⟩
   ·exact ⟨(false,[],0),fun h=>absurd h hi⟩
  obtain ⟨f,hf'⟩:=Classical.skolem.1 each
  have hlr:((List.range len0).map f).length=len0:=by simp
  refine ⟨(List.range len0).map f,⟨some ⟨b,off,spot⟩,cap0,by rw [hlr],by rw [hlr];exact hl,by unfold maxLen at hm;exact hm,fun i x hix=>?_⟩,?_⟩
  ·have hi:i < len0:=by have:=(List.getElem?_eq_some_iff.1 hix).1;rwa [hlr] at this
   have e1:x=f i:=by rw [List.getElem?_map,List.getElem?_range hi] at hix;simpa using hix.symm
   subst e1
   have hs:spot=none:=by simpa [Addr.add] using World.cell?_spot (hf' 0 (by omega)).c0
   subst hs
   have:=hf' i hi
   simp only [Addr.add_lit] at this
   obtain ⟨ea,ec,h1,h2⟩:=this.c1
   have hc0:=this.c0
   simp only [Nat.add_zero] at hc0
   exact ⟨b,off,ea,ec,rfl,World.block_lt_of_cell? W _ h1,hc0,h1,this.c2,h2,this.bn⟩
  ·have:=bulk_len hw
   rw [List.length_map] at this
   rw [hlr]
   omega
theorem nil_of {H:Type} {enc:TypeId × Value→H} {W:World} {t e:TypeId} {len0 cap0:Nat} {d:DataW H} {p:List MemPlace} (ht:Tryz.prog.underlying t=some (.slice e))
  (h:DataW.Trod enc Tryz.prog W 0 (fun _=>true) true t (.slice none len0 cap0) d p):len0=0∧cap0=0:=by
 obtain ⟨fuel,hf⟩:=h
 rcases DataW.trod_slice ht hf with ⟨hcs,_⟩ | ⟨x,l,c,elems,rest,n,_,hcs,_⟩
 ·simp [Value.cells] at hcs
  exact hcs
 ·simp [Value.cells] at hcs
end Go.Proofs.YtdkpkncolpapoaaGreat
