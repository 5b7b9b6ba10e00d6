import Derived.Test.YtnkblcipbmliaaaGreatJ00
import Derived.Test.YtnkblcipbmliaaaGreatJ17
import Derived.Test.YtnkblcipbmliaaaGreatJ28
import Derived.Test.YtnkblcipbmliaaaGreatJ11
import Derived.Test.YtnkblcipbmliaaaGreatJ33
import Derived.Test.YtnkblcipbmliaaaGreatJ27
import Derived.Test.YtnkblcipbmliaaaGreatJ35
import Derived.Test.YtnkblcipbmliaaaGreatJ36
import Derived.Test.YtnkblcipbmliaaaGreatJ34
import Derived.Deep.RegionHeld3
import Derived.ProofKit
import Derived.OpenShut
import Derived.ChangeOld
import Derived.SizedLaws
import Derived.Below
namespace Go.Proofs.YtnkblcipbmliaaaGreat.P
open Go.RowKit
theorem Tx.typ0 {enc lim:Int} {L:List Int} {w:World} {t:Nat} {ps:List PG} (h:Tx enc lim L w t ps):Typ 116 w t:=by
 obtain ⟨_,_,h1,_⟩:=h.ex
 exact ⟨_,h1⟩
theorem Tx.same {enc lim:Int} {L:List Int} {w w':World} {t:Nat} {ps:List PG} (h:Tx enc lim L w t ps) (h1:∀ b,Typ 5 w b→w'.heap[b]?=w.heap[b]?) (h2:∀ b,Typ 182 w b→w'.heap[b]?=w.heap[b]?) (h3:∀ b,Typ 116 w b→w'.heap[b]?=w.heap[b]?):Tx enc lim L w' t ps:=by
 obtain ⟨lv,u,k1,k2,k3⟩:=h.ex
 exact ⟨⟨lv,u,(h3 t ⟨_,k1⟩).trans k1,k2.same h1,k3.same h2⟩,h.pc.same h1,h.en,h.by',h.ll,h.l0,h.lm,h.sz⟩
theorem Sn.same {enc:Int} {L:List Int} {w w':World} {s t:Nat} {ps:List PG} (h:Sn enc L w s t ps) (h1:∀ b,Typ 5 w b→w'.heap[b]?=w.heap[b]?) (h2:∀ b,Typ 182 w b→w'.heap[b]?=w.heap[b]?) (h3:∀ b,Typ 150 w b→w'.heap[b]?=w.heap[b]?):Sn enc L w' s t ps:=by
 obtain ⟨u,k1,k2⟩:=h.ex
 exact ⟨⟨u,(h3 s ⟨_,k1⟩).trans k1,k2.same h2⟩,h.pc.same h1,h.sz⟩
structure Bnd (es:List Ed):Prop where
 each:∀ e ∈ es,e.2.2.length * 8≤140737488351232
 len:es.length * 40≤140737488351232
theorem puts_bnd:∀ (es:List Ed) (B:Nat),(∀ e ∈ es,e.2.2.length≤B)→(puts es).length≤es.length * B:=by
 intro es
 induction es with
 | nil=>intro B _;simp [puts]
 | cons e es ih =>
   intro B h
   have h1:=ih B (fun x hx=>h x (List.mem_cons_of_mem _ hx))
   have h2:=h e (List.mem_cons_self ..)
   have e1:puts (e :: es)=e.2.2 ++ puts es:=by simp [puts]
   rw [e1,List.length_append,List.length_cons,Nat.add_mul,Nat.one_mul]
   omega
theorem Bnd.puts {es:List Ed} (h:Bnd es):es.length≤70000→(puts es).length≤2305843009213693951:=fun h7=>by
 have h1:=puts_bnd es 17592186044416 (fun e he=>by have:=h.each e he;omega)
 have h2:es.length * 17592186044416≤70000 * 17592186044416:=Nat.mul_le_mul_right _ h7
 omega
def CgR (enc lim:Int) (L:List Int) (t:Nat) (ps:List PG) (es:List Ed) (w:World) (e:Ending) (w':World):Prop :=
 e=.returned (.tuple #[.int .i64 (chA enc lim (sh enc ps) es),.bool true])∧∃ ps',Tx enc lim L w' t ps'∧sh enc ps'=chT enc lim (sh enc ps) es∧Kps (fun k=>k=t) w w'
set_option maxRecDepth 100000 in
set_option maxHeartbeats 4000000 in
theorem written_nil (enc lim:Int) (L:List Int) (w00 w:World) (t:Nat) (ps:List PG) (v:Value) (es:List Ed) (h:Tx enc lim L w t ps) (hE0:EdR w00 v es) (hb00:Below w00.heap.size w00 w) (ht00:w00.heap.size≤t) (hl:Bnd es) :
  Calls Tryz.prog 45 #[.pointer (some ⟨t,0,none⟩),.pointer none,v] w fun e w'=>CgR enc lim L t ps es w e w':=by
 have hE:=hE0.ext hb00
 have HA:=hidIt (hand_nil v es w hE hl.each hl.len)
 have HT:=hidIt h
 have HE0:=hidIt hE0
 have HB00:=hidIt hb00
 have HL:=hidIt hl
 have hn:es.length≤17592186044416:=by have:=hl.len;omega
 have htl:t < w.heap.size:=h.typ0.lt
 obtain ⟨ao,cap,rfl,hc1,hc2,_⟩:=id hE
 clear h hE hl hE0 hb00
 go_enter Tryz.func45,Tryz.ntmps45
 go_upto_region 2 with (go_at_call 80;refine HA.out.mono ?_;rintro e w1 ⟨r,g,ap,cp,rfl,HH,hb1⟩;have HB1:=hidIt hb1;clear hb1;(try dsimp only))
 obtain ⟨hs,hHd,hes,hr⟩:=HH.out
 have hr2:2≤r∧r≤100:=by omega
 have hln:hs.length=es.length:=by rw [← hes,List.length_map]
 obtain ⟨w2,hw2,k2,hb2⟩:∃ w2,w2=w1.alloc (.cells #[.int .i64 (r:Nat),.slice (some ⟨g,0,none⟩) (es.length + r) (es.length + r),.slice ap es.length cp] 157)∧w2.heap[w1.heap.size]?=some (.cells #[.int .i64 (r:Nat),.slice (some ⟨g,0,none⟩) (es.length + r) (es.length + r),.slice ap es.length cp] 157 (0,0))∧Below w1.heap.size w1 w2:=⟨_,rfl,heap_alloc_new _ _,ext_alloc (Below.refl _ _) _⟩
 have HH2:=hidIt (hHd.ext hb2)
 have HB2:=hidIt (ext_trans HB1.out hb2)
 have HK2:=hidIt k2
 have HES:=hidIt hes
 have HLN:=hidIt hln
 have HHV:Hid (∀ w':World,w'.heap[w1.heap.size]?=w2.heap[w1.heap.size]?→w'.cell? ⟨w1.heap.size,0,none⟩=some (.int .i64 (r:Nat))∧w'.cell? ⟨w1.heap.size,1,none⟩=some (.slice (some ⟨g,0,none⟩) (es.length + r) (es.length + r))∧w'.cell? ⟨w1.heap.size,2,none⟩=some (.slice ap es.length cp)):=fun w' hq=>by
  have e:=hq.trans HK2.out
  refine ⟨?_,?_,?_⟩ <;> (rw [cell_of_row w' _ _ _ _ _ e];rfl)
 have h1l:w1.heap.size < w2.heap.size:=(Array.getElem?_eq_some_iff.1 k2).1
 rw [← hw2]
 clear hw2 k2 hb2 hHd hes hln HH HA
 have ED:=hidIt (hEdits_any r g (es.length + r) ap es.length cp w2 (by omega) (by omega) (by omega))
 rw [Nat.add_sub_cancel] at ED
 have CH:Hid (∀ w',Below w2.heap.size w2 w'→Calls Tryz.prog 19 #[.pointer (some ⟨t,0,none⟩),.slice (some ⟨g,0,none⟩) es.length (es.length + r)] w' fun e w''=>e=.returned (.int .i64 (chA enc lim (sh enc ps) es))∧Hid (∃ ps',Tx enc lim L w'' t ps'∧sh enc ps'=chT enc lim (sh enc ps) es∧Kps (fun k=>k=t) w' w'')):=fun w' hb=>by
  have h1:=(HH2.out.ext hb).edr (by have:=HLN.out;omega) (by omega)
  rw [HES.out,HLN.out] at h1
  exact (Change_any enc lim L w' t ps _ es (HT.out.ext (ext_trans HB2.out hb)) h1 HL.out.puts).mono fun e w'' h=>h
 obtain ⟨c0,c1,c2⟩:=HHV.out w2 rfl
 go_upto_region 3 with (first
  | (go_at_call 81;refine ED.out.mono ?_;rintro e w3 ⟨rfl,hb3⟩;have HB3:=hidIt hb3;have CH3:=hidIt (CH.out w3 hb3);clear hb3 c0 c1 c2;(try dsimp only))
  | (go_at_call 19;refine CH3.out.mono ?_;rintro e w4 ⟨rfl,HC4⟩;(try dsimp only)))
 obtain ⟨ps',hT4,hsh4,hk4⟩:=HC4.out
 have HTY:=hidIt (show Typ 116 w3 t from (HT.out.ext (ext_trans HB2.out HB3.out)).typ0)
 have hst4:∀ T,T≠116→∀ b,Typ T w3 b→w4.heap[b]?=w3.heap[b]?:=fun T hT b hb=>hk4.same b hb.lt (fun e=>hT (by subst e;exact hb.uniq HTY.out))
 have HH4:=hidIt ((HH2.out.ext HB3.out).same (hst4 _ (by decide)) (hst4 _ (by decide)) (hst4 _ (by decide)))
 have hbk4:w4.heap[w1.heap.size]?=w2.heap[w1.heap.size]?:=by
  have e3:=HB3.out.block _ h1l
  rw [hst4 157 (by decide) _ ⟨_,e3.trans HK2.out⟩,e3]
 have hB4:Below w00.heap.size w00 w4:=by
  have h3:=ext_trans HB00.out (ext_trans HB2.out HB3.out)
  exact h3.trans (hk4.below h3.size (fun k hk=>by omega))
 have WH:=hidIt (whole_any w.heap.size r g ap cp hs es (.slice ao es.length cap) w4 HH4.out HES.out (HE0.out.ext hB4) hr2 hn (fun e he=>by have:=HL.out.each e he;omega))
 have HT4:=hidIt hT4
 have HS4:=hidIt hsh4
 have HKK4:Hid (Kps (fun k=>k=t) w w4):=(Kps.of_below (fun k=>k=t) (ext_trans HB2.out HB3.out)).trans hk4 fun _ _ e=>e
 have HBK4:=hidIt hbk4
 obtain ⟨c0,c1,c2⟩:=HHV.out w4 hbk4
 clear hT4 hsh4 hk4 hst4 hbk4 hB4 HC4
 go_upto_region 4 with (go_at_call 82;refine WH.out.mono ?_;rintro e w5 ⟨rfl,hb5⟩;have HB5:=hidIt hb5;clear hb5 c0 c1 c2;(try dsimp only))
 have h1l4:w1.heap.size < w4.heap.size:=(Array.getElem?_eq_some_iff.1 (HBK4.out.trans HK2.out)).1
 obtain ⟨c0,c1,c2⟩:=HHV.out w5 ((HB5.out.block _ h1l4).trans HBK4.out)
 have hH5:=HH4.out.ext HB5.out
 have hS5:=hH5.sp
 have HSP:Hid (Calls Tryz.prog 83 #[.agg #[.int .i64 (r:Nat),.slice (some ⟨g,0,none⟩) (es.length + r) (es.length + r),.slice ap es.length cp]] w5 fun e w'=>(∃ v,e=.returned v)∧Kps (fun k=>(∃ y ∈ hs,k=y.b)∨k=g) w5 w'):=by
  have:=spoil_any w.heap.size r g (es.length + r) ap cp hs w5 (by rw [HLN.out];exact hS5) (by omega) (by have:=HLN.out;omega) (fun x hx=>(hH5.each x hx).ln)
  rwa [HLN.out] at this
 have HS5:=hidIt hS5
 have HH5:=hidIt hH5
 clear hS5 hH5
 go_wp2_with (go_at_call 83;refine HSP.out.mono ?_;rintro e w6 ⟨⟨u,rfl⟩,hk6⟩;have HK6:=hidIt hk6;clear hk6 c0 c1 c2;(try dsimp only))
 go_ret2
 have hst6:∀ T,T≠3→T≠30→∀ b,Typ T w5 b→w6.heap[b]?=w5.heap[b]?:=fun T h1 h2 b hb=>HK6.out.same b hb.lt (fun e=>by
  rcases e with ⟨y,hy,rfl⟩ | rfl
  ·obtain ⟨ys,hys⟩:=HS5.out.each y hy
   exact h1 (hb.uniq (HE.typ hys))
  ·exact h2 (hb.uniq (own_typ HH5.out.all)))
 refine ⟨rfl,ps',(HT4.out.ext HB5.out).same (hst6 _ (by decide) (by decide)) (hst6 _ (by decide) (by decide)) (hst6 _ (by decide) (by decide)),HS4.out,?_⟩
 refine (HKK4.out.trans (Kps.of_below (fun k=>k=t) HB5.out) fun _ _ e=>e).trans HK6.out fun i hi e=>?_
 rcases e with ⟨y,hy,rfl⟩ | e
 ·have:=(HH5.out.each y hy).ge
  omega
 ·have:w.heap.size≤g:=(HH5.out.all.lt g rfl).1
  omega
set_option maxRecDepth 100000 in
theorem changed_any (enc lim:Int) (L:List Int) (w00 w:World) (t:Nat) (ps:List PG) (v:Value) (es:List Ed) (h:Tx enc lim L w t ps) (hE0:EdR w00 v es) (hb00:Below w00.heap.size w00 w) (ht00:w00.heap.size≤t) (hl:Bnd es) :
  Calls Tryz.prog 30 #[.pointer (some ⟨t,0,none⟩),v] w fun e w'=>CgR enc lim L t ps es w e w':=by
 have WR:=hidIt (written_nil enc lim L w00 w t ps v es h hE0 hb00 ht00 hl)
 obtain ⟨ao,cap,rfl,_⟩:=id hE0
 clear h hE0 hb00
 go_enter Tryz.func30,Tryz.ntmps30
 go_wp2_with (go_at_call 45;refine WR.out.mono ?_;rintro e w1 ⟨rfl,hc1⟩;have HC1:=hidIt hc1;clear hc1;(try dsimp only))
 go_ret2
 exact ⟨rfl,HC1.out⟩
end Go.Proofs.YtnkblcipbmliaaaGreat.P

namespace Go.Proofs.YtnkblcipbmliaaaGreat.P
open Go.RowKit
set_option maxRecDepth 100000 in
theorem known_yes (enc:Int) (la:Option Addr) (n lc:Nat) (w:World) (h:1≤enc∧enc≤4∧n≤65536):Calls Tryz.prog 25 #[.int .i64 enc,.slice la n lc] w fun e w'=>e=.returned (.bool true)∧w'=w:=by
 obtain ⟨h1,h2,h3⟩:=h
 have h3':(n:Int)≤65536:=by omega
 go_enter Tryz.func25,Tryz.ntmps25
 go_wp2_with fail
 go_ret
 exact ⟨rfl,rfl⟩
set_option maxRecDepth 100000 in
theorem known_no (enc:Int) (la:Option Addr) (n lc:Nat) (w:World) (hn:n≤9223372036854775807) (h:¬ (1≤enc∧enc≤4∧n≤65536)):Calls Tryz.prog 25 #[.int .i64 enc,.slice la n lc] w fun e w'=>e=.returned (.bool false)∧w'=w:=by
 by_cases h1:1≤enc
 ·by_cases h2:enc≤4
  ·have h3':¬ (n:Int)≤65536:=by omega
   clear h
   go_enter Tryz.func25,Tryz.ntmps25
   go_wp2_with fail
   go_ret
   exact ⟨rfl,rfl⟩
  ·clear h
   go_enter Tryz.func25,Tryz.ntmps25
   go_wp2_with fail
   go_ret
   exact ⟨rfl,rfl⟩
 ·clear h
  go_enter Tryz.func25,Tryz.ntmps25
  go_wp2_with fail
  go_ret
  exact ⟨rfl,rfl⟩
end Go.Proofs.YtnkblcipbmliaaaGreat.P

namespace Go.Proofs.YtnkblcipbmliaaaGreat.P
open Go.RowKit
structure KS where
 s:Nat
 qs:List PG
 aa:Option Addr
 ca:Nat
 ta:Option Addr
 ct:Nat
 b:Nat
def KS.ptr (k:KS):Value:=.pointer (some ⟨k.s,0,none⟩)
def KS.cs (enc:Int) (k:KS):List Value:=[.slice k.aa (asOf k.qs).length k.ca,.slice k.ta (asOf k.qs).length k.ct,.slice (some ⟨k.b,0,none⟩) (ln enc (asOf k.qs)) (ln enc (asOf k.qs))]
structure KOk (enc:Int) (L:List Int) (base t:Nat) (w:World) (k:KS):Prop where
 sn:Sn enc L w k.s t k.qs
 oa:OwnI w base (.slice k.aa (asOf k.qs).length k.ca) (asOf k.qs)
 ot:OwnI w base (.slice k.ta (asOf k.qs).length k.ct) ((sh enc k.qs).map Prod.snd)
 ob:RwU w k.b 0 (Cx.encB enc (asOf k.qs))
theorem KOk.same {enc:Int} {L:List Int} {base t:Nat} {w w':World} {k:KS} (h:KOk enc L base t w k) (h1:∀ b,Typ 5 w b→w'.heap[b]?=w.heap[b]?) (h2:∀ b,Typ 182 w b→w'.heap[b]?=w.heap[b]?) (h3:∀ b,Typ 150 w b→w'.heap[b]?=w.heap[b]?) (h4:∀ b,Typ 3 w b→w'.heap[b]?=w.heap[b]?):KOk enc L base t w' k :=
 ⟨h.sn.same h1 h2 h3,ownsRow_same h.oa h4,ownsRow_same h.ot h4,h.ob.same (h1 _ h.ob.typ)⟩
structure BkI (enc:Int) (L:List Int) (w:World) (t:Nat) (ks:List KS) (kv sv:Value) (qs:List PG) (wr:World):Prop where
 tx:Tx enc 65536 L wr t qs
 each:∀ k ∈ ks,KOk enc L w.heap.size t wr k
 kr:wr.ownsRow w.heap.size 71 1 kv ks.length (ks.map KS.ptr)
 sr:wr.ownsRow w.heap.size 36 3 sv ks.length (ks.flatMap (KS.cs enc))
 bel:Below w.heap.size w wr
 tl:w.heap.size≤t
theorem BkI.ext {enc:Int} {L:List Int} {w:World} {t:Nat} {ks:List KS} {kv sv:Value} {qs:List PG} {wr w':World} (h:BkI enc L w t ks kv sv qs wr) (hb:Below wr.heap.size wr w'):BkI enc L w t ks kv sv qs w' :=
 have hst:∀ T,∀ b,Typ T wr b→w'.heap[b]?=wr.heap[b]?:=fun _ b hb'=>hb.block b hb'.lt
 ⟨h.tx.ext hb,fun k hk=>(h.each k hk).same (hst _) (hst _) (hst _) (hst _),ownsRow_same h.kr (hst _),ownsRow_same h.sr (hst _),ext_trans h.bel hb,h.tl⟩
theorem BkI.kps {enc:Int} {L:List Int} {w:World} {t:Nat} {ks:List KS} {kv sv:Value} {qs qs':List PG} {wr w':World} (h:BkI enc L w t ks kv sv qs wr) (hk:Kps (fun k=>k=t) wr w') (hT:Tx enc 65536 L w' t qs'):BkI enc L w t ks kv sv qs' w':=by
 have ht:=h.tx.typ0
 have hst:∀ T,T≠116→∀ b,Typ T wr b→w'.heap[b]?=wr.heap[b]?:=fun T hT b hb=>hk.same b hb.lt (fun e=>hT (by subst e;exact hb.uniq ht))
 exact ⟨hT,fun k hk'=>(h.each k hk').same (hst _ (by decide)) (hst _ (by decide)) (hst _ (by decide)) (hst _ (by decide)),ownsRow_same h.kr (hst _ (by decide)),ownsRow_same h.sr (hst _ (by decide)),h.bel.trans (hk.below h.bel.size (fun k e=>by have:=h.tl;omega)),h.tl⟩
theorem BkI.grown {enc:Int} {L:List Int} {w:World} {t:Nat} {ks:List KS} {kv sv:Value} {qs:List PG} {wr w':World} (h:BkI enc L w t ks kv sv qs wr) (v:Value) (T:TypeId) (hT:∀ g,v.ownBlock=some g→Typ T wr g∧w.heap.size≤g) (hg:wr.grownBy w' v.ownBlock) (h1:116≠T) (h2:5≠T) (h3:182≠T) (h4:150≠T) (h5:3≠T) :
  Tx enc 65536 L w' t qs∧(∀ k ∈ ks,KOk enc L w.heap.size t w' k)∧Below w.heap.size w w'∧(71≠T→w'.ownsRow w.heap.size 71 1 kv ks.length (ks.map KS.ptr))∧(36≠T→w'.ownsRow w.heap.size 36 3 sv ks.length (ks.flatMap (KS.cs enc)))∧∀ U,U≠T→∀ b,Typ U wr b→w'.heap[b]?=wr.heap[b]?:=by
 have hst:∀ U,U≠T→∀ b,Typ U wr b→w'.heap[b]?=wr.heap[b]?:=fun U hU b hb=>hg.block b hb.lt (fun e=>hU (hb.uniq (hT b e.symm).1))
 exact ⟨h.tx.same (hst _ h2) (hst _ h3) (hst _ h1),fun k hk=>(h.each k hk).same (hst _ h2) (hst _ h3) (hst _ h4) (hst _ h5),Below.grown h.bel hg h.bel.size (fun k e=>(hT k e).2),fun hn=>ownsRow_same h.kr (hst _ hn),fun hn=>ownsRow_same h.sr (hst _ hn),hst⟩
theorem BkI.at {enc:Int} {L:List Int} {w:World} {t n:Nat} {ks:List KS} {ka sa:Option Addr} {kc sc:Nat} {qs:List PG} {wr:World} (h:BkI enc L w t ks (.slice ka n kc) (.slice sa n sc) qs wr) (i:Nat) (k:KS) (hk:ks[i]?=some k):∃ gk gs,ka=some ⟨gk,0,none⟩∧sa=some ⟨gs,0,none⟩∧wr.cell? ⟨gk,i,none⟩=some k.ptr∧wr.cell? ⟨gs,i * 3,none⟩=some (.slice k.aa (asOf k.qs).length k.ca)∧wr.cell? ⟨gs,i * 3 + 1,none⟩=some (.slice k.ta (asOf k.qs).length k.ct)∧wr.cell? ⟨gs,i * 3 + 2,none⟩=some (.slice (some ⟨k.b,0,none⟩) (ln enc (asOf k.qs)) (ln enc (asOf k.qs)))∧n≤kc∧n≤sc∧kc≤9223372036854775807∧sc≤9223372036854775807:=by
 have hi:=(List.getElem?_eq_some_iff.1 hk).1
 have h1:=h.kr
 have h2:=h.sr
 rcases h1.2 with ⟨_,e⟩ | ⟨gk,c1,cur1,hv1,_,_,hc1,hm1,_⟩
 ·omega
 rcases h2.2 with ⟨_,e⟩ | ⟨gs,c2,cur2,hv2,_,_,hc2,hm2,_⟩
 ·omega
 simp only [Value.slice.injEq] at hv1 hv2
 obtain ⟨rfl,rfl,rfl⟩:=hv1
 obtain ⟨rfl,_,rfl⟩:=hv2
 obtain ⟨f0,f1,f2⟩:=fm3 (fun k:KS=>Value.slice k.aa (asOf k.qs).length k.ca) (fun k:KS=>Value.slice k.ta (asOf k.qs).length k.ct) (fun k:KS=>Value.slice (some ⟨k.b,0,none⟩) (ln enc (asOf k.qs)) (ln enc (asOf k.qs))) ks i k hk
 unfold maxLen at hm1 hm2
 exact ⟨gk,gs,rfl,rfl,(h1.cellAt i (by omega)).trans (by rw [List.getElem?_map,hk];rfl),(h2.cellAt _ (by omega)).trans f0,(h2.cellAt _ (by omega)).trans f1,(h2.cellAt _ (by omega)).trans f2,hc1,hc2,hm1,hm2⟩
end Go.Proofs.YtnkblcipbmliaaaGreat.P

namespace Go.Proofs.YtnkblcipbmliaaaGreat
open Go.ChangeShapes Go.WideShapes Go.ChangeAt Go.RowKit
theorem ownK:ownKnob Tryz.prog.godebug=none:=by kernel_rfl
theorem laidOutK:laidOutB Tryz.prog=true:=by kernel_rfl
theorem rd_of {H:Type} {enc:TypeId × Value→H} {W:World} {t e:TypeId} {k:IntKind} {a0:Option Addr} {len0 cap0:Nat} {d:DataW H} {p:List MemPlace}
  (ht:Tryz.prog.underlying t=some (.slice e)) (he:Tryz.prog.underlying e=some (.int k)) (hc:Tryz.prog.cellsOf e=1)
  (h:DataW.Trod enc Tryz.prog W 0 (fun _=>true) true t (.slice a0 len0 cap0) d p) :
  ∃ zs,Rd k W (.slice a0 len0 cap0) zs∧(∀ n ∈ zs,(Lit.int k n).wf=true)∧(zs=[]∨∃ el sp,d=.slice el sp∧el.length=zs.length):=by
 obtain ⟨fuel,hf⟩:=h
 rcases open_ints ht he hc hf with ⟨hcs,_⟩ | ⟨x,l,c,zs,hcs,_,hl,hm,hz,hx,hcell,hwz⟩
 ·simp [Value.cells] at hcs
  obtain ⟨rfl,rfl,rfl⟩:=hcs
  exact ⟨[],⟨none,0,rfl,Nat.le_refl _,by simp [maxLen],fun h=>absurd rfl h⟩,by simp,.inl rfl⟩
 ·simp [Value.cells] at hcs
  obtain ⟨rfl,rfl,rfl⟩:=hcs
  simp at hz
  have hlen:(zs.take len0).length=len0:=by rw [List.length_take];omega
  refine ⟨zs.take len0,⟨some x,cap0,by rw [hlen],by omega,hm,fun hn=>?_⟩,fun n hn=>hwz n (List.mem_of_mem_take hn),.inr ⟨_,_,(Prod.mk.inj hx).1,by simp [lits]⟩⟩
  have hpos:0 < len0:=by
   rcases Nat.eq_zero_or_pos len0 with h | h
   ·subst h;simp at hn
   ·exact h
  obtain ⟨b,off,spot⟩:=x
  have hc0:=hcell 0 (by omega)
  have hspot:spot=none:=by simpa [Addr.add] using World.cell?_spot hc0
  subst hspot
  refine ⟨b,off,rfl,World.block_lt_of_cell? W _ (by simpa [Addr.add] using hc0),fun i hi=>?_⟩
  rw [hlen] at hi
  have:=hcell i (by omega)
  rw [Addr.add_lit] at this
  rw [this,List.getElem?_take,if_pos hi]
  simp [List.getD]
theorem byt_of {zs:List Int} (h:∀ n ∈ zs,(Lit.int .u8 n).wf=true):Byt zs:=by
 intro z hz
 have:=bounds_u8 (h z hz)
 omega
end Go.Proofs.YtnkblcipbmliaaaGreat

namespace Go.Proofs.YtnkblcipbmliaaaGreat.P
open Go.RowKit
def tgd (l:List (Int × Int)):List (Int × Int):=l.filter fun x=>x.2 != -1
theorem tgd_app (a b:List (Int × Int)):tgd (a ++ b)=tgd a ++ tgd b:=by unfold tgd;exact List.filter_append ..
theorem tgd_new (p:List Int):tgd (p.map fun a=>(a,(-1:Int)))=[]:=by
 induction p with
 | nil=>rfl
 | cons a p ih=>unfold tgd at *;rw [List.map_cons,List.filter_cons_of_neg (by simp)];exact ih
theorem tgd_ap (l:List (Int × Int)):∀ (es:List Ed) (p:Nat),rg l.length p es=true→(tgd (apE l p es)).Sublist (tgd (l.drop p)):=by
 intro es
 induction es with
 | nil=>intro p _;exact List.Sublist.refl _
 | cons e es ih =>
   intro p h
   rw [rg_cons] at h
   obtain ⟨⟨h1,h2,h3⟩,h4⟩:=h
   have k:=ih e.2.1.toNat (by rwa [Int.toNat_of_nonneg (by omega)])
   have e1:tgd (l.drop p)=tgd ((l.drop p).take (e.1.toNat - p)) ++ tgd (l.drop e.1.toNat):=by
    rw [← tgd_app]
    have:l.drop e.1.toNat=(l.drop p).drop (e.1.toNat - p):=by rw [List.drop_drop];congr 1;omega
    rw [this,List.take_append_drop]
   have e2:l.drop e.2.1.toNat=(l.drop e.1.toNat).drop (e.2.1.toNat - e.1.toNat):=by rw [List.drop_drop];congr 1;omega
   rw [apE,tgd_app,tgd_app,tgd_new,List.append_nil,e1]
   refine List.Sublist.append (List.Sublist.refl _) (k.trans ?_)
   rw [e2]
   exact (List.drop_sublist _ _).filter _
theorem tgd_ch (enc lim:Int) (l:List (Int × Int)) (es:List Ed):(tgd (chT enc lim l es)).Sublist (tgd l):=by
 unfold chT
 split
 ·rename_i h
  have hc:ckA enc lim l.length es=0:=by
   unfold chA at h
   split at h
   ·assumption
   ·exact h
  have:=tgd_ap l es 0 (ck_zero hc).2.1
  rwa [List.drop_zero] at this
 ·exact List.Sublist.refl _
theorem ctn_mem (enc:Int):∀ (g:List Int) (pl:Int),0≤pl→∀ x ∈ ctn enc pl g,∃ a b:List Int,g=a ++ x.1 :: b∧x.2=pl + (ln enc a:Nat):=by
 intro g
 induction g with
 | nil=>intro pl _ x hx;simp [ctn] at hx
 | cons a0 g ih =>
   intro pl h x hx
   rw [ctn,List.mem_cons] at hx
   rcases hx with rfl | hx
   ·exact ⟨[],g,rfl,by rw [ln_nil];simp⟩
   ·have ht:tg pl ((Cx.put enc a0).length:Nat)=pl + ((Cx.put enc a0).length:Nat):=by unfold tg;rw [if_neg (by omega)]
    rw [ht] at hx
    obtain ⟨a,b,h1,h2⟩:=ih _ (by omega) x hx
    refine ⟨a0 :: a,b,by rw [h1];rfl,?_⟩
    rw [h2,ln_cons]
    omega
theorem ctn_rise (enc:Int):∀ (g:List Int) (pl:Int),0≤pl→(ctn enc pl g).Pairwise (fun x y=>x.2 < y.2):=by
 intro g
 induction g with
 | nil=>intro pl _;exact List.Pairwise.nil
 | cons a0 g ih =>
   intro pl h
   have ht:tg pl ((Cx.put enc a0).length:Nat)=pl + ((Cx.put enc a0).length:Nat):=by unfold tg;rw [if_neg (by omega)]
   rw [ctn,ht]
   refine List.Pairwise.cons (fun y hy=>?_) (ih _ (by omega))
   obtain ⟨a,b,_,h2⟩:=ctn_mem enc g _ (by omega) y hy
   have:=(Cx.put_len enc a0).1
   rw [h2]
   show pl < _
   omega
def Fai (enc:Int) (L:List Int) (l:List (Int × Int)):Prop:=(tgd l).Sublist (ctn enc 0 (Cx.dec enc L))
theorem Fai.first (enc:Int) (L:List Int):Fai enc L (ctn enc 0 (Cx.dec enc L)):=List.filter_sublist
theorem Fai.ch {enc:Int} {L:List Int} {l:List (Int × Int)} (h:Fai enc L l) (lim:Int) (es:List Ed):Fai enc L (chT enc lim l es):=(tgd_ch enc lim l es).trans h
theorem Fai.at {enc:Int} (he:Cx.En enc) {L:List Int} (hB:Byt L) {l:List (Int × Int)} (h:Fai enc L l) (x:Int × Int) (hx:x ∈ l) (hn:x.2≠-1):∃ k:Nat,x.2=(k:Int)∧k + (Cx.put enc x.1).length≤L.length∧(L.drop k).take (Cx.put enc x.1).length=Cx.put enc x.1:=by
 have hm:x ∈ ctn enc 0 (Cx.dec enc L):=h.subset (by unfold tgd;rw [List.mem_filter];exact ⟨hx,by simpa using hn⟩)
 obtain ⟨a,b,h1,h2⟩:=ctn_mem enc _ 0 (Int.le_refl _) x hm
 have hb:=(Cx.back_all enc he L.length L (Nat.le_refl _) hB).1
 rw [h1,Cx.encB_app,Cx.encB_cons] at hb
 refine ⟨ln enc a,by rw [h2];omega,?_,?_⟩
 ·have:=congrArg List.length hb
  rw [List.length_append,List.length_append] at this
  show (Cx.encB enc a).length + _≤_
  omega
 ·rw [← hb,show ln enc a=(Cx.encB enc a).length from rfl,List.drop_left,List.take_left]
theorem Fai.rise {enc:Int} {L:List Int} {l:List (Int × Int)} (h:Fai enc L l) (i:Nat) (x:Int × Int) (hx:l[i]?=some x) (hn:x.2≠-1):∀ y ∈ l.drop (i + 1),y.2≠-1→x.2 < y.2:=by
 have hp:(tgd l).Pairwise (fun x y=>x.2 < y.2):=(ctn_rise enc _ 0 (Int.le_refl _)).sublist h
 have hi:=(List.getElem?_eq_some_iff.1 hx).1
 have hl:l=l.take i ++ x :: l.drop (i + 1):=by
  have e:l.drop i=x :: l.drop (i + 1):=by
   rw [List.drop_eq_getElem_cons hi]
   congr 1
   exact (List.getElem?_eq_some_iff.1 hx).2
  rw [← e,List.take_append_drop]
 intro y hy hyn
 rw [hl,tgd_app,List.pairwise_append] at hp
 have h2:=hp.2.1
 have e2:tgd (x :: l.drop (i + 1))=x :: tgd (l.drop (i + 1)):=by unfold tgd;rw [List.filter_cons_of_pos (by simpa using hn)]
 rw [e2,List.pairwise_cons] at h2
 exact h2.1 y (by unfold tgd;rw [List.mem_filter];exact ⟨hy,by simpa using hyn⟩)
end Go.Proofs.YtnkblcipbmliaaaGreat.P

namespace Go.Proofs.YtnkblcipbmliaaaGreat.P
open Go.RowKit
theorem rd_at {k:IntKind} {w:World} {ao:Option Addr} {n c:Nat} {zs:List Int} (h:Rd k w (.slice ao n c) zs) (i:Nat) (hi:i < zs.length):∃ b o,ao=some ⟨b,o,none⟩∧b < w.heap.size∧w.cell? ⟨b,o + i,none⟩=some (.int k (zs[i]?.getD 0))∧n≤c:=by
 obtain ⟨ao',c',e1,h1,_,h3⟩:=h
 simp only [Value.slice.injEq] at e1
 obtain ⟨rfl,rfl,rfl⟩:=e1
 obtain ⟨b,o,rfl,hb,hc⟩:=h3 (by intro e;subst e;simp at hi)
 exact ⟨b,o,rfl,hb,hc i hi,h1⟩
end Go.Proofs.YtnkblcipbmliaaaGreat.P

namespace Go.Proofs.YtnkblcipbmliaaaGreat.P
open Go.RowKit
def EdL (w:World) (v:Value) (ess:List (List Ed)):Prop :=
 ∃ ao cap,v=.slice ao ess.length cap∧ess.length≤cap∧cap≤9223372036854775807∧∀ i es,ess[i]?=some es→∃ b o ea ec,ao=some ⟨b,o,none⟩∧b < w.heap.size∧w.cell? ⟨b,o + i,none⟩=some (.slice ea es.length ec)∧EdR w (.slice ea es.length ec) es∧Bnd es
theorem rd8_kpt {enc lim:Int} {L:List Int} {w w':World} {t:Nat} {ps:List PG} (h:Tx enc lim L w t ps) (hk:Kps (fun k=>k=t) w w') {v:Value} {zs:List Int} (hr:Rd .u8 w v zs):Rd .u8 w' v zs:=by
 obtain ⟨ao,cap,h1,h2,h3,h4⟩:=hr
 refine ⟨ao,cap,h1,h2,h3,fun hn=>?_⟩
 obtain ⟨b,off,k1,k2,k3⟩:=h4 hn
 have hbt:b≠t:=fun e=>by
  subst e
  obtain ⟨lv,u,m1,m2,_⟩:=h.ex
  have c:=k3 0 (List.length_pos_iff.2 hn)
  rw [cell_of_row w b _ _ _ _ m1,Nat.add_zero] at c
  obtain ⟨bl,ol,cl,rfl,_⟩:=m2
  match off with
  | 0=>simp at c
  | 1=>simp at c
  | 2=>simp at c
  | 3=>simp at c
  | n + 4=>simp at c
 refine ⟨b,off,k1,Nat.lt_of_lt_of_le k2 hk.size,fun i hi=>?_⟩
 rw [← k3 i hi]
 exact World.cell?_of_block (hk.same b k2 hbt)
structure FtI (enc:Int) (L:List Int) (w:World) (t s bx:Nat) (ps0 ps:List PG) (va vt vb:Value) (wr:World):Prop where
 tx:Tx enc 65536 L wr t ps
 fai:Fai enc L (sh enc ps)
 sn:Sn enc L wr s t ps0
 blk:wr.heap[bx]?=some (.cells #[va,vt,vb] 36 (0,0))
 oa:OwnI wr w.heap.size va (asOf ps0)
 ot:OwnI wr w.heap.size vt ((sh enc ps0).map Prod.snd)
 ob:Rd .u8 wr vb (Cx.encB enc (asOf ps0))
 bel:Below w.heap.size w wr
 tl:w.heap.size≤t
theorem FtI.ext {enc:Int} {L:List Int} {w:World} {t s bx:Nat} {ps0 ps:List PG} {va vt vb:Value} {wr w':World} (h:FtI enc L w t s bx ps0 ps va vt vb wr) (hb:Below wr.heap.size wr w'):FtI enc L w t s bx ps0 ps va vt vb w' :=
 ⟨h.tx.ext hb,h.fai,h.sn.ext hb,(hb.block _ (Array.getElem?_eq_some_iff.1 h.blk).1).trans h.blk,h.oa.ext hb,h.ot.ext hb,h.ob.ext hb,ext_trans h.bel hb,h.tl⟩
theorem OwnI.kpt0 {w w':World} {base t:Nat} {v:Value} {zs:List Int} (h:OwnI w base v zs) (hk:Kps (fun k=>k=t) w w') (ht:Typ 116 w t):OwnI w' base v zs :=
 ownsRow_same h fun b hb=>hk.same b hb.lt (fun e=>by subst e;exact absurd (hb.uniq ht) (by decide))
theorem FtI.kps {enc:Int} {L:List Int} {w:World} {t s bx:Nat} {ps0 ps ps':List PG} {va vt vb:Value} {wr w':World} (h:FtI enc L w t s bx ps0 ps va vt vb wr) (hk:Kps (fun k=>k=t) wr w') (hT:Tx enc 65536 L w' t ps') (hF:Fai enc L (sh enc ps')):FtI enc L w t s bx ps0 ps' va vt vb w':=by
 have ht:=h.tx.typ0
 have hst:∀ T,T≠116→∀ b,Typ T wr b→w'.heap[b]?=wr.heap[b]?:=fun T hT b hb=>hk.same b hb.lt (fun e=>hT (by subst e;exact hb.uniq ht))
 exact ⟨hT,hF,h.sn.same (hst _ (by decide)) (hst _ (by decide)) (hst _ (by decide)),(hst _ (by decide) _ ⟨_,h.blk⟩).trans h.blk,h.oa.kpt0 hk ht,h.ot.kpt0 hk ht,rd8_kpt h.tx hk h.ob,h.bel.trans (hk.below h.bel.size (fun k e=>by have:=h.tl;omega)),h.tl⟩
end Go.Proofs.YtnkblcipbmliaaaGreat.P

namespace Go.Proofs.YtnkblcipbmliaaaGreat.P
open Go.RowKit
section
variable {P:Program} (W:World)
theorem run_ints_blk (base:Nat) (t ty:TypeId) (hinf:(P.info? 3).map (fun i=>(i.zero,i.size,i.bytes))=some (some (.int .i64 0),1,8)) (ht:P.underlying t=some (.slice 3))
  (v:Value) (zs:List Int) (hown:OwnI W base v zs) (ys:List Int) (ad:Addr) (c:Nat) (hys:∀ j u,(ys.map (Value.int .i64))[j]?=some u→W.cell? (ad.add j)=some u) (hl:zs.length + ys.length≤1099511627776) (hbase:base≤W.heap.size) :
  ∃ v' w',(Builtin.append_ #[t,t] ty #[v,.slice (some ad) ys.length c]).run P W=.ok v' w'∧OwnI w' base v' (zs ++ ys)∧W.grownBy w' v.ownBlock∧(v'.ownBlock=v.ownBlock∨v'.ownBlock=some W.heap.size):=by
 obtain ⟨i0,hi,hz0,hz1,hz2⟩:=info_parts hinf
 have hone:∀ u ∈ ys.map (Value.int .i64),u.oneCell'=true:=fun u hu=>by rw [List.mem_map] at hu;obtain ⟨_,_,rfl⟩:=hu;rfl
 by_cases hn:ys=[]
 ·subst hn
  obtain ⟨v',w',h1,h2,h3,h4⟩:=run_append_own (P:=P) W base t ty 3 i0 (.int .i64 0) 1 8 ht hi hz0 hz1 hz2 rfl (by decide) v zs.length (zs.map (Value.int .i64)) hown ad 0 c [] rfl (fun j u hj=>by simp at hj) (fun u hu=>by cases hu) (by unfold maxLen;simp at hl;omega) (by simp at hl;omega) hbase
  refine ⟨v',w',h1,?_,h3,?_⟩
  ·rw [List.append_nil]
   rw [List.append_nil] at h2
   exact h2
  ·rcases hown.2 with ⟨e1,e2⟩ | ⟨g,cap,cur,rfl,hbg,hg,hnc,hcm,hcs,htake⟩
   ·have e3:=h4.2 ⟨e1,rfl⟩
    rw [e1,e3]
    exact .inl rfl
   ·have hr:=run_append_room (P:=P) W t ty 3 i0 ht hi g zs.length cap cur hg ad 0 c [] (by simp) (fun j u hj=>by simp at hj) (fun u hu=>by cases hu) (by omega) (by rw [hz1,hcs];simp;omega)
    have hr1:(Builtin.append_ #[t,t] ty #[.slice (some ⟨g,0,none⟩) zs.length cap,.slice (some ad) 0 c]).run P W=.ok v' w':=h1
    rw [hr] at hr1
    cases hr1
    exact .inl rfl
 ·obtain ⟨v',w',h1,h2,h3,h4⟩:=Go.Proofs.YtnkblcipbmliaaaGreat.run_append_blk (P:=P) W base t ty 3 i0 (.int .i64 0) 1 8 ht hi hz0 hz1 hz2 rfl (by decide) v zs.length (zs.map (Value.int .i64)) hown ad ys.length c (ys.map (Value.int .i64)) (by simp) hys hone (by unfold maxLen;omega) (by omega) hbase (List.length_pos_iff.2 hn)
  refine ⟨v',w',h1,?_,h3,h4⟩
  unfold OwnI
  rw [List.length_append,List.map_append]
  exact h2
theorem wp_ints_blk {op:Oper} {a:Act} {K:Act→World→Prop} {Q:Exit→Act→World→Prop} (s x:Operand) (t:TypeId) (ho:op.op=.call { callee:=.builtin .append,args:=#[s,x],argTypes:=#[t,t] })
  (base:Nat) (hinf:(P.info? 3).map (fun i=>(i.zero,i.size,i.bytes))=some (some (.int .i64 0),1,8)) (ht:P.underlying t=some (.slice 3))
  (v:Value) (zs:List Int) (hs:a.eval s=v) (hown:OwnI W base v zs) (ys:List Int) (ad:Addr) (m c:Nat) (hx:a.eval x=.slice (some ad) m c) (hm:m=ys.length) (hys:∀ j u,(ys.map (Value.int .i64))[j]?=some u→W.cell? (ad.add j)=some u) (hl:zs.length + ys.length≤1099511627776) (hbase:base≤W.heap.size)
  (h:∀ v' w',OwnI w' base v' (zs ++ ys)→W.grownBy w' v.ownBlock→(v'.ownBlock=v.ownBlock∨v'.ownBlock=some W.heap.size)→K (a.put op.dst v') w'):op.wp P a W K Q:=by
 subst hm
 obtain ⟨v',w',hr,h2,h3,h4⟩:=run_ints_blk (P:=P) W base t op.type hinf ht v zs hown ys ad c hys hl hbase
 unfold Oper.wp execOp
 simp only [ho,resolve,invoke,builtin,Sem.run_bind,Sem.run_pure,Result.andThen_ok,List.map_toArray,List.map_cons,List.map_nil,hs,hx,hr]
 exact h v' w' h2 h3 h4
end
structure GI (w:World) (va vt vb na nt:Value) (As Ts:List Int) (wr:World):Prop where
 sb:wr.heap[w.heap.size]?=some (.cells #[va,vt,vb] 36 (0,0))
 rb:wr.heap[w.heap.size + 1]?=some (.cells #[.slice none 0 0,.slice none 0 0,.slice none 0 0] 36 (0,0))
 nb:wr.heap[w.heap.size + 2]?=some (.cells #[na,nt,.slice none 0 0] 36 (0,0))
 oa:OwnI wr w.heap.size na As
 ot:OwnI wr w.heap.size nt Ts
 ne:na.ownBlock=none∨na.ownBlock≠nt.ownBlock
 bel:Below w.heap.size w wr
theorem OwnI.typ2 {w:World} {base:Nat} {v:Value} {zs:List Int} (h:OwnI w base v zs) (g:Nat) (hg:v.ownBlock=some g):Typ 3 w g∧base≤g:=by
 rcases h.2 with ⟨rfl,_⟩ | ⟨g',cap,cur,rfl,hb,hg',_⟩
 ·cases hg
 ·have e:g'=g:=by simpa [Value.ownBlock] using hg
  subst e
  exact ⟨⟨_,hg'⟩,hb⟩
theorem GI.ext {w:World} {va vt vb na nt:Value} {As Ts:List Int} {wr w':World} (h:GI w va vt vb na nt As Ts wr) (hb:Below wr.heap.size wr w'):GI w va vt vb na nt As Ts w' :=
 have k:∀ {b:Nat} {o:Obj},wr.heap[b]?=some o→w'.heap[b]?=some o:=fun e=>(hb.block _ (Array.getElem?_eq_some_iff.1 e).1).trans e
 ⟨k h.sb,k h.rb,k h.nb,h.oa.ext hb,h.ot.ext hb,h.ne,ext_trans h.bel hb⟩
theorem GI.appA {w:World} {va vt vb na nt:Value} {As Ts:List Int} {wr:World} (h:GI w va vt vb na nt As Ts wr) (ys:List Int) (v':Value) (w':World) (ho:OwnI w' w.heap.size v' (As ++ ys)) (hg:wr.grownBy w' na.ownBlock) (hb:v'.ownBlock=na.ownBlock∨v'.ownBlock=some wr.heap.size):GI w va vt vb v' nt (As ++ ys) Ts (w'.setCell ⟨w.heap.size + 2,0,none⟩ v'):=by
 have hst:∀ U,U≠3→∀ b,Typ U wr b→w'.heap[b]?=wr.heap[b]?:=fun U hU b hb'=>hg.block b hb'.lt (fun e=>hU (hb'.uniq (h.oa.typ2 b e.symm).1))
 have n1:=(hst _ (by decide) _ ⟨_,h.nb⟩).trans h.nb
 obtain ⟨p1,p2⟩:=set1 n1 0 v'
 have hs2:∀ b,b≠w.heap.size + 2→b < w'.heap.size→(w'.setCell ⟨w.heap.size + 2,0,none⟩ v').heap[b]?=w'.heap[b]?:=fun b h1 h2=>p2.block b h2 (fun e=>h1 (Option.some.inj e))
 have hlt:∀ {b:Nat},b < wr.heap.size→b < w'.heap.size:=fun h1=>Nat.lt_of_lt_of_le h1 hg.size
 refine ⟨?_,?_,p1,?_,?_,?_,?_⟩
 ·exact (hs2 _ (by omega) (hlt (Array.getElem?_eq_some_iff.1 h.sb).1)).trans ((hst _ (by decide) _ ⟨_,h.sb⟩).trans h.sb)
 ·exact (hs2 _ (by omega) (hlt (Array.getElem?_eq_some_iff.1 h.rb).1)).trans ((hst _ (by decide) _ ⟨_,h.rb⟩).trans h.rb)
 ·exact ownsRow_same ho fun b hb'=>hs2 b (fun e=>by subst e;exact absurd (hb'.uniq ⟨_,n1⟩) (by decide)) hb'.lt
 ·refine World.ownsRow.kept (World.ownsRow.kept h.ot hg ?_) p2 ?_
  ·rcases h.ne with e | e
   ·rw [e];cases nt.ownBlock <;> simp
   ·exact .inr (fun e2=>e e2.symm)
  ·right
   intro e
   have hh:=(h.ot.typ2 _ e).1
   exact absurd (hh.uniq ⟨_,h.nb⟩) (by decide)
 ·rcases hb with e1 | e1
  ·rw [e1];exact h.ne
  right
  intro e
  rw [e1] at e
  have:=(h.ot.typ2 _ e.symm).1.lt
  omega
 ·have hb1:=Below.grown h.bel hg h.bel.size (fun k e=>(h.oa.typ2 k e).2)
  exact Below.grown hb1 p2 hb1.size (fun k e=>by have:=Option.some.inj e;omega)
theorem GI.appT {w:World} {va vt vb na nt:Value} {As Ts:List Int} {wr:World} (h:GI w va vt vb na nt As Ts wr) (ys:List Int) (v':Value) (w':World) (ho:OwnI w' w.heap.size v' (Ts ++ ys)) (hg:wr.grownBy w' nt.ownBlock) (hb:v'.ownBlock=nt.ownBlock∨v'.ownBlock=some wr.heap.size):GI w va vt vb na v' As (Ts ++ ys) (w'.setCell ⟨w.heap.size + 2,1,none⟩ v'):=by
 have hst:∀ U,U≠3→∀ b,Typ U wr b→w'.heap[b]?=wr.heap[b]?:=fun U hU b hb'=>hg.block b hb'.lt (fun e=>hU (hb'.uniq (h.ot.typ2 b e.symm).1))
 have n1:=(hst _ (by decide) _ ⟨_,h.nb⟩).trans h.nb
 obtain ⟨p1,p2⟩:=set1 n1 1 v'
 have hs2:∀ b,b≠w.heap.size + 2→b < w'.heap.size→(w'.setCell ⟨w.heap.size + 2,1,none⟩ v').heap[b]?=w'.heap[b]?:=fun b h1 h2=>p2.block b h2 (fun e=>h1 (Option.some.inj e))
 have hlt:∀ {b:Nat},b < wr.heap.size→b < w'.heap.size:=fun h1=>Nat.lt_of_lt_of_le h1 hg.size
 refine ⟨?_,?_,p1,?_,?_,?_,?_⟩
 ·exact (hs2 _ (by omega) (hlt (Array.getElem?_eq_some_iff.1 h.sb).1)).trans ((hst _ (by decide) _ ⟨_,h.sb⟩).trans h.sb)
 ·exact (hs2 _ (by omega) (hlt (Array.getElem?_eq_some_iff.1 h.rb).1)).trans ((hst _ (by decide) _ ⟨_,h.rb⟩).trans h.rb)
 ·refine World.ownsRow.kept (World.ownsRow.kept h.oa hg h.ne) p2 ?_
  right
  intro e
  have hh:=(h.oa.typ2 _ e).1
  exact absurd (hh.uniq ⟨_,h.nb⟩) (by decide)
 ·exact ownsRow_same ho fun b hb'=>hs2 b (fun e=>by subst e;exact absurd (hb'.uniq ⟨_,n1⟩) (by decide)) hb'.lt
 ·rcases hb with e1 | e1
  ·rw [e1];exact h.ne
  right
  intro e
  rw [e1] at e
  have:=(h.oa.typ2 _ e).1.lt
  omega
 ·have hb1:=Below.grown h.bel hg h.bel.size (fun k e=>(h.ot.typ2 k e).2)
  exact Below.grown hb1 p2 hb1.size (fun k e=>by have:=Option.some.inj e;omega)
end Go.Proofs.YtnkblcipbmliaaaGreat.P
