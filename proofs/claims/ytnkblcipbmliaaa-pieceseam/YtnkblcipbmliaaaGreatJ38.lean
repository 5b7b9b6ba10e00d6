import Derived.Test.YtnkblcipbmliaaaGreatJ00
import Derived.Test.YtnkblcipbmliaaaGreatJ12
import Derived.Test.YtnkblcipbmliaaaGreatJ34
import Derived.Test.YtnkblcipbmliaaaGreatJ28
import Derived.Test.YtnkblcipbmliaaaGreatJ36
import Derived.Test.YtnkblcipbmliaaaGreatJ37
import Derived.Test.YtnkblcipbmliaaaGreatJ35
import Derived.Deep.RegionHeld3
import Derived.ProofKit
import Derived.OpenShut
import Derived.ChangeOld
import Derived.SizedLaws
import Derived.Below
namespace Go.Proofs.YtnkblcipbmliaaaGreat.P
open Go.RowKit
theorem Tx.typ0 {enc lim:Int} {L:List Int} {w:World} {t:Nat} {ps:List PG} (h:Tx enc lim L w t ps):Typ 116 w t:=by
 obtain ⟨_,_,h1,_⟩:=h.ex
 exact ⟨_,h1⟩
theorem Tx.same {enc lim:Int} {L:List Int} {w w':World} {t:Nat} {ps:List PG} (h:Tx enc lim L w t ps) (h1:∀ b,Typ 5 w b→w'.heap[b]?=w.heap[b]?) (h2:∀ b,Typ 182 w b→w'.heap[b]?=w.heap[b]?) (h3:∀ b,Typ 116 w b→w'.heap[b]?=w.heap[b]?):Tx enc lim L w' t ps:=by
 obtain ⟨lv,u,k1,k2,k3⟩:=h.ex
 exact ⟨⟨lv,u,(h3 t ⟨_,k1⟩).trans k1,k2.same h1,k3.same h2⟩,h.pc.same h1,h.en,h.by',h.ll,h.l0,h.lm,h.sz⟩
theorem Sn.same {enc:Int} {L:List Int} {w w':World} {s t:Nat} {ps:List PG} (h:Sn enc L w s t ps) (h1:∀ b,Typ 5 w b→w'.heap[b]?=w.heap[b]?) (h2:∀ b,Typ 182 w b→w'.heap[b]?=w.heap[b]?) (h3:∀ b,Typ 150 w b→w'.heap[b]?=w.heap[b]?):Sn enc L w' s t ps:=by
 obtain ⟨u,k1,k2⟩:=h.ex
 exact ⟨⟨u,(h3 s ⟨_,k1⟩).trans k1,k2.same h2⟩,h.pc.same h1,h.sz⟩
structure Bnd (es:List Ed):Prop where
 each:∀ e ∈ es,e.2.2.length * 8≤140737488351232
 len:es.length * 40≤140737488351232
theorem puts_bnd:∀ (es:List Ed) (B:Nat),(∀ e ∈ es,e.2.2.length≤B)→(puts es).length≤es.length * B:=by
 intro es
 induction es with
 | nil=>intro B _;simp [puts]
 | cons e es ih =>
   intro B h
   have h1:=ih B (fun x hx=>h x (List.mem_cons_of_mem _ hx))
   have h2:=h e (List.mem_cons_self ..)
   have e1:puts (e :: es)=e.2.2 ++ puts es:=by simp [puts]
   rw [e1,List.length_append,List.length_cons,Nat.add_mul,Nat.one_mul]
   omega
theorem Bnd.puts {es:List Ed} (h:Bnd es):es.length≤70000→(puts es).length≤2305843009213693951:=fun h7=>by
 have h1:=puts_bnd es 17592186044416 (fun e he=>by have:=h.each e he;omega)
 have h2:es.length * 17592186044416≤70000 * 17592186044416:=Nat.mul_le_mul_right _ h7
 omega
def CgR (enc lim:Int) (L:List Int) (t:Nat) (ps:List PG) (es:List Ed) (w:World) (e:Ending) (w':World):Prop :=
 e=.returned (.tuple #[.int .i64 (chA enc lim (sh enc ps) es),.bool true])∧∃ ps',Tx enc lim L w' t ps'∧sh enc ps'=chT enc lim (sh enc ps) es∧Kps (fun k=>k=t) w w'
set_option maxRecDepth 100000 in
set_option maxHeartbeats 4000000 in
theorem written_nil (enc lim:Int) (L:List Int) (w00 w:World) (t:Nat) (ps:List PG) (v:Value) (es:List Ed) (h:Tx enc lim L w t ps) (hE0:EdR w00 v es) (hb00:Below w00.heap.size w00 w) (ht00:w00.heap.size≤t) (hl:Bnd es) :
  Calls Tryz.prog 45 #[.pointer (some ⟨t,0,none⟩),.pointer none,v] w fun e w'=>CgR enc lim L t ps es w e w':=by
 have hE:=hE0.ext hb00
 have HA:=hidIt (hand_nil v es w hE hl.each hl.len)
 have HT:=hidIt h
 have HE0:=hidIt hE0
 have HB00:=hidIt hb00
 have HL:=hidIt hl
 have hn:es.length≤17592186044416:=by have:=hl.len;omega
 have htl:t < w.heap.size:=h.typ0.lt
 obtain ⟨ao,cap,rfl,hc1,hc2,_⟩:=id hE
 clear h hE hl hE0 hb00
 go_enter Tryz.func45,Tryz.ntmps45
 go_upto_region 2 with (go_at_call 80;refine HA.out.mono ?_;rintro e w1 ⟨r,g,ap,cp,rfl,HH,hb1⟩;have HB1:=hidIt hb1;clear hb1;(try dsimp only))
 obtain ⟨hs,hHd,hes,hr⟩:=HH.out
 have hr2:2≤r∧r≤100:=by omega
 have hln:hs.length=es.length:=by rw [← hes,List.length_map]
 obtain ⟨w2,hw2,k2,hb2⟩:∃ w2,w2=w1.alloc (.cells #[.int .i64 (r:Nat),.slice (some ⟨g,0,none⟩) (es.length + r) (es.length + r),.slice ap es.length cp] 157)∧w2.heap[w1.heap.size]?=some (.cells #[.int .i64 (r:Nat),.slice (some ⟨g,0,none⟩) (es.length + r) (es.length + r),.slice ap es.length cp] 157 (0,0))∧Below w1.heap.size w1 w2:=⟨_,rfl,heap_alloc_new _ _,ext_alloc (Below.refl _ _) _⟩
 have HH2:=hidIt (hHd.ext hb2)
 have HB2:=hidIt (ext_trans HB1.out hb2)
 have HK2:=hidIt k2
 have HES:=hidIt hes
 have HLN:=hidIt hln
 have HHV:Hid (∀ w':World,w'.heap[w1.heap.size]?=w2.heap[w1.heap.size]?→w'.cell? ⟨w1.heap.size,0,none⟩=some (.int .i64 (r:Nat))∧w'.cell? ⟨w1.heap.size,1,none⟩=some (.slice (some ⟨g,0,none⟩) (es.length + r) (es.length + r))∧w'.cell? ⟨w1.heap.size,2,none⟩=some (.slice ap es.length cp)):=fun w' hq=>by
  have e:=hq.trans HK2.out
  refine ⟨?_,?_,?_⟩ <;> (rw [cell_of_row w' _ _ _ _ _ e];rfl)
 have h1l:w1.heap.size < w2.heap.size:=(Array.getElem?_eq_some_iff.1 k2).1
 rw [← hw2]
 clear hw2 k2 hb2 hHd hes hln HH HA
 have ED:=hidIt (hEdits_any r g (es.length + r) ap es.length cp w2 (by omega) (by omega) (by omega))
 rw [Nat.add_sub_cancel] at ED
 have CH:Hid (∀ w',Below w2.heap.size w2 w'→Calls Tryz.prog 19 #[.pointer (some ⟨t,0,none⟩),.slice (some ⟨g,0,none⟩) es.length (es.length + r)] w' fun e w''=>e=.returned (.int .i64 (chA enc lim (sh enc ps) es))∧Hid (∃ ps',Tx enc lim L w'' t ps'∧sh enc ps'=chT enc lim (sh enc ps) es∧Kps (fun k=>k=t) w' w'')):=fun w' hb=>by
  have h1:=(HH2.out.ext hb).edr (by have:=HLN.out;omega) (by omega)
  rw [HES.out,HLN.out] at h1
  exact (Change_any enc lim L w' t ps _ es (HT.out.ext (ext_trans HB2.out hb)) h1 HL.out.puts).mono fun e w'' h=>h
 obtain ⟨c0,c1,c2⟩:=HHV.out w2 rfl
 go_upto_region 3 with (first
  | (go_at_call 81;refine ED.out.mono ?_;rintro e w3 ⟨rfl,hb3⟩;have HB3:=hidIt hb3;have CH3:=hidIt (CH.out w3 hb3);clear hb3 c0 c1 c2;(try dsimp only))
  | (go_at_call 19;refine CH3.out.mono ?_;rintro e w4 ⟨rfl,HC4⟩;(try dsimp only)))
 obtain ⟨ps',hT4,hsh4,hk4⟩:=HC4.out
 have HTY:=hidIt (show Typ 116 w3 t from (HT.out.ext (ext_trans HB2.out HB3.out)).typ0)
 have hst4:∀ T,T≠116→∀ b,Typ T w3 b→w4.heap[b]?=w3.heap[b]?:=fun T hT b hb=>hk4.same b hb.lt (fun e=>hT (by subst e;exact hb.uniq HTY.out))
 have HH4:=hidIt ((HH2.out.ext HB3.out).same (hst4 _ (by decide)) (hst4 _ (by decide)) (hst4 _ (by decide)))
 have hbk4:w4.heap[w1.heap.size]?=w2.heap[w1.heap.size]?:=by
  have e3:=HB3.out.block _ h1l
  rw [hst4 157 (by decide) _ ⟨_,e3.trans HK2.out⟩,e3]
 have hB4:Below w00.heap.size w00 w4:=by
  have h3:=ext_trans HB00.out (ext_trans HB2.out HB3.out)
  exact h3.trans (hk4.below h3.size (fun k hk=>by omega))
 have WH:=hidIt (whole_any w.heap.size r g ap cp hs es (.slice ao es.length cap) w4 HH4.out HES.out (HE0.out.ext hB4) hr2 hn (fun e he=>by have:=HL.out.each e he;omega))
 have HT4:=hidIt hT4
 have HS4:=hidIt hsh4
 have HKK4:Hid (Kps (fun k=>k=t) w w4):=(Kps.of_below (fun k=>k=t) (ext_trans HB2.out HB3.out)).trans hk4 fun _ _ e=>e
 have HBK4:=hidIt hbk4
 obtain ⟨c0,c1,c2⟩:=HHV.out w4 hbk4
 clear hT4 hsh4 hk4 hst4 hbk4 hB4 HC4
 go_upto_region 4 with (go_at_call 82;refine WH.out.mono ?_;rintro e w5 ⟨rfl,hb5⟩;have HB5:=hidIt hb5;clear hb5 c0 c1 c2;(try dsimp only))
 have h1l4:w1.heap.size < w4.heap.size:=(Array.getElem?_eq_some_iff.1 (HBK4.out.trans HK2.out)).1
 obtain ⟨c0,c1,c2⟩:=HHV.out w5 ((HB5.out.block _ h1l4).trans HBK4.out)
 have hH5:=HH4.out.ext HB5.out
 have hS5:=hH5.sp
 have HSP:Hid (Calls Tryz.prog 83 #[.agg #[.int .i64 (r:Nat),.slice (some ⟨g,0,none⟩) (es.length + r) (es.length + r),.slice ap es.length cp]] w5 fun e w'=>(∃ v,e=.returned v)∧Kps (fun k=>(∃ y ∈ hs,k=y.b)∨k=g) w5 w'):=by
  have:=spoil_any w.heap.size r g (es.length + r) ap cp hs w5 (by rw [HLN.out];exact hS5) (by omega) (by have:=HLN.out;omega) (fun x hx=>(hH5.each x hx).ln)
  rwa [HLN.out] at this
 have HS5:=hidIt hS5
 have HH5:=hidIt hH5
 clear hS5 hH5
 go_wp2_with (go_at_call 83;refine HSP.out.mono ?_;rintro e w6 ⟨⟨u,rfl⟩,hk6⟩;have HK6:=hidIt hk6;clear hk6 c0 c1 c2;(try dsimp only))
 go_ret2
 have hst6:∀ T,T≠3→T≠30→∀ b,Typ T w5 b→w6.heap[b]?=w5.heap[b]?:=fun T h1 h2 b hb=>HK6.out.same b hb.lt (fun e=>by
  rcases e with ⟨y,hy,rfl⟩ | rfl
  ·obtain ⟨ys,hys⟩:=HS5.out.each y hy
   exact h1 (hb.uniq (HE.typ hys))
  ·exact h2 (hb.uniq (own_typ HH5.out.all)))
 refine ⟨rfl,ps',(HT4.out.ext HB5.out).same (hst6 _ (by decide) (by decide)) (hst6 _ (by decide) (by decide)) (hst6 _ (by decide) (by decide)),HS4.out,?_⟩
 refine (HKK4.out.trans (Kps.of_below (fun k=>k=t) HB5.out) fun _ _ e=>e).trans HK6.out fun i hi e=>?_
 rcases e with ⟨y,hy,rfl⟩ | e
 ·have:=(HH5.out.each y hy).ge
  omega
 ·have:w.heap.size≤g:=(HH5.out.all.lt g rfl).1
  omega
set_option maxRecDepth 100000 in
theorem changed_any (enc lim:Int) (L:List Int) (w00 w:World) (t:Nat) (ps:List PG) (v:Value) (es:List Ed) (h:Tx enc lim L w t ps) (hE0:EdR w00 v es) (hb00:Below w00.heap.size w00 w) (ht00:w00.heap.size≤t) (hl:Bnd es) :
  Calls Tryz.prog 30 #[.pointer (some ⟨t,0,none⟩),v] w fun e w'=>CgR enc lim L t ps es w e w':=by
 have WR:=hidIt (written_nil enc lim L w00 w t ps v es h hE0 hb00 ht00 hl)
 obtain ⟨ao,cap,rfl,_⟩:=id hE0
 clear h hE0 hb00
 go_enter Tryz.func30,Tryz.ntmps30
 go_wp2_with (go_at_call 45;refine WR.out.mono ?_;rintro e w1 ⟨rfl,hc1⟩;have HC1:=hidIt hc1;clear hc1;(try dsimp only))
 go_ret2
 exact ⟨rfl,HC1.out⟩
end Go.Proofs.YtnkblcipbmliaaaGreat.P

namespace Go.Proofs.YtnkblcipbmliaaaGreat.P
open Go.RowKit
set_option maxRecDepth 100000 in
theorem known_yes (enc:Int) (la:Option Addr) (n lc:Nat) (w:World) (h:1≤enc∧enc≤4∧n≤65536):Calls Tryz.prog 25 #[.int .i64 enc,.slice la n lc] w fun e w'=>e=.returned (.bool true)∧w'=w:=by
 obtain ⟨h1,h2,h3⟩:=h
 have h3':(n:Int)≤65536:=by omega
 go_enter Tryz.func25,Tryz.ntmps25
 go_wp2_with fail
 go_ret
 exact ⟨rfl,rfl⟩
set_option maxRecDepth 100000 in
theorem known_no (enc:Int) (la:Option Addr) (n lc:Nat) (w:World) (hn:n≤9223372036854775807) (h:¬ (1≤enc∧enc≤4∧n≤65536)):Calls Tryz.prog 25 #[.int .i64 enc,.slice la n lc] w fun e w'=>e=.returned (.bool false)∧w'=w:=by
 by_cases h1:1≤enc
 ·by_cases h2:enc≤4
  ·have h3':¬ (n:Int)≤65536:=by omega
   clear h
   go_enter Tryz.func25,Tryz.ntmps25
   go_wp2_with fail
   go_ret
   exact ⟨rfl,rfl⟩
  ·clear h
   go_enter Tryz.func25,Tryz.ntmps25
   go_wp2_with fail
   go_ret
   exact ⟨rfl,rfl⟩
 ·clear h
  go_enter Tryz.func25,Tryz.ntmps25
  go_wp2_with fail
  go_ret
  exact ⟨rfl,rfl⟩
end Go.Proofs.YtnkblcipbmliaaaGreat.P

namespace Go.Proofs.YtnkblcipbmliaaaGreat.P
open Go.RowKit
def EdL (w:World) (v:Value) (ess:List (List Ed)):Prop :=
 ∃ ao cap,v=.slice ao ess.length cap∧ess.length≤cap∧cap≤9223372036854775807∧∀ i es,ess[i]?=some es→∃ b o ea ec,ao=some ⟨b,o,none⟩∧b < w.heap.size∧w.cell? ⟨b,o + i,none⟩=some (.slice ea es.length ec)∧EdR w (.slice ea es.length ec) es∧Bnd es
theorem rd8_kpt {enc lim:Int} {L:List Int} {w w':World} {t:Nat} {ps:List PG} (h:Tx enc lim L w t ps) (hk:Kps (fun k=>k=t) w w') {v:Value} {zs:List Int} (hr:Rd .u8 w v zs):Rd .u8 w' v zs:=by
 obtain ⟨ao,cap,h1,h2,h3,h4⟩:=hr
 refine ⟨ao,cap,h1,h2,h3,fun hn=>?_⟩
 obtain ⟨b,off,k1,k2,k3⟩:=h4 hn
 have hbt:b≠t:=fun e=>by
  subst e
  obtain ⟨lv,u,m1,m2,_⟩:=h.ex
  have c:=k3 0 (List.length_pos_iff.2 hn)
  rw [cell_of_row w b _ _ _ _ m1,Nat.add_zero] at c
  obtain ⟨bl,ol,cl,rfl,_⟩:=m2
  match off with
  | 0=>simp at c
  | 1=>simp at c
  | 2=>simp at c
  | 3=>simp at c
  | n + 4=>simp at c
 refine ⟨b,off,k1,Nat.lt_of_lt_of_le k2 hk.size,fun i hi=>?_⟩
 rw [← k3 i hi]
 exact World.cell?_of_block (hk.same b k2 hbt)
structure FtI (enc:Int) (L:List Int) (w:World) (t s bx:Nat) (ps0 ps:List PG) (va vt vb:Value) (wr:World):Prop where
 tx:Tx enc 65536 L wr t ps
 fai:Fai enc L (sh enc ps)
 sn:Sn enc L wr s t ps0
 blk:wr.heap[bx]?=some (.cells #[va,vt,vb] 36 (0,0))
 oa:OwnI wr w.heap.size va (asOf ps0)
 ot:OwnI wr w.heap.size vt ((sh enc ps0).map Prod.snd)
 ob:Rd .u8 wr vb (Cx.encB enc (asOf ps0))
 bel:Below w.heap.size w wr
 tl:w.heap.size≤t
theorem FtI.ext {enc:Int} {L:List Int} {w:World} {t s bx:Nat} {ps0 ps:List PG} {va vt vb:Value} {wr w':World} (h:FtI enc L w t s bx ps0 ps va vt vb wr) (hb:Below wr.heap.size wr w'):FtI enc L w t s bx ps0 ps va vt vb w' :=
 ⟨h.tx.ext hb,h.fai,h.sn.ext hb,(hb.block _ (Array.getElem?_eq_some_iff.1 h.blk).1).trans h.blk,h.oa.ext hb,h.ot.ext hb,h.ob.ext hb,ext_trans h.bel hb,h.tl⟩
theorem OwnI.kpt0 {w w':World} {base t:Nat} {v:Value} {zs:List Int} (h:OwnI w base v zs) (hk:Kps (fun k=>k=t) w w') (ht:Typ 116 w t):OwnI w' base v zs :=
 ownsRow_same h fun b hb=>hk.same b hb.lt (fun e=>by subst e;exact absurd (hb.uniq ht) (by decide))
theorem FtI.kps {enc:Int} {L:List Int} {w:World} {t s bx:Nat} {ps0 ps ps':List PG} {va vt vb:Value} {wr w':World} (h:FtI enc L w t s bx ps0 ps va vt vb wr) (hk:Kps (fun k=>k=t) wr w') (hT:Tx enc 65536 L w' t ps') (hF:Fai enc L (sh enc ps')):FtI enc L w t s bx ps0 ps' va vt vb w':=by
 have ht:=h.tx.typ0
 have hst:∀ T,T≠116→∀ b,Typ T wr b→w'.heap[b]?=wr.heap[b]?:=fun T hT b hb=>hk.same b hb.lt (fun e=>hT (by subst e;exact hb.uniq ht))
 exact ⟨hT,hF,h.sn.same (hst _ (by decide)) (hst _ (by decide)) (hst _ (by decide)),(hst _ (by decide) _ ⟨_,h.blk⟩).trans h.blk,h.oa.kpt0 hk ht,h.ot.kpt0 hk ht,rd8_kpt h.tx hk h.ob,h.bel.trans (hk.below h.bel.size (fun k e=>by have:=h.tl;omega)),h.tl⟩
end Go.Proofs.YtnkblcipbmliaaaGreat.P

namespace Go.Proofs.YtnkblcipbmliaaaGreat
open Go.ChangeShapes Go.WideShapes Go.ChangeAt Go.RowKit
theorem ownK:ownKnob Tryz.prog.godebug=none:=by kernel_rfl
theorem laidOutK:laidOutB Tryz.prog=true:=by kernel_rfl
theorem bytesK_i64:Tryz.prog.bytesOf 3=8:=by kernel_rfl
theorem rd_of {H:Type} {enc:TypeId × Value→H} {W:World} {t e:TypeId} {k:IntKind} {a0:Option Addr} {len0 cap0:Nat} {d:DataW H} {p:List MemPlace}
  (ht:Tryz.prog.underlying t=some (.slice e)) (he:Tryz.prog.underlying e=some (.int k)) (hc:Tryz.prog.cellsOf e=1)
  (h:DataW.Trod enc Tryz.prog W 0 (fun _=>true) true t (.slice a0 len0 cap0) d p) :
  ∃ zs,Rd k W (.slice a0 len0 cap0) zs∧(∀ n ∈ zs,(Lit.int k n).wf=true)∧(zs=[]∨∃ el sp,d=.slice el sp∧el.length=zs.length):=by
 obtain ⟨fuel,hf⟩:=h
 rcases open_ints ht he hc hf with ⟨hcs,_⟩ | ⟨x,l,c,zs,hcs,_,hl,hm,hz,hx,hcell,hwz⟩
 ·simp [Value.cells] at hcs
  obtain ⟨rfl,rfl,rfl⟩:=hcs
  exact ⟨[],⟨none,0,rfl,Nat.le_refl _,by simp [maxLen],fun h=>absurd rfl h⟩,by simp,.inl rfl⟩
 ·simp [Value.cells] at hcs
  obtain ⟨rfl,rfl,rfl⟩:=hcs
  simp at hz
  have hlen:(zs.take len0).length=len0:=by rw [List.length_take];omega
  refine ⟨zs.take len0,⟨some x,cap0,by rw [hlen],by omega,hm,fun hn=>?_⟩,fun n hn=>hwz n (List.mem_of_mem_take hn),.inr ⟨_,_,(Prod.mk.inj hx).1,by simp [lits]⟩⟩
  have hpos:0 < len0:=by
   rcases Nat.eq_zero_or_pos len0 with h | h
   ·subst h;simp at hn
   ·exact h
  obtain ⟨b,off,spot⟩:=x
  have hc0:=hcell 0 (by omega)
  have hspot:spot=none:=by simpa [Addr.add] using World.cell?_spot hc0
  subst hspot
  refine ⟨b,off,rfl,World.block_lt_of_cell? W _ (by simpa [Addr.add] using hc0),fun i hi=>?_⟩
  rw [hlen] at hi
  have:=hcell i (by omega)
  rw [Addr.add_lit] at this
  rw [this,List.getElem?_take,if_pos hi]
  simp [List.getD]
theorem byt_of {zs:List Int} (h:∀ n ∈ zs,(Lit.int .u8 n).wf=true):Byt zs:=by
 intro z hz
 have:=bounds_u8 (h z hz)
 omega
end Go.Proofs.YtnkblcipbmliaaaGreat

namespace Go.Proofs.YtnkblcipbmliaaaGreat
open Go.ChangeShapes Go.WideShapes Go.ChangeAt Go.RowKit
theorem cSl:Tryz.prog.cellsOf 22=1:=by kernel_rfl
theorem cEs:Tryz.prog.cellsOf 31=1:=by kernel_rfl
theorem cIn:Tryz.prog.cellsOf 3=1:=by kernel_rfl
theorem cEd:Tryz.prog.cellsOf 30=3:=by kernel_rfl
theorem bytesK_ed:Tryz.prog.bytesOf 30=40:=by kernel_rfl
theorem weights_elem {H:Type} {P:Program} {e:TypeId}:∀ {l:List (DataW H)} {d:DataW H},d ∈ l→∀ n ∈ d.weights P e,n ∈ DataW.weightsAll P e l
 | x :: l,d,h,n,hn=>by
   simp only [DataW.weightsAll,List.mem_append]
   rcases List.mem_cons.1 h with rfl | h
   ·exact Or.inl hn
   ·exact Or.inr (weights_elem h n hn)
theorem weights_slice {H:Type} {P:Program} {t e:TypeId} {el sp:List (DataW H)} {d:DataW H} (hu:P.underlying t=some (.slice e)) (h:d ∈ el):∀ n ∈ d.weights P e,n ∈ (DataW.slice el sp).weights P t:=by
 intro n hn
 simp only [DataW.weights,hu,List.mem_cons,List.mem_append]
 exact Or.inr (Or.inl (weights_elem h n hn))
theorem weights_part {H:Type} {P:Program} {t:TypeId} {fs:Array Field} {parts:List (DataW H)} {d:DataW H} (hu:P.underlying t=some (.struct fs)) {j:Nat} {f:Field} (hf:fs[j]?=some f) (hd:parts[j]?=some d):∀ n ∈ d.weights P f.type,n ∈ (DataW.agg parts).weights P t:=by
 intro n hn
 simp only [DataW.weights,hu]
 exact DataW.weights_mem_each (j:=j) (by simp [hf]) hd n hn
theorem inner_of {H:Type} {enc:TypeId × Value→H} {W:World} {fuel:Nat} {c:Value} {d:DataW H} {p:List MemPlace}
  (h:DataW.trod enc Tryz.prog W 0 (fun _=>true) true fuel 22 [c]=some (d,p)) :
  ∃ ao cap zs,c=.slice ao zs.length cap∧Rd .i64 W (.slice ao zs.length cap) zs∧(zs=[]∨∃ el sp,d=.slice el sp∧el.length=zs.length):=by
 have hs:∃ ao len cap,c=.slice ao len cap:=by
  rcases DataW.trod_slice Tryz.underlying22 h with ⟨hcs,_⟩ | ⟨x,l,k,elems,rest,n,_,hcs,_⟩
  ·exact ⟨none,0,0,by simpa using hcs⟩
  ·exact ⟨some x,l,k,by simpa using hcs⟩
 obtain ⟨ao,len,cap,rfl⟩:=hs
 obtain ⟨zs,hr,_,hd⟩:=rd_of (enc:=enc) (d:=d) (p:=p) Tryz.underlying22 Tryz.underlying3 (by kernel_rfl) ⟨fuel,by simpa [Value.cells] using h⟩
 obtain ⟨ao',cap',hv,r1,r2,r3⟩:=id hr
 simp only [Value.slice.injEq] at hv
 obtain ⟨rfl,rfl,rfl⟩:=hv
 exact ⟨ao,cap,zs,rfl,hr,hd⟩
theorem inner_bound {H:Type} {zs:List Int} {d:DataW H} (hd:zs=[]∨∃ el sp,d=DataW.slice el sp∧el.length=zs.length) (hw:∀ n ∈ d.weights Tryz.prog 22,n≤reachBytes):zs.length * 8≤140737488351232:=by
 rcases hd with rfl | ⟨el,sp,rfl,hel⟩
 ·simp
 ·have:=hw ((el.length + sp.length) * Tryz.prog.bytesOf 3) (by simp [DataW.weights,Tryz.underlying22])
  rw [bytesK_i64] at this
  simp only [reachBytes] at this
  omega
structure EdAt (w:World) (f:Nat→Option Value) (e:P.Ed):Prop where
 c0:f 0=some (.int .i64 e.1)
 c1:f 1=some (.int .i64 e.2.1)
 c2:∃ pv,f 2=some pv∧Rd .i64 w pv e.2.2
 hz:e.2.2.length * 8≤140737488351232
set_option maxRecDepth 100000 in
theorem ed_cells {H:Type} {enc:TypeId × Value→H} {w:World} {fuel:Nat} {cs:List Value} {d:DataW H} {p:List MemPlace}
  (h:DataW.trod enc Tryz.prog w 0 (fun _=>true) true fuel 30 cs=some (d,p)) (hw:∀ n ∈ d.weights Tryz.prog 30,n≤reachBytes) :
  ∃ e:P.Ed,EdAt w (fun i=>cs[i]?) e:=by
 obtain ⟨xs,n,rfl,hx,hl,hxl,hall⟩:=DataW.trod_struct Tryz.underlying30 h
 match xs,hxl with
 | [x0,x1,x2],_ =>
   obtain ⟨k0,e0,r0,w0⟩:=DataW.trod_int Tryz.underlying3 (hall 0 _ rfl)
   obtain ⟨k1,e1,r1,w1⟩:=DataW.trod_int Tryz.underlying3 (hall 1 _ rfl)
   have h2:=hall 2 _ rfl
   have e0':(cs.drop 0).take (Tryz.prog.cellsOf 3)=[.int .i64 k0]:=e0
   have e1':(cs.drop 1).take (Tryz.prog.cellsOf 3)=[.int .i64 k1]:=e1
   have h2':DataW.trod enc Tryz.prog w 0 (fun _=>true) true n 22 ((cs.drop 2).take (Tryz.prog.cellsOf 22))=some x2:=h2
   rw [cEd] at hl
   rw [cIn] at e0' e1'
   rw [cSl] at h2'
   match cs,hl with
   | [c0,c1,c2],_ =>
     simp at e0' e1'
     subst e0';subst e1'
     simp only [List.drop_succ_cons,List.drop_zero,List.take_succ_cons,List.take_zero] at h2'
     obtain ⟨ai,ci,zs,rfl,hr,hd⟩:=inner_of (d:=x2.1) (p:=x2.2) h2'
     refine ⟨(k0,k1,zs),rfl,rfl,⟨_,rfl,hr⟩,inner_bound hd ?_⟩
     intro m hm
     refine hw m ?_
     obtain ⟨rfl,_⟩:=Prod.mk.inj hx
     exact weights_part (t:=30) (j:=2) Tryz.underlying30 rfl (d:=x2.1) rfl m hm
set_option maxRecDepth 100000 in
theorem eds_of {H:Type} {enc:TypeId × Value→H} {W:World} {a0:Option Addr} {len0 cap0:Nat} {d:DataW H} {p:List MemPlace}
  (h:DataW.Trod enc Tryz.prog W 0 (fun _=>true) true 31 (.slice a0 len0 cap0) d p) (hw:∀ n ∈ d.weights Tryz.prog 31,n≤reachBytes) :
  ∃ es,es.length=len0∧P.EdR W (.slice a0 len0 cap0) es∧P.Bnd es:=by
 obtain ⟨fuel,hf⟩:=h
 rcases DataW.trod_slice Tryz.underlying31 hf with ⟨hcs,_⟩ | ⟨x,l,c,elems,rest,n,_,hcs,hx,hb,hl,hm,hlen,hel,_,_⟩
 ·simp [Value.cells] at hcs
  obtain ⟨rfl,rfl,rfl⟩:=hcs
  exact ⟨[],rfl,⟨none,0,rfl,Nat.le_refl _,by omega,fun h=>absurd rfl h⟩,⟨(fun e he=>by cases he),by simp⟩⟩
 ·simp [Value.cells] at hcs
  obtain ⟨rfl,rfl,rfl⟩:=hcs
  rw [cEd] at hel
  obtain ⟨rfl,_⟩:=Prod.mk.inj hx
  obtain ⟨b,off,spot⟩:=x
  have each:∀ i,∃ e:P.Ed,i < len0→EdAt W (fun j=>W.cell? (((⟨b,off,spot⟩:Addr).add (i * 3)).add j)) e:=by
   intro i
   by_cases hi:i < len0
   ·have hi':i < elems.length:=by omega
    have:=hel i hi
    rw [List.getElem?_eq_getElem hi',Option.bind_eq_some_iff] at this
    obtain ⟨cs,hcs,hy⟩:=this
    obtain ⟨e,he⟩:=ed_cells (d:=elems[i].1) (p:=elems[i].2) hy (fun m hm=>hw m (weights_slice Tryz.underlying31 (List.mem_map.2 ⟨elems[i],List.getElem_mem hi',rfl⟩) m hm))
    have hcell:=(World.cells?_some hcs).2.2
    refine ⟨e,fun _=>⟨(hcell 0 (by omega)).trans he.c0,(hcell 1 (by omega)).trans he.c1,?_,he.hz⟩⟩
    obtain ⟨pv,h1,h2⟩:=he.c2
    exact ⟨pv,(hcell 2 (by omega)).trans h1,h2⟩
   ·exact ⟨(0,0,[]),fun h=>absurd h hi⟩
  obtain ⟨f,hf'⟩:=Classical.skolem.1 each
  have hlr:((List.range len0).map f).length=len0:=by simp
  refine ⟨(List.range len0).map f,hlr,⟨some ⟨b,off,spot⟩,cap0,by rw [hlr],by rw [hlr];exact hl,by unfold maxLen at hm;exact hm,fun hn=>?_⟩,⟨fun e he=>?_,?_⟩⟩
  ·have hpos:0 < len0:=by rw [← hlr];exact List.length_pos_iff.2 hn
   have hs:spot=none:=by simpa [Addr.add] using World.cell?_spot (hf' 0 hpos).c0
   subst hs
   refine ⟨b,off,rfl,World.block_lt_of_cell? W _ (by simpa [Addr.add] using (hf' 0 hpos).c0),fun i e hie=>?_⟩
   have hi:i < len0:=by have:=(List.getElem?_eq_some_iff.1 hie).1;rwa [hlr] at this
   have e1:e=f i:=by rw [List.getElem?_map,List.getElem?_range hi] at hie;simpa using hie.symm
   subst e1
   have:=hf' i hi
   simp only [Addr.add_lit] at this
   exact ⟨this.c0,this.c1,this.c2⟩
  ·rw [List.mem_map] at he
   obtain ⟨i,hi,rfl⟩:=he
   exact (hf' i (List.mem_range.1 hi)).hz
  ·have:=hw _ (by simp only [DataW.weights,Tryz.underlying31,List.mem_cons];exact Or.inl rfl)
   rw [bytesK_ed] at this
   simp only [reachBytes,List.length_map,List.length_range] at this ⊢
   omega
set_option maxRecDepth 100000 in
theorem edl_of {H:Type} {enc:TypeId × Value→H} {W:World} {a0:Option Addr} {len0 cap0:Nat} {d:DataW H} {p:List MemPlace}
  (h:DataW.Trod enc Tryz.prog W 0 (fun _=>true) true 53 (.slice a0 len0 cap0) d p) (hw:∀ n ∈ d.weights Tryz.prog 53,n≤reachBytes) :
  ∃ ess,P.EdL W (.slice a0 len0 cap0) ess:=by
 obtain ⟨fuel,hf⟩:=h
 rcases DataW.trod_slice Tryz.underlying53 hf with ⟨hcs,_⟩ | ⟨x,l,c,elems,rest,n,_,hcs,hx,hb,hl,hm,hlen,hel,_,_⟩
 ·simp [Value.cells] at hcs
  obtain ⟨rfl,rfl,rfl⟩:=hcs
  exact ⟨[],none,0,rfl,Nat.le_refl _,by omega,fun i es h=>by simp at h⟩
 ·simp [Value.cells] at hcs
  obtain ⟨rfl,rfl,rfl⟩:=hcs
  rw [cEs] at hel
  obtain ⟨rfl,_⟩:=Prod.mk.inj hx
  obtain ⟨b,off,spot⟩:=x
  have each:∀ i,∃ es:List P.Ed,i < len0→∃ ea ec,W.cell? ((⟨b,off,spot⟩:Addr).add (i * 1))=some (.slice ea es.length ec)∧P.EdR W (.slice ea es.length ec) es∧P.Bnd es:=by
   intro i
   by_cases hi:i < len0
   ·have hi':i < elems.length:=by omega
    have:=hel i hi
    rw [List.getElem?_eq_getElem hi',Option.bind_eq_some_iff] at this
    obtain ⟨cs,hcs,hy⟩:=this
    have hcl:=(World.cells?_some hcs).2.1
    have hcell:=(World.cells?_some hcs).2.2 0 (by omega)
    match cs,hcl with
    | [c],_ =>
      have hs:∃ ao len cap,c=.slice ao len cap:=by
       rcases DataW.trod_slice Tryz.underlying31 hy with ⟨hcs,_⟩ | ⟨x,l,k,_,_,_,_,hcs,_⟩
       ·exact ⟨none,0,0,by simpa using hcs⟩
       ·exact ⟨some x,l,k,by simpa using hcs⟩
      obtain ⟨ao,len,cap,rfl⟩:=hs
      obtain ⟨es,h1,h2,h3⟩:=eds_of (enc:=enc) (d:=elems[i].1) (p:=elems[i].2) ⟨_,by simpa [Value.cells] using hy⟩ (fun m hm=>hw m (weights_slice Tryz.underlying53 (List.mem_map.2 ⟨elems[i],List.getElem_mem hi',rfl⟩) m hm))
      subst h1
      exact ⟨es,fun _=>⟨ao,cap,by simpa [Addr.add] using hcell,h2,h3⟩⟩
   ·exact ⟨[],fun h=>absurd h hi⟩
  obtain ⟨f,hf'⟩:=Classical.skolem.1 each
  have hlr:((List.range len0).map f).length=len0:=by simp
  refine ⟨(List.range len0).map f,some ⟨b,off,spot⟩,cap0,by rw [hlr],by rw [hlr];exact hl,by unfold maxLen at hm;exact hm,fun i es hie=>?_⟩
  have hi:i < len0:=by have:=(List.getElem?_eq_some_iff.1 hie).1;rwa [hlr] at this
  have e1:es=f i:=by rw [List.getElem?_map,List.getElem?_range hi] at hie;simpa using hie.symm
  subst e1
  obtain ⟨ea,ec,h1,h2,h3⟩:=hf' i hi
  obtain ⟨_,_,h0,_⟩:=hf' 0 (by omega)
  have hs:spot=none:=by simpa [Addr.add] using World.cell?_spot h0
  subst hs
  rw [Addr.add_lit,Nat.mul_one] at h1
  exact ⟨b,off,ea,ec,rfl,World.block_lt_of_cell? W _ h1,h1,h2,h3⟩
theorem nil_of {H:Type} {enc:TypeId × Value→H} {W:World} {t e:TypeId} {len0 cap0:Nat} {d:DataW H} {p:List MemPlace} (ht:Tryz.prog.underlying t=some (.slice e))
  (h:DataW.Trod enc Tryz.prog W 0 (fun _=>true) true t (.slice none len0 cap0) d p):len0=0∧cap0=0:=by
 obtain ⟨fuel,hf⟩:=h
 rcases DataW.trod_slice ht hf with ⟨hcs,_⟩ | ⟨x,l,c,elems,rest,n,_,hcs,_⟩
 ·simp [Value.cells] at hcs
  exact hcs
 ·simp [Value.cells] at hcs
end Go.Proofs.YtnkblcipbmliaaaGreat
