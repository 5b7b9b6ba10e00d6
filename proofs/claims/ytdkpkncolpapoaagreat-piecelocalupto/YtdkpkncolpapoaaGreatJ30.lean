import Derived.Test.YtdkpkncolpapoaaGreatJ00
import Derived.Test.YtdkpkncolpapoaaGreatJ28
import Derived.Test.YtdkpkncolpapoaaGreatJ29
import Derived.Deep.RegionHeld3
import Derived.JoinedCond
namespace Go.Proofs.YtdkpkncolpapoaaGreat.P
open Go.RowKit
structure LcI (enc lim:Int) (L:List Int) (w:World) (t bx:Nat) (qs:List PG) (wr:World):Prop where
 tx:Tx enc lim L wr t qs
 sn:∃ a0 c0 a1 c1 a2 c2,wr.heap[bx]?=some (.cells #[.slice a0 (sh enc qs).length c0,.slice a1 (sh enc qs).length c1,.slice a2 (Cx.encB enc ((sh enc qs).map Prod.fst)).length c2] 36 (0,0))∧SnO wr w.heap.size (.slice a0 (sh enc qs).length c0) (.slice a1 (sh enc qs).length c1) (.slice a2 (Cx.encB enc ((sh enc qs).map Prod.fst)).length c2) ((sh enc qs).map Prod.fst) ((sh enc qs).map Prod.snd) (Cx.encB enc ((sh enc qs).map Prod.fst))
 bel:Below w.heap.size w wr
 tl:w.heap.size≤t
 bl:w.heap.size≤bx
theorem SnO.form {w:World} {base:Nat} {va vt vb:Value} {az ts bs:List Int} (h:SnO w base va vt vb az ts bs):∃ a0 c0 a1 c1 a2 c2,va=.slice a0 az.length c0∧vt=.slice a1 ts.length c1∧vb=.slice a2 bs.length c2:=by
 obtain ⟨a0,c0,e0⟩:=h.1.form
 obtain ⟨a1,c1,e1⟩:=h.2.1.form
 obtain ⟨a2,c2,e2,_⟩:=id h.2.2
 exact ⟨a0,c0,a1,c1,a2,c2,e0,e1,e2⟩
theorem rd8_put {w w':World} {g:Nat} {x0 x1 x2:Option Addr} {n0 n1 n2 c0 c1 c2:Nat} {T:TypeId} (h:w.heap[g]?=some (.cells #[.slice x0 n0 c0,.slice x1 n1 c1,.slice x2 n2 c2] T (0,0))) (hk:Kps (fun k=>k=g) w w') {v:Value} {zs:List Int} (hr:Rd .u8 w v zs):Rd .u8 w' v zs:=by
 obtain ⟨ao,cap,h1,h2,h3,h4⟩:=hr
 refine ⟨ao,cap,h1,h2,h3,fun hn=>?_⟩
 obtain ⟨b,off,k1,k2,k3⟩:=h4 hn
 have hbt:b≠g:=fun e=>by
  subst e
  have c:=k3 0 (List.length_pos_iff.2 hn)
  rw [cell_of_row w b _ _ _ _ h,Nat.add_zero] at c
  match off with
  | 0=>simp at c
  | 1=>simp at c
  | 2=>simp at c
  | n + 3=>simp at c
 refine ⟨b,off,k1,Nat.lt_of_lt_of_le k2 hk.size,fun i hi=>?_⟩
 rw [← k3 i hi]
 exact World.cell?_of_block (hk.same b k2 hbt)
theorem SnO.put {w w':World} {base g:Nat} {va vt vb:Value} {az ts bs:List Int} {x0 x1 x2:Option Addr} {n0 n1 n2 c0 c1 c2:Nat} (h:SnO w base va vt vb az ts bs) (hg:w.heap[g]?=some (.cells #[.slice x0 n0 c0,.slice x1 n1 c1,.slice x2 n2 c2] 36 (0,0))) (hk:Kps (fun k=>k=g) w w'):SnO w' base va vt vb az ts bs:=by
 have so:∀ {v:Value} {zs:List Int},OwnI w base v zs→OwnI w' base v zs:=fun ho=>ownsRow_same ho fun b hb'=>hk.same b hb'.lt (fun e=>by
  subst e
  exact absurd (hb'.uniq ⟨_,hg⟩) (by decide))
 exact ⟨so h.1,so h.2.1,rd8_put hg hk h.2.2⟩
theorem SnO.kpt {enc lim:Int} {L:List Int} {w w':World} {t:Nat} {ps:List PG} (hT:Tx enc lim L w t ps) (hk:Kps (fun k=>k=t) w w') {base:Nat} {va vt vb:Value} {az ts bs:List Int} (h:SnO w base va vt vb az ts bs):SnO w' base va vt vb az ts bs :=
 ⟨h.1.kpt0 hk hT.typ0,h.2.1.kpt0 hk hT.typ0,rd8_kpt hT hk h.2.2⟩
theorem sight_any (enc lim:Int) (L:List Int) (w:World) (t:Nat) (ps:List PG) (h:Tx enc lim L w t ps) (l:List (Int × Int)) (hl:sh enc ps=l) :
  Calls Tryz.prog 21 #[.pointer (some ⟨t,0,none⟩)] w fun e w'=>∃ (a0:Option Addr) (c0:Nat) (a1:Option Addr) (c1:Nat) (a2:Option Addr) (c2:Nat),e=.returned (.agg #[.slice a0 l.length c0,.slice a1 l.length c1,.slice a2 (Cx.encB enc (l.map Prod.fst)).length c2])∧Hid (SnO w' w.heap.size (.slice a0 l.length c0) (.slice a1 l.length c1) (.slice a2 (Cx.encB enc (l.map Prod.fst)).length c2) (l.map Prod.fst) (l.map Prod.snd) (Cx.encB enc (l.map Prod.fst)))∧Below w.heap.size w w':=by
 subst hl
 refine (see_any enc lim L w t ps h).mono ?_
 rintro e w' ⟨va,vt,vb,rfl,⟨h1,h2,b3,hvb,h3r⟩,hb⟩
 have h3:Rd .u8 w' vb (Cx.encB enc (asOf ps)):=by rw [hvb];exact h3r.rd _ (Nat.le_refl _) (by have:=h.sz;have e:ln enc (asOf ps)=(Cx.encB enc (asOf ps)).length:=rfl;omega)
 obtain ⟨aa,ca,e1⟩:=h1.form
 obtain ⟨at',ct,e2⟩:=h2.form
 obtain ⟨ab,cb,e3,_⟩:=id h3
 rw [← sh_fst enc ps] at h1 h3 e1 e3
 rw [List.length_map] at e1 e2
 subst e1 e2 e3
 exact ⟨aa,ca,at',ct,ab,cb,rfl,⟨h1,h2,h3⟩,hb⟩
set_option maxRecDepth 100000 in
set_option maxHeartbeats 8000000 in
theorem localLaw_any (enc lim:Int) (lv ev:Value) (L:List Int) (ess:List (List Ed)) (w:World) (hL:Rd .u8 w lv L) (hB:Byt L) (hlv:∀ c,lv=.slice none L.length c→c=0∧L=[]) (hE:EdL w ev ess) (hpu:∀ es ∈ ess,(puts es).length≤1048576) :
  Calls Tryz.prog 6 #[.int .i64 enc,lv,.int .i64 lim,ev] w fun e w'=>e=.returned (.bool true)∧Below w.heap.size w w':=by
 have AB:Hid (∀ w',Calls Tryz.prog 16 #[] w' fun e w''=>e=.returned (.bool true)∧Below w'.heap.size w' w''):=fun w'=>able_any w'
 obtain ⟨la,lc,rfl,hl1,hl2,_⟩:=id hL
 obtain ⟨ea,ec,rfl,he1,he2,he3⟩:=id hE
 have HE':=hidIt he3
 have HPU:=hidIt hpu
 have HL:=hidIt hL
 have hLm:L.length≤9223372036854775807:=hL.len
 by_cases hkn:1≤enc∧enc≤4∧L.length≤65536
 ·have KN:Hid (∀ w',Calls Tryz.prog 25 #[.int .i64 enc,.slice la L.length lc] w' fun e w''=>e=.returned (.bool true)∧w''=w'):=fun w'=>known_yes enc la L.length lc w' hkn
  have hEn:Cx.En enc:=by unfold Cx.En;omega
  have hk2:Cx.known enc=true:=by rcases hEn with rfl | rfl | rfl | rfl <;> rfl
  have HEN:=hidIt hEn
  by_cases hl3:lim < (L.length:Int)
  ·clear hL hE he3 hlv hkn hk2 hpu
   go_enter Tryz.func6,Tryz.ntmps6
   go_wp2_with (first
    | (go_at_call 16;refine (AB.out w).mono ?_;rintro e w1 ⟨rfl,hb1⟩;have HB1:=hidIt hb1;clear hb1;(try dsimp only))
    | (go_at_call 25;refine (KN.out w1).mono ?_;rintro e w1' ⟨rfl,hw1⟩;rw [hw1];clear hw1;(try dsimp only)))
   go_ret
   exact ⟨rfl,HB1.out⟩
  by_cases hl4:65536 < lim
  ·clear hL hE he3 hlv hkn hk2 hpu
   go_enter Tryz.func6,Tryz.ntmps6
   go_wp2_with (first
    | (go_at_call 16;refine (AB.out w).mono ?_;rintro e w1 ⟨rfl,hb1⟩;have HB1:=hidIt hb1;clear hb1;(try dsimp only))
    | (go_at_call 25;refine (KN.out w1).mono ?_;rintro e w1' ⟨rfl,hw1⟩;rw [hw1];clear hw1;(try dsimp only)))
   go_ret
   exact ⟨rfl,HB1.out⟩
  have OP:Hid (∀ v w',Rd .u8 w' v L→Calls Tryz.prog 37 #[.int .i64 enc,v,.int .i64 lim] w' fun e w''=>OpR enc lim L w' e w''):=fun v w' hr=>Open_good enc lim v L w' hr hB (by unfold opE;rw [if_pos hk2,if_neg (by omega),if_neg (by omega)])
  have NIL:Hid (∀ w',OwnB w' w'.heap.size (.slice none 0 0) []):=fun w'=>World.ownsRow_nil _ _ _ _
  have HLN:=hidIt (show ([]:List Int).length + L.length≤1099511627776 by simp;omega)
  have HY:Hid (∀ w',Below w.heap.size w w'→(la=none∧lc=0∧L=[])∨∃ ad,la=some ad∧∀ j u,(L.map (Value.int .u8))[j]?=some u→w'.cell? (ad.add j)=some u):=fun w' hbw=>by
   cases la with
   | none=>exact .inl ⟨rfl,hlv lc rfl⟩
   | some ad =>
     refine .inr ⟨ad,rfl,fun j u hj=>?_⟩
     obtain ⟨ao',cap',e1,_,_,h4⟩:=hL.ext hbw
     simp only [Value.slice.injEq] at e1
     obtain ⟨rfl,_,_⟩:=e1
     rw [List.getElem?_map] at hj
     cases hz:L[j]? with
     | none=>rw [hz] at hj;cases hj
     | some z =>
       rw [hz] at hj
       simp only [Option.map_some,Option.some.injEq] at hj
       subst hj
       have hjl:=(List.getElem?_eq_some_iff.1 hz).1
       obtain ⟨b,o,e2,_,hc⟩:=h4 (by intro e;subst e;simp at hjl)
       cases e2
       have:=hc j hjl
       rw [hz,Option.getD_some] at this
       rw [← this]
       unfold Addr.add
       split
       ·rename_i h0;subst h0;rfl
       ·rfl
  have HBK:=hidIt (Cx.back_all enc hEn L.length L (Nat.le_refl _) hB).1
  clear hL hE he3 hlv hkn hk2 hEn hpu
  go_enter Tryz.func6,Tryz.ntmps6
  go_upto_region 6 with (first
   | (go_at_call 16;refine (AB.out w).mono ?_;rintro e w1 ⟨rfl,hb1⟩;have HB1:=hidIt hb1;have HY1:=hidIt (HY.out w1 hb1);have NIL1:=hidIt (NIL.out w1);clear hb1;(try dsimp only))
   | (go_at_call 25;refine (KN.out w1).mono ?_;rintro e w1' ⟨rfl,hw1⟩;rw [hw1];clear hw1;(try dsimp only))
   | (at_builtin;refine wpl_bytes rfl _ _ 32 rfl w1.heap.size Tryz.info_u8 Tryz.underlying32 (.slice none 0 0) [] rfl NIL1.out L la L.length lc rfl rfl HY1.out HLN.out (Nat.le_refl _) ?_;intro v2 w2 ho2 hb2;rw [List.nil_append] at ho2;have HR2:=hidIt (Rd.of_own ho2);have HB2:=hidIt (ext_trans HB1.out hb2);obtain ⟨a2,c2,hv2,_⟩:=id (Rd.of_own ho2);subst hv2;have OP2:=hidIt (OP.out _ w2 HR2.out);clear ho2 hb2)
   | (go_at_call 37;refine OP2.out.mono ?_;rintro e w3 ⟨t,ps,rfl,hop,hb3⟩;have HOP:=hidIt hop;have HB3:=hidIt (ext_trans HB2.out hb3);clear hop hb3;(try dsimp only)))
  have htl:w.heap.size≤t:=Nat.le_trans HB2.out.size HOP.out.2.2
  have hbL:Cx.encB enc ((sh enc ps).map Prod.fst)=L:=by rw [HOP.out.2.1,ctn_fst];exact HBK.out
  have SE:=hidIt (sight_any enc lim L w3 t ps HOP.out.1 _ rfl)
  rw [hbL] at SE
  have HBL:=hidIt hbL
  clear hbL OP OP2 HY NIL
  go_upto_region 9 with (go_at_call 21;refine SE.out.mono ?_;rintro e w4 ⟨a0,c0,a1,c1,a2',c2',rfl,HS4,hb4⟩;have HB4:=hidIt hb4;clear hb4;(try dsimp only))
  obtain ⟨w5,hw5,k5,hb5⟩:∃ w5,w5=w4.alloc (.cells #[.slice a0 (sh enc ps).length c0,.slice a1 (sh enc ps).length c1,.slice a2' L.length c2'] 36)∧w5.heap[w4.heap.size]?=some (.cells #[.slice a0 (sh enc ps).length c0,.slice a1 (sh enc ps).length c1,.slice a2' L.length c2'] 36 (0,0))∧Below w4.heap.size w4 w5:=⟨_,rfl,heap_alloc_new _ _,ext_alloc (Below.refl _ _) _⟩
  rw [← hw5]
  clear hw5
  have HC5:Hid (∀ w',Below w5.heap.size w5 w'→w'.cell? ⟨w4.heap.size,0,none⟩=some (.slice a0 (sh enc ps).length c0)∧w'.cell? ⟨w4.heap.size,1,none⟩=some (.slice a1 (sh enc ps).length c1)∧w'.cell? ⟨w4.heap.size,2,none⟩=some (.slice a2' L.length c2')):=fun w' hb=>by
   have e:=(hb.block _ (Array.getElem?_eq_some_iff.1 k5).1).trans k5
   refine ⟨?_,?_,?_⟩ <;> (rw [cell_of_row w' _ _ _ _ _ e];rfl)
  have HB45:=hidIt (ext_trans HB4.out hb5)
  have HB5:=hidIt (ext_trans HB3.out HB45.out)
  have SB:=hidIt (sameBytes_eq (.slice a2' L.length c2') (.slice la L.length lc) L w5 (HS4.out.2.2.ext hb5) (HL.out.ext HB5.out))
  have hnl:(sh enc ps).length≤65536:=HOP.out.1.sum.2.2
  have HK5:=hidIt k5
  have HS5:=hidIt (HS4.out.ext hb5)
  have z34:w3.heap.size≤w4.heap.size:=HB4.out.size
  obtain ⟨d0,d1,d2⟩:=HC5.out w5 (Below.refl _ _)
  clear k5 hb5 SE
  go_upto_block 0 with (go_at_call 23;refine SB.out.mono ?_;clear d0 d1 d2;rintro e w6 ⟨rfl,hb6⟩;have HB6:=hidIt hb6;obtain ⟨d0,d1,d2⟩:=HC5.out w6 hb6;clear hb6;(try dsimp only))
  have HI0:Hid (LcI enc lim L w t w4.heap.size ps w6):=by
   refine ⟨HOP.out.1.ext (ext_trans HB45.out HB6.out),⟨a0,c0,a1,c1,a2',c2',?_,?_⟩,ext_trans HB5.out HB6.out,htl,Nat.le_trans HB3.out.size z34⟩
   ·rw [HBL.out]
    exact (HB6.out.block _ (Array.getElem?_eq_some_iff.1 HK5.out).1).trans HK5.out
   ·have h5:=HS5.out.ext HB6.out
    rw [HBL.out]
    exact ⟨h5.1.mono HB3.out.size,h5.2.1.mono HB3.out.size,h5.2.2⟩
  obtain ⟨bx,hbx⟩:∃ bx,bx=w4.heap.size:=⟨_,rfl⟩
  rw [← hbx] at HI0 ⊢
  clear hbx d0 d1 d2 HC5 HB45 HB5 SB HK5 HS5 HS4 HB4 HB3 HB2 HB1 HOP z34 HBL hnl
  go_wp2_with fail
  go_loopg [12] ess.length (fun gk p wr=>∃ (i:Nat) (qs:List PG),i + gk=ess.length∧p=.int .i64 (i:Nat)∧Hid (LcI enc lim L w t bx qs wr))
  case atStart=>exact ⟨0,ps,by omega,rfl,HI0.out⟩
  case round =>
   obtain ⟨i,qs,hi,rfl,HI⟩:=hrel
   by_cases hil:i < ess.length
   ·have hil2:(i:Int) < (ess.length:Int):=by omega
    obtain ⟨es,hes⟩:∃ es,ess[i]?=some es:=⟨_,List.getElem?_eq_getElem hil⟩
    obtain ⟨b,o,va,vc,rfl,hbl,ce0,hed,hbn⟩:=HE'.out i es hes
    have ce:wr.cell? ⟨b,o + i,none⟩=some (.slice va es.length vc):=(HI.out.bel.cell (p:=⟨b,o + i,none⟩) hbl).trans ce0
    have HPE:=hidIt (HPU.out es (List.mem_of_getElem? hes))
    by_cases h7:70000 < es.length
    ·have h7':(70000:Int) < (es.length:Int):=by omega
     clear hed hbn hes ce0
     go_wp2_with fail
     go_roundg (ess.length - (i + 1))
     case rel=>exact ⟨i + 1,qs,by omega,by go_num,HI.out⟩
     case measure=>omega
    ·have h7':¬ (70000:Int) < (es.length:Int):=by omega
     obtain ⟨l,hl⟩:∃ l,sh enc qs=l:=⟨_,rfl⟩
     obtain ⟨x0,y0,x1,y1,x2,y2,hbk,hsn⟩:=HI.out.sn
     rw [hl] at hbk hsn
     obtain ⟨M,hM⟩:∃ M,(Cx.encB enc (l.map Prod.fst)).length=M:=⟨_,rfl⟩
     rw [hM] at hbk hsn
     have hll:l.length≤65536:=by rw [← hl];exact HI.out.tx.sum.2.2
     have hfit:∀ x ∈ l,Cx.fits enc x.1=true:=fun x hx=>HI.out.tx.pc.fit _ (by rw [← sh_fst enc qs,hl];exact List.mem_map_of_mem hx)
     have HSC:Hid (∀ w',Below wr.heap.size wr w'→w'.cell? ⟨bx,0,none⟩=some (.slice x0 l.length y0)∧w'.cell? ⟨bx,1,none⟩=some (.slice x1 l.length y1)∧w'.cell? ⟨bx,2,none⟩=some (.slice x2 M y2)∧w'.cell? ⟨b,o + i,none⟩=some (.slice va es.length vc)):=fun w' hb=>by
      have e:=(hb.block _ (Array.getElem?_eq_some_iff.1 hbk).1).trans hbk
      exact ⟨by rw [cell_of_row w' _ _ _ _ _ e];rfl,by rw [cell_of_row w' _ _ _ _ _ e];rfl,by rw [cell_of_row w' _ _ _ _ _ e];rfl,((ext_trans HI.out.bel hb).cell (p:=⟨b,o + i,none⟩) hbl).trans ce0⟩
     have GD:Hid (∀ w',Below wr.heap.size wr w'→Calls Tryz.prog 38 #[.int .i64 enc,.int .i64 lim,.agg #[.slice x0 l.length y0,.slice x1 l.length y1,.slice x2 M y2],.slice va es.length vc] w' fun e w''=>∃ (p0:Option Addr) (n0 q0:Nat) (p1:Option Addr) (n1 q1:Nat) (p2:Option Addr) (n2 q2:Nat) (c:Bool),e=.returned (.tuple #[.agg #[.slice p0 n0 q0,.slice p1 n1 q1,.slice p2 n2 q2],.bool c])∧Hid (c=decide (chA enc lim l es=0)∧SnO w'' w.heap.size (.slice p0 n0 q0) (.slice p1 n1 q1) (.slice p2 n2 q2) ((chT enc lim l es).map Prod.fst) ((chT enc lim l es).map Prod.snd) (Cx.encB enc ((chT enc lim l es).map Prod.fst)))∧Below w'.heap.size w' w''):=fun w' hb=>by
      have hS:=hsn.ext hb
      rw [← hM] at hS ⊢
      refine (good_any enc lim HEN.out l hfit hll w' w.heap.size (ext_trans HI.out.bel hb).size _ _ _ _ hS es (hed.ext (ext_trans HI.out.bel hb)) (by omega) HPE.out).mono ?_
      rintro e w'' ⟨xa,xt,xb,rfl,hsx,hb'⟩
      obtain ⟨f0,f1,f2,f3,f4,f5,e0,e1,e2⟩:=hsx.out.form
      subst e0 e1 e2
      exact ⟨_,_,_,_,_,_,_,_,_,_,rfl,⟨rfl,hsx.out⟩,hb'⟩
     have HED:=hidIt hed
     have HBN:=hidIt hbn
     have HLQ:=hidIt hl
     have HBK2:=hidIt hbk
     clear hed hbn hes ce0 hsn hfit hM hl hbk
     go_upto_region 15 with fail
     go_cut [13,14] from 75 to 85 (fun p13 p14 wF=>∃ (bn:Nat) (p0:Option Addr) (n0 q0:Nat) (p1:Option Addr) (n1 q1:Nat) (p2:Option Addr) (n2 q2:Nat) (c:Bool),p13=.pointer (some ⟨bn,0,none⟩)∧p14=.bool c∧Hid (c=decide (chA enc lim l es=0)∧SnO wF w.heap.size (.slice p0 n0 q0) (.slice p1 n1 q1) (.slice p2 n2 q2) ((chT enc lim l es).map Prod.fst) ((chT enc lim l es).map Prod.snd) (Cx.encB enc ((chT enc lim l es).map Prod.fst))∧wF.heap[bn]?=some (.cells #[.slice p0 n0 q0,.slice p1 n1 q1,.slice p2 n2 q2] 36 (0,0))∧wr.heap.size≤bn∧Below wr.heap.size wr wF))
     case first =>
      have ks:=HSC.out wr (Below.refl _ _)
      refine wp_region_held_drew (S:=fun w''=>w''.cell? ⟨bx,0,none⟩=some (.slice x0 l.length y0)∧w''.cell? ⟨bx,1,none⟩=some (.slice x1 l.length y1)∧w''.cell? ⟨bx,2,none⟩=some (.slice x2 M y2)∧w''.cell? ⟨b,o + i,none⟩=some (.slice va es.length vc)) (by kernel_rfl) (ks) (fun hHeld=>?_)
      refine tkH 0 rfl ?_
      try simp only [Act.put,tS]
      refine tkH 1 rfl ?_
      try simp only [Act.put,tS]
      refine tkH 2 rfl ?_
      try simp only [Act.put,tS]
      refine tkH 3 rfl ?_
      try simp only [Act.put,tS]
      refine tkH 4 rfl ?_
      try simp only [Act.put,tS]
      refine tkH 5 rfl ?_
      try simp only [Act.put,tS]
      refine tkH 6 rfl ?_
      try simp only [Act.put,tS]
      refine wpAnyH_ready (rs:=[7,11]) (by kernel_rfl) (by simp) ?_
      refine (AllReadyH.cons (o:=_) rfl (fun K hK=>?_) (AllReadyH.cons (o:=_) rfl (fun K hK=>?_) AllReadyH.nil))
      ·skip
       go_simp
       refine (GD.out _ (Below.drew (Below.refl _ _))).mono ?_;clear ks;rintro e v1 ⟨p0,n0,q0,p1,n1,q1,p2,n2,q2,c,rfl,hg,hb⟩;have HGD:=hidIt hg.out;have HST:=hidIt (ext_trans (Below.drew (Below.refl wr.heap.size wr)) hb);clear hb hg;have HV1:=hidIt HST.out;have ks:=HSC.out v1 HV1.out;try dsimp only
       refine hK.out _ _ ?_ (fun hHeld=>?_)
       ·(try simp only [World.cell?_drew]);exact ks
       clear hK K
       try simp only [Act.put,tS]
       refine tkH 8 rfl ?_
       try simp only [Act.put,tS]
       refine tkH 9 rfl ?_
       try simp only [Act.put,tS]
       refine tkH 10 rfl ?_
       try simp only [Act.put,tS]
       refine rdH 11 rfl fun K hK=>?_
       go_simp
       generalize hwN:World.alloc _ _=v2;have hst:Below v1.heap.size v1 v2:=(by rw [← hwN];exact ext_alloc (Below.refl _ _) _);have H13:Hid (v2.heap[v1.heap.size]?=some (.cells #[.slice none 0 0,.slice none 0 0,.slice none 0 0] 36 (0,0))):=(by unfold Hid;rw [← hwN];exact heap_alloc_new _ _);clear hwN ks;have HV2:=hidIt (ext_trans HV1.out hst);have HG2:=hidIt (And.intro HGD.out.1 (HGD.out.2.ext hst));have ks:=HSC.out v2 HV2.out;have hge:=hidIt HV1.out.size;clear hst;have zc:v2.cell? ⟨v1.heap.size,0,none⟩=some (.slice none 0 0)∧v2.cell? ⟨v1.heap.size,1,none⟩=some (.slice none 0 0)∧v2.cell? ⟨v1.heap.size,2,none⟩=some (.slice none 0 0):=(by refine ⟨?_,?_,?_⟩ <;> (rw [cell_of_row v2 _ _ _ _ _ H13.out];rfl));have zf:∀ i,v2.frozen? ⟨v1.heap.size,i,none⟩=false:=(fun i=>by simp [World.frozen?,H13.out])
       refine hK.out _ _ ?_ (fun hHeld=>?_)
       ·(try simp only [World.cell?_drew]);exact ks
       clear hK K
       try simp only [Act.put,tS]
       refine rdH 12 rfl fun K hK=>?_
       go_simp
       generalize hwN:World.setCell (World.setCell (World.setCell _ _ _) _ _) _ _=v3;have hp:=put3 H13.out (.slice p0 n0 q0) (.slice p1 n1 q1) (.slice p2 n2 q2);rw [hwN] at hp;have HP:=hidIt hp;have HS3:=hidIt (HG2.out.2.put H13.out hp.2);have HV3:Hid (Below wr.heap.size wr v3):=HV2.out.trans (hp.2.below HV2.out.size (fun k e=>by have:=hge.out;omega));clear hp hwN ks zc zf;have ks:=HSC.out v3 HV3.out
       refine hK.out _ _ ?_ (fun hHeld=>?_)
       ·(try simp only [World.cell?_drew]);exact ks
       clear hK K
       try simp only [Act.put,tS]
       refine tkH 13 rfl ?_
       try simp only [Act.put,tS]
       refine wpAnyH_done (by kernel_rfl) ?_ _
       go_wp2_with fail
       go_meet
       case rel=>exact ⟨v1.heap.size,p0,n0,q0,p1,n1,q1,p2,n2,q2,c,rfl,rfl,HG2.out.1,HS3.out,HP.out.1,hge.out,HV3.out⟩
      ·skip
       go_simp
       generalize hwN:World.alloc _ _=v1;have hst:Below wr.heap.size wr v1:=(by rw [← hwN];exact ext_alloc (Below.refl _ _) _);have H13a:Hid (v1.heap[wr.heap.size]?=some (.cells #[.slice none 0 0,.slice none 0 0,.slice none 0 0] 36 (0,0))):=(by unfold Hid;rw [← hwN];exact heap_alloc_new _ _);clear hwN ks;have HV1:=hidIt hst;have ks:=HSC.out v1 HV1.out;have hge:=hidIt (Nat.le_refl wr.heap.size);clear hst
       refine hK.out _ _ ?_ (fun hHeld=>?_)
       ·(try simp only [World.cell?_drew]);exact ks
       clear hK K
       try simp only [Act.put,tS]
       refine rdH 7 rfl fun K hK=>?_
       go_simp
       refine (GD.out _ HV1.out.drew).mono ?_;clear ks;rintro e v2 ⟨p0,n0,q0,p1,n1,q1,p2,n2,q2,c,rfl,hg,hb⟩;have HGD:=hidIt hg.out;have HST:=hidIt (ext_trans (Below.drew (Below.refl v1.heap.size v1)) hb);clear hb hg;have HV2:=hidIt (ext_trans HV1.out HST.out);have H13:=hidIt ((HST.out.block _ (Array.getElem?_eq_some_iff.1 H13a.out).1).trans H13a.out);have HG2:=hidIt HGD.out;have ks:=HSC.out v2 HV2.out;have zc:v2.cell? ⟨wr.heap.size,0,none⟩=some (.slice none 0 0)∧v2.cell? ⟨wr.heap.size,1,none⟩=some (.slice none 0 0)∧v2.cell? ⟨wr.heap.size,2,none⟩=some (.slice none 0 0):=(by refine ⟨?_,?_,?_⟩ <;> (rw [cell_of_row v2 _ _ _ _ _ H13.out];rfl));have zf:∀ i,v2.frozen? ⟨wr.heap.size,i,none⟩=false:=(fun i=>by simp [World.frozen?,H13.out]);try dsimp only
       refine hK.out _ _ ?_ (fun hHeld=>?_)
       ·(try simp only [World.cell?_drew]);exact ks
       clear hK K
       try simp only [Act.put,tS]
       refine tkH 8 rfl ?_
       try simp only [Act.put,tS]
       refine tkH 9 rfl ?_
       try simp only [Act.put,tS]
       refine tkH 10 rfl ?_
       try simp only [Act.put,tS]
       refine rdH 12 rfl fun K hK=>?_
       go_simp
       generalize hwN:World.setCell (World.setCell (World.setCell _ _ _) _ _) _ _=v3;have hp:=put3 H13.out (.slice p0 n0 q0) (.slice p1 n1 q1) (.slice p2 n2 q2);rw [hwN] at hp;have HP:=hidIt hp;have HS3:=hidIt (HG2.out.2.put H13.out hp.2);have HV3:Hid (Below wr.heap.size wr v3):=HV2.out.trans (hp.2.below HV2.out.size (fun k e=>by have:=hge.out;omega));clear hp hwN ks zc zf;have ks:=HSC.out v3 HV3.out
       refine hK.out _ _ ?_ (fun hHeld=>?_)
       ·(try simp only [World.cell?_drew]);exact ks
       clear hK K
       try simp only [Act.put,tS]
       refine tkH 13 rfl ?_
       try simp only [Act.put,tS]
       refine wpAnyH_done (by kernel_rfl) ?_ _
       go_wp2_with fail
       go_meet
       case rel=>exact ⟨wr.heap.size,p0,n0,q0,p1,n1,q1,p2,n2,q2,c,rfl,rfl,HG2.out.1,HS3.out,HP.out.1,hge.out,HV3.out⟩
     obtain ⟨bn,p0,n0,q0,p1,n1,q1,p2,n2,q2,c,rfl,rfl,HN⟩:=hcut
     obtain ⟨w16,rfl⟩:∃ v,v=wc:=⟨_,rfl⟩
     have HB16:=hidIt HN.out.2.2.2.2
     have HTX16:=hidIt (HI.out.tx.ext HB16.out)
     have HBW:=hidIt (ext_trans HI.out.bel HB16.out)
     have CG:=hidIt (changed_any enc lim L w w16 t qs _ es HTX16.out HED.out HBW.out HI.out.tl HBN.out)
     obtain ⟨_,_,_,ce⟩:=HSC.out w16 HB16.out
     obtain ⟨cA,hcA⟩:∃ cA,cA=chA enc lim l es:=⟨_,rfl⟩
     have CG2:Hid (Calls Tryz.prog 30 #[.pointer (some ⟨t,0,none⟩),.slice va es.length vc] w16 fun e w''=>e=.returned (.tuple #[.int .i64 cA,.bool true])∧Hid (∃ ps',Tx enc lim L w'' t ps'∧sh enc ps'=chT enc lim l es∧Kps (fun k=>k=t) w16 w'')):=by
      unfold Hid
      refine CG.out.mono ?_
      rintro e w'' ⟨rfl,h⟩
      rw [HLQ.out] at h ⊢
      rw [← hcA]
      exact ⟨rfl,h⟩
     have HCA:=hidIt hcA
     clear hcA CG
     go_upto_region 17 with (go_at_call 30;refine CG2.out.mono ?_;clear ce;rintro e w17 ⟨rfl,hc⟩;have HC:=hidIt hc.out;clear hc;(try dsimp only))
     obtain ⟨ps',hT',hs',hk'⟩:=HC.out
     have htt:=HTX16.out.typ0
     have hbn17:w17.heap[bn]?=some (.cells #[.slice p0 n0 q0,.slice p1 n1 q1,.slice p2 n2 q2] 36 (0,0)):=(hk'.same bn (Array.getElem?_eq_some_iff.1 HN.out.2.2.1).1 (fun e=>by subst e;exact absurd (Typ.uniq (T:=36) ⟨_,HN.out.2.2.1⟩ htt) (by decide))).trans HN.out.2.2.1
     have HSN17:=hidIt (SnO.kpt HTX16.out hk' HN.out.2.1)
     have HBN17:=hidIt hbn17
     have HT17:=hidIt hT'
     have HS17:=hidIt hs'
     have HBW17:Hid (Below w.heap.size w w17):=HBW.out.trans (hk'.below HBW.out.size (fun k e=>by have:=HI.out.tl;omega))
     have HBX17:Hid (w17.heap[bx]?=some (.cells #[.slice x0 l.length y0,.slice x1 l.length y1,.slice x2 M y2] 36 (0,0))):=by
      have e:=(HB16.out.block _ (Array.getElem?_eq_some_iff.1 HBK2.out).1).trans HBK2.out
      exact (hk'.same bx (Array.getElem?_eq_some_iff.1 e).1 (fun e2=>by subst e2;exact absurd (Typ.uniq (T:=36) ⟨_,e⟩ htt) (by decide))).trans e
     have hnx:bn≠bx:=fun e=>by
      have h1:=HN.out.2.2.2.1
      have h2:=(Array.getElem?_eq_some_iff.1 HBK2.out).1
      omega
     have HNC:Hid (∀ w',Below w17.heap.size w17 w'→w'.cell? ⟨bn,0,none⟩=some (.slice p0 n0 q0)∧w'.cell? ⟨bn,1,none⟩=some (.slice p1 n1 q1)∧w'.cell? ⟨bn,2,none⟩=some (.slice p2 n2 q2)):=fun w' hb=>by
      have e:=(hb.block _ (Array.getElem?_eq_some_iff.1 HBN17.out).1).trans HBN17.out
      refine ⟨?_,?_,?_⟩ <;> (rw [cell_of_row w' _ _ _ _ _ e];rfl)
     have SE17:Hid (∀ w',Below w17.heap.size w17 w'→Calls Tryz.prog 21 #[.pointer (some ⟨t,0,none⟩)] w' fun e w''=>∃ (r0:Option Addr) (k0:Nat) (m0:Nat) (r1:Option Addr) (k1 m1:Nat) (r2:Option Addr) (k2 m2:Nat),e=.returned (.agg #[.slice r0 m0 k0,.slice r1 m1 k1,.slice r2 m2 k2])∧Hid (∀ w3,Below w''.heap.size w'' w3→Calls Tryz.prog 39 #[.agg #[.slice r0 m0 k0,.slice r1 m1 k1,.slice r2 m2 k2],.agg #[.slice p0 n0 q0,.slice p1 n1 q1,.slice p2 n2 q2]] w3 fun e w4=>e=.returned (.bool true)∧Below w3.heap.size w3 w4)∧Below w'.heap.size w' w''):=fun w' hb=>by
      refine (sight_any enc lim L w' t ps' (HT17.out.ext hb) _ HS17.out).mono ?_
      rintro e w'' ⟨r0,k0,r1,k1,r2,k2,rfl,hsn,hb'⟩
      refine ⟨_,_,_,_,_,_,_,_,_,rfl,fun w3 hb3=>?_,hb'⟩
      have h1:=hsn.out.ext hb3
      have h2:=HSN17.out.ext (ext_trans hb (ext_trans hb' hb3))
      exact same_any _ _ _ _ _ _ _ _ _ w3 ⟨h1.1.rd,h1.2.1.rd,h1.2.2⟩ ⟨h2.1.rd,h2.2.1.rd,h2.2.2⟩
     have HCC:Hid ((cA=0∧c=true)∨(cA≠0∧c=false)):=by
      unfold Hid
      rw [HN.out.1,HCA.out]
      by_cases h:chA enc lim l es=0
      ·exact .inl ⟨h,decide_eq_true h⟩
      ·exact .inr ⟨h,decide_eq_false h⟩
     clear hbn17 hT' hs' hk' htt HC CG2 GD HSC
     go_cut [109] from 95 to 108 (fun v wF=>v=.bool false∧Hid (Below w17.heap.size w17 wF))
     case first =>
      obtain ⟨nc0,nc1,nc2⟩:=HNC.out w17 (Below.refl _ _)
      rcases HCC.out with ⟨rfl,rfl⟩ | ⟨hc0,rfl⟩
      ·skip
       refine wp_region_held_drew (S:=fun w''=>w''.cell? ⟨bn,0,none⟩=some (.slice p0 n0 q0)∧w''.cell? ⟨bn,1,none⟩=some (.slice p1 n1 q1)∧w''.cell? ⟨bn,2,none⟩=some (.slice p2 n2 q2)) (by kernel_rfl) (⟨nc0,nc1,nc2⟩) (fun hHeld=>?_)
       refine tkH 0 rfl ?_
       try simp only [Act.put,tS]
       refine tkH 1 rfl ?_
       try simp only [Act.put,tS]
       refine tkH 2 rfl ?_
       try simp only [Act.put,tS]
       refine tkH 3 rfl ?_
       try simp only [Act.put,tS]
       refine tkH 4 rfl ?_
       try simp only [Act.put,tS]
       refine tkH 5 rfl ?_
       try simp only [Act.put,tS]
       refine tkH 6 rfl ?_
       try simp only [Act.put,tS]
       refine tkH 7 rfl ?_
       try simp only [Act.put,tS]
       refine tkH 8 rfl ?_
       try simp only [Act.put,tS]
       refine tkH 9 rfl ?_
       try simp only [Act.put,tS]
       refine tkH 11 rfl ?_
       try simp only [Act.put,tS]
       refine rdH 10 rfl fun K hK=>?_
       go_simp
       refine (SE17.out _ (Below.drew (Below.refl _ _))).mono ?_;clear nc0 nc1 nc2;rintro e v1 ⟨r0,k0,m0,r1,k1,m1,r2,k2,m2,rfl,hsm,hb⟩;have HSM:=hidIt (hsm.out v1 (Below.refl _ _));have HV1:=hidIt (ext_trans (Below.drew (Below.refl w17.heap.size w17)) hb);clear hb hsm;obtain ⟨nc0,nc1,nc2⟩:=HNC.out v1 HV1.out;try dsimp only
       refine hK.out _ _ ?_ (fun hHeld=>?_)
       ·(try simp only [World.cell?_drew]);exact ⟨nc0,nc1,nc2⟩
       clear hK K
       try simp only [Act.put,tS]
       refine rdH 12 rfl fun K hK=>?_
       go_simp
       refine HSM.out.mono ?_;clear nc0 nc1 nc2;rintro e v2 ⟨rfl,hb⟩;have HV2:=hidIt (ext_trans HV1.out hb);clear hb;obtain ⟨nc0,nc1,nc2⟩:=HNC.out v2 HV2.out;try dsimp only
       refine hK.out _ _ ?_ (fun hHeld=>?_)
       ·(try simp only [World.cell?_drew]);exact ⟨nc0,nc1,nc2⟩
       clear hK K
       try simp only [Act.put,tS]
       refine tkH 13 rfl ?_
       try simp only [Act.put,tS]
       refine tkH 14 rfl ?_
       try simp only [Act.put,tS]
       refine wpAnyH_done (by kernel_rfl) ?_ _
       go_wp2_with fail
       go_meet
       case rel=>exact ⟨rfl,HV2.out⟩
      ·have hc1:(cA == 0)=false:=by simpa using hc0
       have hc2:decide (cA=0)=false:=decide_eq_false hc0
       refine wp_region_held_drew (S:=fun w''=>w''.cell? ⟨bn,0,none⟩=some (.slice p0 n0 q0)∧w''.cell? ⟨bn,1,none⟩=some (.slice p1 n1 q1)∧w''.cell? ⟨bn,2,none⟩=some (.slice p2 n2 q2)) (by kernel_rfl) (⟨nc0,nc1,nc2⟩) (fun hHeld=>?_)
       refine tkH 0 rfl ?_
       try simp only [Act.put,tS]
       refine tkH 1 rfl ?_
       try simp only [Act.put,tS]
       refine tkH 2 rfl ?_
       try simp only [Act.put,tS]
       refine tkH 3 rfl ?_
       try simp only [Act.put,tS]
       refine tkH 4 rfl ?_
       try simp only [Act.put,tS]
       refine tkH 5 rfl ?_
       try simp only [Act.put,tS]
       refine tkH 6 rfl ?_
       try simp only [Act.put,tS]
       refine tkH 7 rfl ?_
       try simp only [Act.put,tS]
       refine tkH 8 rfl ?_
       try simp only [Act.put,tS]
       refine tkH 9 rfl ?_
       try simp only [Act.put,tS]
       refine tkH 11 rfl ?_
       try simp only [Act.put,tS]
       refine rdH 10 rfl fun K hK=>?_
       go_simp
       refine (SE17.out _ (Below.drew (Below.refl _ _))).mono ?_;clear nc0 nc1 nc2;rintro e v1 ⟨r0,k0,m0,r1,k1,m1,r2,k2,m2,rfl,hsm,hb⟩;have HSM:=hidIt (hsm.out v1 (Below.refl _ _));have HV1:=hidIt (ext_trans (Below.drew (Below.refl w17.heap.size w17)) hb);clear hb hsm;obtain ⟨nc0,nc1,nc2⟩:=HNC.out v1 HV1.out;try dsimp only
       refine hK.out _ _ ?_ (fun hHeld=>?_)
       ·(try simp only [World.cell?_drew]);exact ⟨nc0,nc1,nc2⟩
       clear hK K
       try simp only [Act.put,tS]
       refine rdH 12 rfl fun K hK=>?_
       go_simp
       refine HSM.out.mono ?_;clear nc0 nc1 nc2;rintro e v2 ⟨rfl,hb⟩;have HV2:=hidIt (ext_trans HV1.out hb);clear hb;obtain ⟨nc0,nc1,nc2⟩:=HNC.out v2 HV2.out;try dsimp only
       refine hK.out _ _ ?_ (fun hHeld=>?_)
       ·(try simp only [World.cell?_drew]);exact ⟨nc0,nc1,nc2⟩
       clear hK K
       try simp only [Act.put,tS]
       refine tkH 13 rfl ?_
       try simp only [Act.put,tS]
       refine tkH 14 rfl ?_
       try simp only [Act.put,tS]
       refine wpAnyH_done (by kernel_rfl) ?_ _
       go_wp2_with fail
       go_meet
       case rel=>exact ⟨rfl,HV2.out⟩
     obtain ⟨rfl,HBE⟩:=hcut
     obtain ⟨w18,rfl⟩:∃ v,v=wc:=⟨_,rfl⟩
     obtain ⟨nc0,nc1,nc2⟩:=HNC.out w18 HBE.out
     have HBX18:Hid (w18.heap[bx]?=some (.cells #[.slice x0 l.length y0,.slice x1 l.length y1,.slice x2 M y2] 36 (0,0))):=(HBE.out.block _ (Array.getElem?_eq_some_iff.1 HBX17.out).1).trans HBX17.out
     have sc:w18.cell? ⟨bx,0,none⟩=some (.slice x0 l.length y0)∧w18.cell? ⟨bx,1,none⟩=some (.slice x1 l.length y1)∧w18.cell? ⟨bx,2,none⟩=some (.slice x2 M y2):=by refine ⟨?_,?_,?_⟩ <;> (rw [cell_of_row w18 _ _ _ _ _ HBX18.out];rfl)
     have sf:∀ i,w18.frozen? ⟨bx,i,none⟩=false:=fun i=>by simp [World.frozen?,HBX18.out]
     have HFIN:Hid (∀ z,z=((w18.setCell ⟨bx,0,none⟩ (.slice p0 n0 q0)).setCell ⟨bx,1,none⟩ (.slice p1 n1 q1)).setCell ⟨bx,2,none⟩ (.slice p2 n2 q2)→LcI enc lim L w t bx ps' z):=fun z hz=>by
      obtain ⟨u1,u2⟩:=put3 HBX18.out (.slice p0 n0 q0) (.slice p1 n1 q1) (.slice p2 n2 q2)
      rw [← hz] at u1 u2
      have T18:=HT17.out.ext HBE.out
      have htt:=T18.typ0
      have hst:∀ T,T≠36→∀ b,Typ T w18 b→z.heap[b]?=w18.heap[b]?:=fun T hT b hb=>u2.same b hb.lt (fun e=>hT (by subst e;exact hb.uniq ⟨_,HBX18.out⟩))
      have S18:=(HSN17.out.ext HBE.out).put HBX18.out u2
      have hsl:=HS17.out
      obtain ⟨g0,g1,g2,g3,g4,g5,e0,e1,e2⟩:=S18.form
      rw [List.length_map,← hsl] at e0 e1
      rw [← hsl] at e2 S18
      rw [e0,e1,e2] at S18 u1
      exact ⟨T18.same (hst _ (by decide)) (hst _ (by decide)) (hst _ (by decide)),⟨_,_,_,_,_,_,u1,S18⟩,(ext_trans HBW17.out HBE.out).trans (u2.below (ext_trans HBW17.out HBE.out).size (fun k e=>by have:=HI.out.bl;omega)),HI.out.tl,HI.out.bl⟩
     clear HNC SE17 HCC
     go_wp2_with fail
     generalize hwz:World.setCell (World.setCell (World.setCell w18 _ _) _ _) _ _=z at *
     go_roundg (ess.length - (i + 1))
     case rel=>exact ⟨i + 1,ps',by omega,by go_num,HFIN.out z rfl⟩
     case measure=>omega
   ·have hil2:¬ (i:Int) < (ess.length:Int):=by omega
    clear hi
    go_wp2_with fail
    go_ret
    exact ⟨rfl,HI.out.bel⟩
 ·have KN:Hid (∀ w',Calls Tryz.prog 25 #[.int .i64 enc,.slice la L.length lc] w' fun e w''=>e=.returned (.bool false)∧w''=w'):=fun w'=>known_no enc la L.length lc w' hLm hkn
  clear hL hE he3 hlv hkn hpu
  go_enter Tryz.func6,Tryz.ntmps6
  go_wp2_with (first
   | (go_at_call 16;refine (AB.out w).mono ?_;rintro e w1 ⟨rfl,hb1⟩;have HB1:=hidIt hb1;clear hb1;(try dsimp only))
   | (go_at_call 25;refine (KN.out w1).mono ?_;rintro e w1' ⟨rfl,hw1⟩;rw [hw1];clear hw1;(try dsimp only)))
  go_ret
  exact ⟨rfl,HB1.out⟩
end Go.Proofs.YtdkpkncolpapoaaGreat.P

namespace Go.Proofs.YtdkpkncolpapoaaGreat
open Go.ChangeShapes Go.WideShapes Go.ChangeAt Go.RowKit
theorem bulk_one {H:Type} (d:DataW H):1≤Rows.uptoBulk d:=by
 cases d with
 | lit l=>cases l <;> simp [Rows.uptoBulk]
 | nil=>simp [Rows.uptoBulk]
 | ptr d=>simp [Rows.uptoBulk]
 | slice elems spare=>simp [Rows.uptoBulk]
 | agg parts=>simp [Rows.uptoBulk]
 | iface t d=>simp [Rows.uptoBulk]
 | map entries=>simp [Rows.uptoBulk]
 | held h=>simp [Rows.uptoBulk]
theorem bulk_part {H:Type} {d:DataW H} {l:List (DataW H)} (h:d ∈ l):Rows.uptoBulk d≤Rows.uptoBulkAll l:=by
 induction l with
 | nil=>cases h
 | cons x r ih =>
   simp only [Rows.uptoBulkAll]
   cases List.mem_cons.1 h with
   | inl e=>subst e;omega
   | inr e=>have:=ih e;omega
theorem bulk_length {H:Type} (l:List (DataW H)):l.length≤Rows.uptoBulkAll l:=by
 induction l with
 | nil=>simp
 | cons x r ih=>have:=bulk_one x;simp only [Rows.uptoBulkAll,List.length_cons];omega
theorem bulk_bound {H:Type} {l:List (DataW H)} (hk:Rows.uptoSmall H l=true):Rows.uptoBulkAll l≤1048576:=of_decide_eq_true hk
end Go.Proofs.YtdkpkncolpapoaaGreat

namespace Go.Proofs.YtdkpkncolpapoaaGreat
open Go.ChangeShapes Go.WideShapes Go.ChangeAt Go.RowKit
theorem cSl:Tryz.prog.cellsOf 22=1:=by kernel_rfl
theorem cEs:Tryz.prog.cellsOf 31=1:=by kernel_rfl
theorem cIn:Tryz.prog.cellsOf 3=1:=by kernel_rfl
theorem cEd:Tryz.prog.cellsOf 30=3:=by kernel_rfl
theorem bulk_in {H:Type} {el sp:List (DataW H)} {d:DataW H} (h:d ∈ el):Rows.uptoBulk d≤Rows.uptoBulk (DataW.slice el sp):=by
 have:=bulk_part h
 simp only [Rows.uptoBulk]
 omega
theorem bulk_agg {H:Type} {parts:List (DataW H)} {d:DataW H} (h:d ∈ parts):Rows.uptoBulk d≤Rows.uptoBulk (DataW.agg parts):=by
 have:=bulk_part h
 simp only [Rows.uptoBulk]
 omega
theorem bulk_len {H:Type} {el sp:List (DataW H)} (h:Rows.uptoBulk (DataW.slice el sp)≤1048576):el.length≤1048576:=by
 have:=bulk_length el
 simp only [Rows.uptoBulk] at h
 omega
theorem inner_boundB {H:Type} {zs:List Int} {d:DataW H} (hd:zs=[]∨∃ el sp,d=DataW.slice el sp∧el.length=zs.length) (hw:Rows.uptoBulk d≤1048576):zs.length≤1048576:=by
 rcases hd with rfl | ⟨el,sp,rfl,hel⟩
 ·simp
 ·have:=bulk_len hw
  omega
theorem inner_of {H:Type} {enc:TypeId × Value→H} {W:World} {fuel:Nat} {c:Value} {d:DataW H} {p:List MemPlace}
  (h:DataW.trod enc Tryz.prog W 0 (fun _=>true) true fuel 22 [c]=some (d,p)) :
  ∃ ao cap zs,c=.slice ao zs.length cap∧Rd .i64 W (.slice ao zs.length cap) zs∧(zs=[]∨∃ el sp,d=.slice el sp∧el.length=zs.length):=by
 have hs:∃ ao len cap,c=.slice ao len cap:=by
  rcases DataW.trod_slice Tryz.underlying22 h with ⟨hcs,_⟩ | ⟨x,l,k,elems,rest,n,_,hcs,_⟩
  ·exact ⟨none,0,0,by simpa using hcs⟩
  ·exact ⟨some x,l,k,by simpa using hcs⟩
 obtain ⟨ao,len,cap,rfl⟩:=hs
 obtain ⟨zs,hr,_,hd⟩:=rd_of (enc:=enc) (d:=d) (p:=p) Tryz.underlying22 Tryz.underlying3 (by kernel_rfl) ⟨fuel,by simpa [Value.cells] using h⟩
 obtain ⟨ao',cap',hv,r1,r2,r3⟩:=id hr
 simp only [Value.slice.injEq] at hv
 obtain ⟨rfl,rfl,rfl⟩:=hv
 exact ⟨ao,cap,zs,rfl,hr,hd⟩
structure EdAt (w:World) (f:Nat→Option Value) (e:P.Ed):Prop where
 c0:f 0=some (.int .i64 e.1)
 c1:f 1=some (.int .i64 e.2.1)
 c2:∃ pv,f 2=some pv∧Rd .i64 w pv e.2.2
 hz:e.2.2.length * 8≤140737488351232
theorem nil_of {H:Type} {enc:TypeId × Value→H} {W:World} {t e:TypeId} {len0 cap0:Nat} {d:DataW H} {p:List MemPlace} (ht:Tryz.prog.underlying t=some (.slice e))
  (h:DataW.Trod enc Tryz.prog W 0 (fun _=>true) true t (.slice none len0 cap0) d p):len0=0∧cap0=0:=by
 obtain ⟨fuel,hf⟩:=h
 rcases DataW.trod_slice ht hf with ⟨hcs,_⟩ | ⟨x,l,c,elems,rest,n,_,hcs,_⟩
 ·simp [Value.cells] at hcs
  exact hcs
 ·simp [Value.cells] at hcs
end Go.Proofs.YtdkpkncolpapoaaGreat

namespace Go.Proofs.YtdkpkncolpapoaaGreat
open Go.ChangeShapes Go.WideShapes Go.ChangeAt Go.RowKit
theorem puts_bulk {H:Type}:∀ (el:List (DataW H)) (f:Nat→P.Ed),(∀ (i:Nat) (hi:i < el.length),(f i).2.2.length≤Rows.uptoBulk el[i])→(P.puts ((List.range el.length).map f)).length≤Rows.uptoBulkAll el:=by
 intro el
 induction el with
 | nil=>intro f _;simp [P.puts]
 | cons x el ih =>
   intro f h
   have h0:=h 0 (by simp)
   have h1:=ih (fun i=>f (i + 1)) (fun i hi=>by have:=h (i + 1) (by simpa using hi);simpa using this)
   rw [List.length_cons,List.range_succ_eq_map,List.map_cons,List.map_map]
   have e:P.puts (f 0 :: (List.range el.length).map (f ∘ Nat.succ))=(f 0).2.2 ++ P.puts ((List.range el.length).map fun i=>f (i + 1)):=by simp [P.puts,Function.comp_def]
   rw [e,List.length_append]
   simp only [Rows.uptoBulkAll]
   simp only [List.getElem_cons_zero] at h0
   omega
set_option maxRecDepth 100000 in
theorem ed_cellsP {H:Type} {enc:TypeId × Value→H} {w:World} {fuel:Nat} {cs:List Value} {d:DataW H} {p:List MemPlace}
  (h:DataW.trod enc Tryz.prog w 0 (fun _=>true) true fuel 30 cs=some (d,p)) (hw:Rows.uptoBulk d≤1048576) :
  ∃ e:P.Ed,EdAt w (fun i=>cs[i]?) e∧e.2.2.length≤Rows.uptoBulk d:=by
 obtain ⟨xs,n,rfl,hx,hl,hxl,hall⟩:=DataW.trod_struct Tryz.underlying30 h
 match xs,hxl with
 | [x0,x1,x2],_ =>
   obtain ⟨k0,e0,r0,w0⟩:=DataW.trod_int Tryz.underlying3 (hall 0 _ rfl)
   obtain ⟨k1,e1,r1,w1⟩:=DataW.trod_int Tryz.underlying3 (hall 1 _ rfl)
   have h2:=hall 2 _ rfl
   have e0':(cs.drop 0).take (Tryz.prog.cellsOf 3)=[.int .i64 k0]:=e0
   have e1':(cs.drop 1).take (Tryz.prog.cellsOf 3)=[.int .i64 k1]:=e1
   have h2':DataW.trod enc Tryz.prog w 0 (fun _=>true) true n 22 ((cs.drop 2).take (Tryz.prog.cellsOf 22))=some x2:=h2
   rw [cEd] at hl
   rw [cIn] at e0' e1'
   rw [cSl] at h2'
   match cs,hl with
   | [c0,c1,c2],_ =>
     simp at e0' e1'
     subst e0';subst e1'
     simp only [List.drop_succ_cons,List.drop_zero,List.take_succ_cons,List.take_zero] at h2'
     obtain ⟨ai,ci,zs,rfl,hr,hd⟩:=inner_of (d:=x2.1) (p:=x2.2) h2'
     refine ⟨(k0,k1,zs),⟨rfl,rfl,⟨_,rfl,hr⟩,?_⟩,?_⟩
     rotate_left 1
     ·obtain ⟨rfl,_⟩:=Prod.mk.inj hx
      refine Nat.le_trans ?_ (bulk_agg (d:=x2.1) (by simp))
      rcases hd with rfl | ⟨el,sp,he,hel⟩
      ·exact Nat.zero_le _
      ·rw [he]
       have:=bulk_length el
       simp only [Rows.uptoBulk]
       show zs.length≤_
       omega
     obtain ⟨rfl,_⟩:=Prod.mk.inj hx
     have h1:Rows.uptoBulk x2.1≤1048576:=Nat.le_trans (bulk_agg (d:=x2.1) (by simp)) hw
     have:=inner_boundB hd h1
     show zs.length * 8≤_
     omega
set_option maxRecDepth 100000 in
theorem eds_ofP {H:Type} {enc:TypeId × Value→H} {W:World} {a0:Option Addr} {len0 cap0:Nat} {d:DataW H} {p:List MemPlace}
  (h:DataW.Trod enc Tryz.prog W 0 (fun _=>true) true 31 (.slice a0 len0 cap0) d p) (hw:Rows.uptoBulk d≤1048576) :
  ∃ es,es.length=len0∧P.EdR W (.slice a0 len0 cap0) es∧P.Bnd es∧(P.puts es).length≤Rows.uptoBulk d:=by
 obtain ⟨fuel,hf⟩:=h
 rcases DataW.trod_slice Tryz.underlying31 hf with ⟨hcs,_⟩ | ⟨x,l,c,elems,rest,n,_,hcs,hx,hb,hl,hm,hlen,hel,_,_⟩
 ·simp [Value.cells] at hcs
  obtain ⟨rfl,rfl,rfl⟩:=hcs
  exact ⟨[],rfl,⟨none,0,rfl,Nat.le_refl _,by omega,fun h=>absurd rfl h⟩,⟨(fun e he=>by cases he),by simp⟩,by simp [P.puts]⟩
 ·simp [Value.cells] at hcs
  obtain ⟨rfl,rfl,rfl⟩:=hcs
  rw [cEd] at hel
  obtain ⟨rfl,_⟩:=Prod.mk.inj hx
  obtain ⟨b,off,spot⟩:=x
  have each:∀ i,∃ e:P.Ed,i < len0→(EdAt W (fun j=>W.cell? (((⟨b,off,spot⟩:Addr).add (i * 3)).add j)) e∧∀ hi:i < elems.length,e.2.2.length≤Rows.uptoBulk elems[i].1):=by
   intro i
   by_cases hi:i < len0
   ·have hi':i < elems.length:=by omega
    have:=hel i hi
    rw [List.getElem?_eq_getElem hi',Option.bind_eq_some_iff] at this
    obtain ⟨cs,hcs,hy⟩:=this
    obtain ⟨e,he,hle⟩:=ed_cellsP (d:=elems[i].1) (p:=elems[i].2) hy (Nat.le_trans (bulk_in (List.mem_map.2 ⟨elems[i],List.getElem_mem hi',rfl⟩)) hw)
    have hcell:=(World.cells?_some hcs).2.2
    refine ⟨e,fun _=>⟨⟨(hcell 0 (by omega)).trans he.c0,(hcell 1 (by omega)).trans he.c1,?_,he.hz⟩,fun _=>hle⟩⟩
    obtain ⟨pv,h1,h2⟩:=he.c2
    exact ⟨pv,(hcell 2 (by omega)).trans h1,h2⟩
   ·exact ⟨(0,0,[]),fun h=>absurd h hi⟩
  obtain ⟨f,hff⟩:=Classical.skolem.1 each
  have hf':∀ i,i < len0→EdAt W (fun j=>W.cell? (((⟨b,off,spot⟩:Addr).add (i * 3)).add j)) (f i):=fun i hi=>(hff i hi).1
  have hlen':elems.length=len0:=by omega
  have hlr:((List.range len0).map f).length=len0:=by simp
  refine ⟨(List.range len0).map f,hlr,⟨some ⟨b,off,spot⟩,cap0,by rw [hlr],by rw [hlr];exact hl,by unfold maxLen at hm;exact hm,fun hn=>?_⟩,⟨fun e he=>?_,?_⟩,?_⟩
  ·have hpos:0 < len0:=by rw [← hlr];exact List.length_pos_iff.2 hn
   have hs:spot=none:=by simpa [Addr.add] using World.cell?_spot (hf' 0 hpos).c0
   subst hs
   refine ⟨b,off,rfl,World.block_lt_of_cell? W _ (by simpa [Addr.add] using (hf' 0 hpos).c0),fun i e hie=>?_⟩
   have hi:i < len0:=by have:=(List.getElem?_eq_some_iff.1 hie).1;rwa [hlr] at this
   have e1:e=f i:=by rw [List.getElem?_map,List.getElem?_range hi] at hie;simpa using hie.symm
   subst e1
   have:=hf' i hi
   simp only [Addr.add_lit] at this
   exact ⟨this.c0,this.c1,this.c2⟩
  ·rw [List.mem_map] at he
   obtain ⟨i,hi,rfl⟩:=he
   exact (hf' i (List.mem_range.1 hi)).hz
  ·have:=bulk_len hw
   rw [List.length_map] at this
   rw [hlr]
   omega
  ·have:=puts_bulk (elems.map Prod.fst) f (fun i hi=>by
    have hi':i < elems.length:=by simpa using hi
    have:=(hff i (by omega)).2 hi'
    simpa using this)
   rw [List.length_map,hlen'] at this
   refine Nat.le_trans this ?_
   have e:(fun (q:DataW H × List MemPlace)=>q.1)=Prod.fst:=rfl
   simp only [Rows.uptoBulk,e]
   omega
set_option maxRecDepth 100000 in
theorem edl_ofP {H:Type} {enc:TypeId × Value→H} {W:World} {a0:Option Addr} {len0 cap0:Nat} {d:DataW H} {p:List MemPlace}
  (h:DataW.Trod enc Tryz.prog W 0 (fun _=>true) true 53 (.slice a0 len0 cap0) d p) (hw:Rows.uptoBulk d≤1048576) :
  ∃ ess,P.EdL W (.slice a0 len0 cap0) ess∧∀ es ∈ ess,(P.puts es).length≤1048576:=by
 obtain ⟨fuel,hf⟩:=h
 rcases DataW.trod_slice Tryz.underlying53 hf with ⟨hcs,_⟩ | ⟨x,l,c,elems,rest,n,_,hcs,hx,hb,hl,hm,hlen,hel,_,_⟩
 ·simp [Value.cells] at hcs
  obtain ⟨rfl,rfl,rfl⟩:=hcs
  exact ⟨[],⟨none,0,rfl,Nat.le_refl _,by omega,fun i es h=>by simp at h⟩,fun es h=>by cases h⟩
 ·simp [Value.cells] at hcs
  obtain ⟨rfl,rfl,rfl⟩:=hcs
  rw [cEs] at hel
  obtain ⟨rfl,_⟩:=Prod.mk.inj hx
  obtain ⟨b,off,spot⟩:=x
  have each:∀ i,∃ es:List P.Ed,i < len0→∃ ea ec,W.cell? ((⟨b,off,spot⟩:Addr).add (i * 1))=some (.slice ea es.length ec)∧P.EdR W (.slice ea es.length ec) es∧P.Bnd es∧(P.puts es).length≤1048576:=by
   intro i
   by_cases hi:i < len0
   ·have hi':i < elems.length:=by omega
    have:=hel i hi
    rw [List.getElem?_eq_getElem hi',Option.bind_eq_some_iff] at this
    obtain ⟨cs,hcs,hy⟩:=this
    have hcl:=(World.cells?_some hcs).2.1
    have hcell:=(World.cells?_some hcs).2.2 0 (by omega)
    match cs,hcl with
    | [c],_ =>
      have hs:∃ ao len cap,c=.slice ao len cap:=by
       rcases DataW.trod_slice Tryz.underlying31 hy with ⟨hcs,_⟩ | ⟨x,l,k,_,_,_,_,hcs,_⟩
       ·exact ⟨none,0,0,by simpa using hcs⟩
       ·exact ⟨some x,l,k,by simpa using hcs⟩
      obtain ⟨ao,len,cap,rfl⟩:=hs
      have hwi:Rows.uptoBulk elems[i].1≤1048576:=Nat.le_trans (bulk_in (List.mem_map.2 ⟨elems[i],List.getElem_mem hi',rfl⟩)) hw
      obtain ⟨es,h1,h2,h3,h4⟩:=eds_ofP (enc:=enc) (d:=elems[i].1) (p:=elems[i].2) ⟨_,by simpa [Value.cells] using hy⟩ hwi
      subst h1
      exact ⟨es,fun _=>⟨ao,cap,by simpa [Addr.add] using hcell,h2,h3,Nat.le_trans h4 hwi⟩⟩
   ·exact ⟨[],fun h=>absurd h hi⟩
  obtain ⟨f,hf'⟩:=Classical.skolem.1 each
  have hlr:((List.range len0).map f).length=len0:=by simp
  refine ⟨(List.range len0).map f,⟨some ⟨b,off,spot⟩,cap0,by rw [hlr],by rw [hlr];exact hl,by unfold maxLen at hm;exact hm,fun i es hie=>?_⟩,fun es he=>?_⟩
  rotate_left 1
  ·obtain ⟨i,hi,rfl⟩:=List.mem_map.1 he
   obtain ⟨_,_,_,_,_,h5⟩:=hf' i (List.mem_range.1 hi)
   exact h5
  have hi:i < len0:=by have:=(List.getElem?_eq_some_iff.1 hie).1;rwa [hlr] at this
  have e1:es=f i:=by rw [List.getElem?_map,List.getElem?_range hi] at hie;simpa using hie.symm
  subst e1
  obtain ⟨ea,ec,h1,h2,h3,_⟩:=hf' i hi
  obtain ⟨_,_,h0,_⟩:=hf' 0 (by omega)
  have hs:spot=none:=by simpa [Addr.add] using World.cell?_spot h0
  subst hs
  rw [Addr.add_lit,Nat.mul_one] at h1
  exact ⟨b,off,ea,ec,rfl,World.block_lt_of_cell? W _ h1,h1,h2,h3⟩
end Go.Proofs.YtdkpkncolpapoaaGreat
