import Derived.Test.YtdkpkncolpapoaaGreatJ00
import Derived.Test.YtdkpkncolpapoaaGreatJ26
namespace Go.Proofs.YtdkpkncolpapoaaGreat.P
open Go.RowKit
def nw (l:List Int):List (Int × Int):=l.map fun a=>(a,-1)
theorem nw_len (l:List Int):(nw l).length=l.length:=by simp [nw]
theorem nw_fst (l:List Int):(nw l).map Prod.fst=l:=by simp [nw,List.map_map,Function.comp_def]
def ins (l:List Int) (q:Nat) (x:Int):List Int:=l.take q ++ (x :: l.drop q)
theorem ins_len (l:List Int) (q:Nat) (x:Int) (h:q≤l.length):(ins l q x).length=l.length + 1:=by simp [ins];omega
theorem ml_ap (l:List Int) (q:Nat) (x:Int):apE (nw l) 0 [((q:Int),(q:Int),[x])]=nw (ins l q x):=by
 simp [apE,nw,ins,List.map_take,List.map_drop]
theorem ml_ch (enc:Int) (l:List Int) (q:Nat) (x:Int) (hq:q≤l.length) (hl:l.length≤8000) (hx:Cx.fits enc x=true):chA enc 65536 (nw l) [((q:Int),(q:Int),[x])]=0∧chT enc 65536 (nw l) [((q:Int),(q:Int),[x])]=nw (ins l q x):=by
 have hp:puts [((q:Int),(q:Int),[x])]=[x]:=by simp [puts]
 have hck:ckA enc 65536 (nw l).length [((q:Int),(q:Int),[x])]=0:=by
  unfold ckA
  rw [if_neg (by simp),if_pos (by rw [rg_cons];exact ⟨⟨Int.natCast_nonneg _,Int.le_refl _,by rw [nw_len];show (q:Int)≤_;omega⟩,rfl⟩)]
  unfold cpA
  rw [hp,if_pos (by intro a ha;simp at ha;subst ha;exact hx),if_neg (by have:=ln_le enc [x];simp at this;omega)]
 have hA:chA enc 65536 (nw l) [((q:Int),(q:Int),[x])]=0:=by
  unfold chA
  rw [if_pos hck,ml_ap,nw_fst,if_neg (by have:=ln_le enc (ins l q x);rw [ins_len l q x hq] at this;omega)]
 exact ⟨hA,by unfold chT;rw [if_pos hA,ml_ap]⟩
structure MlI (enc:Int) (t:Nat) (w:World) (lv:Value) (l:List Int) (wr:World):Prop where
 tx:∃ ps,Tx enc 65536 [] wr t ps∧sh enc ps=nw l
 own:OwnI wr w.heap.size lv l
 nil:l=[]→lv=.slice none 0 0
 fit:∀ a ∈ l,Cx.fits enc a=true
 bel:Below w.heap.size w wr
 tl:w.heap.size≤t
theorem MlI.ext {enc:Int} {t:Nat} {w:World} {lv:Value} {l:List Int} {wr w':World} (h:MlI enc t w lv l wr) (hb:Below wr.heap.size wr w'):MlI enc t w lv l w':=by
 obtain ⟨ps,h1,h2⟩:=h.tx
 exact ⟨⟨ps,h1.ext hb,h2⟩,h.own.ext hb,h.nil,h.fit,ext_trans h.bel hb,h.tl⟩
theorem OwnI.kpt {w w':World} {base t:Nat} {v:Value} {zs:List Int} (h:OwnI w base v zs) (hk:Kps (fun k=>k=t) w w') (ht:Typ 116 w t):OwnI w' base v zs:=by
 obtain ⟨h1,h2⟩:=id h
 refine ⟨h1,?_⟩
 rcases h2 with h2 | ⟨k,cap,cur,hv,hb,hgg,r⟩
 ·exact .inl h2
 ·refine .inr ⟨k,cap,cur,hv,hb,(hk.same k (Array.getElem?_eq_some_iff.1 hgg).1 (fun e=>?_)).trans hgg,r⟩
  subst e
  exact absurd (Typ.uniq (T:=3) ⟨_,hgg⟩ ht) (by decide)
theorem Tx.typ {enc lim:Int} {L:List Int} {w:World} {t:Nat} {ps:List PG} (h:Tx enc lim L w t ps):Typ 116 w t:=by
 obtain ⟨_,_,h1,_⟩:=h.ex
 exact ⟨_,h1⟩
section
variable {P:Program} {W:World} {ops:Array Oper} {rest:List Oper} {o:Oper} {a:Act} {Q:Exit→Act→World→Prop}
theorem wpl_ints (hgd:o.guard=none) (s x:Operand) (t:TypeId) (ho:o.op=.call { callee:=.builtin .append,args:=#[s,x],argTypes:=#[t,t] })
  (base:Nat) (hinf:(P.info? 3).map (fun i=>(i.zero,i.size,i.bytes))=some (some (.int .i64 0),1,8)) (ht:P.underlying t=some (.slice 3))
  (v:Value) (zs:List Int) (hs:a.eval s=v) (hown:OwnI W base v zs) (ys:List Int) (ao:Option Addr) (m c:Nat) (hx:a.eval x=.slice ao m c) (hm:m=ys.length)
  (hys:(ao=none∧c=0∧ys=[])∨∃ ad,ao=some ad∧∀ j u,(ys.map (Value.int .i64))[j]?=some u→W.cell? (ad.add j)=some u) (hl:zs.length + ys.length≤1099511627776) (hbase:base≤W.heap.size)
  (h:∀ v' w',OwnI w' base v' (zs ++ ys)→Below base W w'→wpList P ops Q rest (a.put o.dst v') w'):wpList P ops Q (o :: rest) a W:=by
 obtain ⟨i0,hi,hz0,hz1,hz2⟩:=info_parts hinf
 subst hm
 rcases hys with ⟨rfl,rfl,rfl⟩ | ⟨ad,rfl,hc⟩
 ·refine wpList_append_own_none hgd s x t ho base 3 i0 1 ht hi v zs.length (zs.map (Value.int .i64)) hs hown hx ?_
  exact h v W (by rw [List.append_nil];exact hown) (Below.refl _ _)
 ·refine wpList_append_own W hgd s x t ho base 3 i0 (.int .i64 0) 1 8 ht hi hz0 hz1 hz2 rfl (by decide) v zs.length (zs.map (Value.int .i64)) hs hown ad ys.length c (ys.map (Value.int .i64)) hx (by simp) hc (fun u hu=>by rw [List.mem_map] at hu;obtain ⟨_,_,rfl⟩:=hu;rfl) (by unfold maxLen;omega) (by omega) hbase ?_
  intro v' w' h1 h2 _
  refine h v' w' ?_ ((Below.refl _ _).grown h2 hbase (fun k hk=>(World.ownsRow.lt hown k hk).1))
  unfold OwnI
  rw [List.length_append,List.map_append]
  exact h1
end
theorem Addr.add_zero_add (g q j:Nat):((⟨g,0,none⟩:Addr).add (q + j))=(⟨g,q,none⟩:Addr).add j:=by
 unfold Addr.add
 split <;> split <;> simp <;> omega
theorem OwnI.row {w:World} {base:Nat} {v:Value} {zs:List Int} (h:OwnI w base v zs) (hn:zs≠[]):∃ g cap,v=.slice (some ⟨g,0,none⟩) zs.length cap∧g < w.heap.size∧zs.length≤cap∧cap≤9223372036854775807∧∀ j u,(zs.map (Value.int .i64))[j]?=some u→w.cell? ((⟨g,0,none⟩:Addr).add j)=some u:=by
 rcases h.2 with ⟨_,h2⟩ | ⟨g,cap,cur,hv,hb,hg,h3,h4,h5,h6⟩
 ·exact absurd (List.length_eq_zero_iff.1 h2) hn
 ·exact ⟨g,cap,hv,(Array.getElem?_eq_some_iff.1 hg).1,h3,by unfold maxLen at h4;exact h4,World.ownsRow.cells h (by rw [hv];simp [Value.ownBlock])⟩
set_option maxRecDepth 100000 in
set_option maxHeartbeats 2000000 in
theorem Fits_any (enc a:Int) (w:World):Calls Tryz.prog 18 #[.int .i64 enc,.int .i64 a] w fun e w'=>e=.returned (.bool (Cx.fits enc a))∧Below w.heap.size w w':=by
 have SZ:=hidIt (Go.Proofs.YtdkpkncolpapoaaGreat.Size_any enc a w)
 cases hf:Cx.fits enc a with
 | true =>
   have hs:0 < Cx.size enc a:=by rw [size_fit enc a hf];have:=(Cx.put_len enc a).1;omega
   go_enter Tryz.func18,Tryz.ntmps18
   go_wp2_with (go_at_call 53;refine SZ.out.mono ?_;rintro e w1 ⟨rfl,hb1⟩;have HB1:=hidIt hb1;clear hb1;(try dsimp only))
   go_ret
   exact ⟨rfl,HB1.out⟩
 | false =>
   have hs:¬ 0 < Cx.size enc a:=by unfold Cx.size;rw [hf];simp
   go_enter Tryz.func18,Tryz.ntmps18
   go_wp2_with (go_at_call 53;refine SZ.out.mono ?_;rintro e w1 ⟨rfl,hb1⟩;have HB1:=hidIt hb1;clear hb1;(try dsimp only))
   go_ret
   exact ⟨rfl,HB1.out⟩
set_option maxRecDepth 100000 in
set_option maxHeartbeats 8000000 in
theorem melts_any (enc:Int) (va vp:Value) (az pz:List Int) (w:World) (hA:Rd .i64 w va az) (hP:Rd .i64 w vp pz):Calls Tryz.prog 3 #[.int .i64 enc,va,vp] w fun e w'=>e=.returned (.bool true)∧Below w.heap.size w w':=by
 have AB:Hid (∀ w',Calls Tryz.prog 16 #[] w' fun e w''=>e=.returned (.bool true)∧Below w'.heap.size w' w''):=fun w'=>able_any w'
 obtain ⟨aa,ca,rfl,ha1,ha2,ha3⟩:=id hA
 obtain ⟨ap,cp,rfl,hp1,hp2,hp3⟩:=id hP
 have HA:=hidIt hA
 have HP:=hidIt hP
 clear ha3 hp3
 have ha9:az.length≤9223372036854775807:=hA.len
 have hp9:pz.length≤9223372036854775807:=hP.len
 clear hA hP
 by_cases hbad:enc < 1∨4 < enc∨8000 < az.length
 ·by_cases h1:enc < 1
  ·go_enter Tryz.func3,Tryz.ntmps3
   go_wp2_with (go_at_call 16;refine (AB.out w).mono ?_;rintro e w1 ⟨rfl,hb1⟩;have HB1:=hidIt hb1;clear hb1;(try dsimp only))
   go_ret
   exact ⟨rfl,HB1.out⟩
  by_cases h2:4 < enc
  ·go_enter Tryz.func3,Tryz.ntmps3
   go_wp2_with (go_at_call 16;refine (AB.out w).mono ?_;rintro e w1 ⟨rfl,hb1⟩;have HB1:=hidIt hb1;clear hb1;(try dsimp only))
   go_ret
   exact ⟨rfl,HB1.out⟩
  have h3:(8000:Int) < (az.length:Int):=by omega
  clear hbad
  go_enter Tryz.func3,Tryz.ntmps3
  go_wp2_with (go_at_call 16;refine (AB.out w).mono ?_;rintro e w1 ⟨rfl,hb1⟩;have HB1:=hidIt hb1;clear hb1;(try dsimp only))
  go_ret
  exact ⟨rfl,HB1.out⟩
 have h1:¬ enc < 1:=by omega
 have h2:¬ 4 < enc:=by omega
 have h3:¬ (8000:Int) < (az.length:Int):=by omega
 have hal:az.length≤8000:=by omega
 have HEN:Hid (Cx.En enc):=by unfold Hid Cx.En;omega
 have hkn:Cx.known enc=true:=by rcases HEN.out with rfl | rfl | rfl | rfl <;> rfl
 have OP:Hid (∀ w',Calls Tryz.prog 17 #[.int .i64 enc,.slice none 0 0] w' fun e w''=>∃ (t:Nat) (ps:List PG),e=.returned (.pointer (some ⟨t,0,none⟩))∧Hid (Tx enc 65536 [] w'' t ps∧sh enc ps=[]∧w'.heap.size≤t)∧Below w'.heap.size w' w''):=fun w'=>opened_nil enc hkn w'
 clear hbad hkn
 go_enter Tryz.func3,Tryz.ntmps3
 go_upto_block 0 with (first
  | (go_at_call 16;refine (AB.out w).mono ?_;rintro e w1 ⟨rfl,hb1⟩;have HB1:=hidIt hb1;clear hb1;(try dsimp only))
  | (go_at_call 17;refine (OP.out w1).mono ?_;rintro e w2 ⟨t,ps,rfl,hop,hb2⟩;have HOP:=hidIt hop.out;have HB2:=hidIt (ext_trans HB1.out hb2);clear hop hb2;(try dsimp only)))
 have HI0:Hid (MlI enc t w (.slice none 0 0) [] w2):=⟨⟨ps,HOP.out.1,HOP.out.2.1⟩,World.ownsRow_nil _ _ _ _,fun _=>rfl,fun a ha=>(by cases ha),HB2.out,Nat.le_trans HB1.out.size HOP.out.2.2⟩
 clear HOP HB2 HB1 OP AB
 go_wp2_with fail
 go_loopg [8,9] az.length (fun gk lv p wr=>∃ (i:Nat) (l:List Int) (ao:Option Addr) (cap:Nat),i + gk=az.length∧l.length≤i∧p=.int .i64 (i:Nat)∧lv=.slice ao l.length cap∧Hid (MlI enc t w (.slice ao l.length cap) l wr))
 case atStart=>exact ⟨0,[],none,0,by omega,by simp,rfl,rfl,HI0.out⟩
 case round =>
  obtain ⟨i,l,ao,cap,hi,hli,rfl,rfl,HI⟩:=hrel
  by_cases hia:i < az.length
  ·have hia2:(i:Int) < (az.length:Int):=by omega
   obtain ⟨aa',ca',q1,_,_,q5⟩:=HA.out
   simp only [Value.slice.injEq,true_and] at q1
   obtain ⟨rfl,rfl⟩:=q1
   obtain ⟨b,o,rfl,hbl,hcl⟩:=q5 (by intro e;subst e;simp at hia)
   have cxw:=hcl i hia
   obtain ⟨x,hx⟩:∃ x,x=az[i]?.getD 0:=⟨_,rfl⟩
   rw [← hx] at cxw
   have HCX:Hid (∀ w',Below w.heap.size w w'→w'.cell? ⟨b,o + i,none⟩=some (.int .i64 x)):=fun w' hb=>(hb.cell (p:=⟨b,o + i,none⟩) hbl).trans cxw
   have cx:=HCX.out wr HI.out.bel
   clear cxw
   have FT:=hidIt (Fits_any enc x wr)
   clear q5 hcl hx
   cases hf:Cx.fits enc x with
   | false =>
     rw [hf] at FT
     go_wp2_with (go_at_call 18;refine FT.out.mono ?_;clear cx;rintro e w3 ⟨rfl,hb3⟩;have HI3:=hidIt (HI.out.ext hb3);clear hb3;(try dsimp only))
     go_roundg (az.length - (i + 1))
     case rel=>exact ⟨i + 1,l,ao,cap,by omega,by omega,by go_num,rfl,HI3.out⟩
     case measure=>omega
   | true =>
     rw [hf] at FT
     have HF:=hidIt hf
     clear hf
     go_upto_region 14 with (go_at_call 18;refine FT.out.mono ?_;clear cx;rintro e w3 ⟨rfl,hb3⟩;have HI3:=hidIt (HI.out.ext hb3);have HB3:=hidIt hb3;clear hb3;(try dsimp only))
     have HPC:Hid (∀ (p:Int),pz[i]?=some p→∃ b2 o2,ap=some ⟨b2,o2,none⟩∧w3.cell? ⟨b2,o2 + i,none⟩=some (.int .i64 p)):=fun p hp=>by
      obtain ⟨ap',cp',r1,_,_,r5⟩:=HP.out.ext HI3.out.bel
      simp only [Value.slice.injEq] at r1
      obtain ⟨rfl,_,_⟩:=r1
      obtain ⟨b2,o2,rfl,_,hcl2⟩:=r5 (by intro e;subst e;simp at hp)
      have:=hcl2 i (List.getElem?_eq_some_iff.1 hp).1
      rw [hp,Option.getD_some] at this
      exact ⟨b2,o2,rfl,this⟩
     go_cut [68] from 49 to 67 (fun v wF=>∃ c:Bool,v=.bool c∧Hid (c=true→∃ p,pz[i]?=some p∧0≤p∧p < (l.length:Int))∧wF=w3)
     case first =>
      by_cases hip:i < pz.length
      ·have hip2:(i:Int) < (pz.length:Int):=by omega
       obtain ⟨p,hp⟩:∃ p,pz[i]?=some p:=⟨_,List.getElem?_eq_getElem hip⟩
       obtain ⟨b2,o2,rfl,c2⟩:=HPC.out p hp
       have HPP:=hidIt hp
       clear hp
       by_cases hp0:0≤p
       ·by_cases hpl:p < (l.length:Int)
        ·go_wp2_with fail
         go_meet
         case rel=>exact ⟨true,rfl,fun _=>⟨p,HPP.out,hp0,hpl⟩,rfl⟩
        ·go_wp2_with fail
         go_meet
         case rel=>exact ⟨false,rfl,(fun e=>by cases e),rfl⟩
       ·go_wp2_with fail
        go_meet
        case rel=>exact ⟨false,rfl,(fun e=>by cases e),rfl⟩
      ·have hip2:¬ (i:Int) < (pz.length:Int):=by omega
       go_wp2_with fail
       go_meet
       case rel=>exact ⟨false,rfl,(fun e=>by cases e),rfl⟩
     obtain ⟨c,rfl,HCQ,hwc⟩:=hcut
     obtain rfl:w3=wc:=hwc.symm
     clear hwc
     go_upto_if 68 with fail
     go_cut [10] from 69 to 72 (fun v wF=>∃ q:Nat,v=.int .i64 (q:Nat)∧q≤l.length∧wF=w3)
     case first =>
      cases c with
      | true =>
        obtain ⟨p,hp,hp0,hpl⟩:=HCQ.out rfl
        have hip2:(i:Int) < (pz.length:Int):=by have:=(List.getElem?_eq_some_iff.1 hp).1;omega
        obtain ⟨b2,o2,rfl,c2⟩:=HPC.out p hp
        obtain ⟨q,rfl⟩:∃ q:Nat,p=q:=⟨p.toNat,by omega⟩
        clear hp HCQ
        go_wp2_with fail
        go_meet
        case rel=>exact ⟨q,rfl,by omega,rfl⟩
      | false =>
        clear HCQ
        go_wp2_with fail
        go_meet
        case rel=>exact ⟨l.length,rfl,Nat.le_refl _,rfl⟩
     obtain ⟨q,rfl,hql,hwc⟩:=hcut
     obtain rfl:w3=wc:=hwc.symm
     clear hwc HPC HCQ
     have cx:=HCX.out w3 HI3.out.bel
     obtain ⟨W5,hW5⟩:∃ W5,W5=(w3.alloc (.cells #[.int .i64 x] 3)).alloc (.cells #[.int .i64 (q:Nat),.int .i64 (q:Nat),.slice (some ⟨w3.heap.size,0,none⟩) 1 1] 30):=⟨_,rfl⟩
     have hb5:Below w3.heap.size w3 W5:=by rw [hW5];exact ext_alloc (ext_alloc (Below.refl _ _) _) _
     have HI5:=hidIt (HI3.out.ext hb5)
     have CH:Hid (Calls Tryz.prog 19 #[.pointer (some ⟨t,0,none⟩),.slice (some ⟨w3.heap.size + 1,0,none⟩) 1 1] W5 fun e w'=>e=.returned (.int .i64 0)∧Hid (∃ ps',Tx enc 65536 [] w' t ps'∧sh enc ps'=nw (ins l q x)∧Kps (fun k=>k=t) W5 w')):=by
      unfold Hid
      obtain ⟨ps1,k1,k2⟩:=HI5.out.tx
      have he:=edr_lit1 (w3.alloc (.cells #[.int .i64 x] 3)) (q:Nat) (q:Nat) (.slice (some ⟨w3.heap.size,0,none⟩) 1 1) [x] (rdi_lit1 w3 x)
      rw [World.size_alloc,← hW5] at he
      refine (Change_any enc 65536 [] W5 t ps1 _ [((q:Int),(q:Int),[x])] k1 he (fun _=>by simp [puts])).mono ?_
      rintro e w' ⟨rfl,ps',e1,e2,e3⟩
      obtain ⟨c1,c2⟩:=ml_ch enc l q x hql (by omega) HF.out
      rw [k2] at e2 ⊢
      exact ⟨by rw [c1],ps',e1,by rw [e2,c2],e3⟩
     have HB5:=hidIt (ext_trans HB3.out hb5)
     clear hb5
     go_upto_region 18 with (first
      | (go_at_call 19;rw [← hW5];refine CH.out.mono ?_;clear cx;rintro e w6 ⟨rfl,hc⟩;have HX:=hidIt hc.out;clear hc;(try dsimp only)))
     obtain ⟨ps6,t6,s6,k6⟩:=HX.out
     have HO6:=hidIt (HI5.out.own.kpt k6 (by obtain ⟨p5,t5,_⟩:=HI5.out.tx;exact t5.typ))
     have HB6:Hid (Below w.heap.size w w6):=HI5.out.bel.trans (k6.below HI5.out.bel.size (fun k hk=>by rw [hk];exact HI5.out.tl))
     have HT6:=hidIt (And.intro t6 s6)
     have HFI:Hid (∀ y ∈ ins l q x,Cx.fits enc y=true):=fun y hy=>by
      unfold ins at hy
      rcases List.mem_append.1 hy with h | h
      ·exact HI5.out.fit y (List.mem_of_mem_take h)
      ·rcases List.mem_cons.1 h with rfl | h
       ·exact HF.out
       ·exact HI5.out.fit y (List.mem_of_mem_drop h)
     have HFIN:Hid (∀ w9 v9,OwnI w9 w6.heap.size v9 (l.take q ++ [x] ++ l.drop q)→Below w6.heap.size w6 w9→MlI enc t w v9 (ins l q x) w9):=fun w9 v9 ho hb=>by
      have e:l.take q ++ [x] ++ l.drop q=ins l q x:=by unfold ins;simp
      rw [e] at ho
      exact ⟨⟨ps6,HT6.out.1.ext hb,HT6.out.2⟩,ho.mono HB6.out.size,fun e=>by have:=congrArg List.length e;rw [ins_len l q x hql] at this;simp at this,HFI.out,ext_trans HB6.out hb,HI5.out.tl⟩
     have hll:l.length≤8000:=by omega
     have NIL:Hid (OwnI w6 w6.heap.size (.slice none 0 0) []):=World.ownsRow_nil _ _ _ _
     have HIL:=hidIt (ins_len l q x hql)
     have HNL:=hidIt HI.out.nil
     clear t6 s6 k6 HX CH HI5 HI3 HI FT hW5
     by_cases hln:l=[]
     ·subst hln
      have e1:=HNL.out rfl
      simp only [Value.slice.injEq,List.length_nil,true_and] at e1
      obtain ⟨rfl,rfl⟩:=e1
      obtain rfl:q=0:=by simpa using hql
      have cx6:=HCX.out w6 HB6.out
      go_upto_region 19 with (at_builtin;refine wpl_ints rfl _ _ 22 rfl w6.heap.size Tryz.info_i64 Tryz.underlying22 (.slice none 0 0) [] rfl NIL.out [] none 0 0 rfl rfl (.inl ⟨rfl,rfl,rfl⟩) (by decide) (Nat.le_refl _) ?_;intro v7 w7 ho7 hb7;rw [List.nil_append] at ho7;obtain ⟨a7,c7,hv7⟩:=ho7.form;rw [List.length_nil] at hv7;subst hv7;have HO7:=hidIt ho7;have HB7:=hidIt hb7;clear ho7 hb7 cx6)
      have cx7:=HCX.out w7 (ext_trans HB6.out HB7.out)
      have HO7a:Hid (OwnI (w7.alloc (.cells #[.int .i64 x] 3)) w6.heap.size (.slice a7 0 c7) []):=HO7.out.ext (ext_alloc (Below.refl _ _) _)
      have HNW:Hid (∀ j u,([x].map (Value.int .i64))[j]?=some u→(w7.alloc (.cells #[.int .i64 x] 3)).cell? ((⟨w7.heap.size,0,none⟩:Addr).add j)=some u):=fun j u hj=>by
       cases j with
       | zero =>
         simp only [List.map_cons,List.getElem?_cons_zero,Option.some.injEq] at hj
         subst hj
         rw [show ((⟨w7.heap.size,0,none⟩:Addr).add 0)=⟨w7.heap.size,0,none⟩ from rfl,cell_of_row _ _ _ _ _ _ (heap_alloc_new _ _)]
         rfl
       | succ j=>simp at hj
      have HZ7:=hidIt (show w6.heap.size≤(w7.alloc (.cells #[.int .i64 x] 3)).heap.size from Nat.le_trans HB7.out.size (size_alloc_le _ _))
      go_upto_region 20 with (at_builtin;refine wpl_ints rfl _ _ 22 rfl w6.heap.size Tryz.info_i64 Tryz.underlying22 _ [] rfl HO7a.out [x] (some ⟨w7.heap.size,0,none⟩) 1 1 rfl rfl (.inr ⟨_,rfl,HNW.out⟩) (by simp) HZ7.out ?_;intro v8 w8 ho8 hb8;rw [List.nil_append] at ho8;obtain ⟨a8,c8,hv8⟩:=ho8.form;rw [show [x].length=1 from rfl] at hv8;subst hv8;have HO8:=hidIt ho8;have HB8:=hidIt (HB7.out.trans ((ext_alloc (Below.refl w7.heap.size w7) _).mono HB7.out.size |>.trans hb8));clear ho8 hb8 cx7)
      go_wp2_with (at_builtin;refine wpl_ints rfl _ _ 22 rfl w6.heap.size Tryz.info_i64 Tryz.underlying22 _ [x] rfl HO8.out [] none 0 0 rfl rfl (.inl ⟨rfl,rfl,rfl⟩) (by simp) HB8.out.size ?_;intro v9 w9 ho9 hb9;obtain ⟨a9,c9,hv9⟩:=ho9.form;rw [show ([x] ++ ([]:List Int)).length=1 from rfl] at hv9;subst hv9;have HO9:=hidIt ho9;have HB9:=hidIt (HB8.out.trans hb9);clear ho9 hb9)
      go_roundg (az.length - (i + 1))
      case rel=>exact ⟨i + 1,ins [] 0 x,a9,c9,by omega,by rw [HIL.out];simp,by go_num,rfl,HFIN.out w9 _ HO9.out HB9.out⟩
      case measure=>omega
     ·obtain ⟨g,cap',e1,hgl,hc1,hc2,hcells⟩:=HO6.out.row hln
      simp only [Value.slice.injEq,true_and] at e1
      obtain ⟨rfl,rfl⟩:=e1
      have HCL:Hid (∀ w',Below w6.heap.size w6 w'→∀ j u,(l.map (Value.int .i64))[j]?=some u→w'.cell? ((⟨g,0,none⟩:Addr).add j)=some u):=fun w' hb j u hj=>(hb.cell (p:=(⟨g,0,none⟩:Addr).add j) (by unfold Addr.add;split <;> exact hgl)).trans (hcells j u hj)
      have hqc:q≤cap:=by omega
      have hlp:0 < l.length:=List.length_pos_iff.2 hln
      have hcap0:¬ cap=0:=by omega
      have hcap1:¬ 0=cap:=by omega
      have hqc2:(q:Int)≤(cap:Int):=by omega
      have hq0:(0:Int)≤(q:Int):=by omega
      have cx6:=HCX.out w6 HB6.out
      clear hcells
      have HTK:Hid (∀ j u,((l.take q).map (Value.int .i64))[j]?=some u→w6.cell? ((⟨g,0,none⟩:Addr).add j)=some u):=fun j u hj=>HCL.out w6 (Below.refl _ _) j u (by
       rw [List.getElem?_map] at hj ⊢
       by_cases hjq:j < q
       ·rwa [List.getElem?_take_of_lt hjq] at hj
       ·rw [List.getElem?_eq_none (by rw [List.length_take];omega)] at hj;cases hj)
      have HLK:=hidIt (show q=(l.take q).length by rw [List.length_take];omega)
      have HLK2:=hidIt (show ([]:List Int).length + (l.take q).length≤1099511627776 by rw [List.length_take,List.length_nil];omega)
      go_upto_region 19 with (at_builtin;refine wpl_ints rfl _ _ 22 rfl w6.heap.size Tryz.info_i64 Tryz.underlying22 (.slice none 0 0) [] rfl NIL.out (l.take q) (some ⟨g,0,none⟩) q cap rfl HLK.out (.inr ⟨_,rfl,HTK.out⟩) HLK2.out (Nat.le_refl _) ?_;intro v7 w7 ho7 hb7;rw [List.nil_append] at ho7;obtain ⟨a7,c7,hv7⟩:=ho7.form;rw [← HLK.out] at hv7;subst hv7;have HO7:=hidIt ho7;have HB7:=hidIt hb7;clear ho7 hb7 cx6)
      have cx7:=HCX.out w7 (ext_trans HB6.out HB7.out)
      have HO7a:Hid (OwnI (w7.alloc (.cells #[.int .i64 x] 3)) w6.heap.size (.slice a7 q c7) (l.take q)):=HO7.out.ext (ext_alloc (Below.refl _ _) _)
      have HNW:Hid (∀ j u,([x].map (Value.int .i64))[j]?=some u→(w7.alloc (.cells #[.int .i64 x] 3)).cell? ((⟨w7.heap.size,0,none⟩:Addr).add j)=some u):=fun j u hj=>by
       cases j with
       | zero =>
         simp only [List.map_cons,List.getElem?_cons_zero,Option.some.injEq] at hj
         subst hj
         rw [show ((⟨w7.heap.size,0,none⟩:Addr).add 0)=⟨w7.heap.size,0,none⟩ from rfl,cell_of_row _ _ _ _ _ _ (heap_alloc_new _ _)]
         rfl
       | succ j=>simp at hj
      have HLN:=hidIt (show (l.take q).length + [x].length≤1099511627776 by rw [List.length_take];simp;omega)
      have HLK8:=hidIt (show (l.take q ++ [x]).length=q + 1 by rw [List.length_append,← HLK.out];rfl)
      have HZ7:=hidIt (show w6.heap.size≤(w7.alloc (.cells #[.int .i64 x] 3)).heap.size from Nat.le_trans HB7.out.size (size_alloc_le _ _))
      go_upto_region 20 with (at_builtin;refine wpl_ints rfl _ _ 22 rfl w6.heap.size Tryz.info_i64 Tryz.underlying22 _ (l.take q) rfl HO7a.out [x] (some ⟨w7.heap.size,0,none⟩) 1 1 rfl rfl (.inr ⟨_,rfl,HNW.out⟩) HLN.out HZ7.out ?_;intro v8 w8 ho8 hb8;obtain ⟨a8,c8,hv8⟩:=ho8.form;rw [HLK8.out] at hv8;subst hv8;have HO8:=hidIt ho8;have HB8:=hidIt (HB7.out.trans ((ext_alloc (Below.refl w7.heap.size w7) _).mono HB7.out.size |>.trans hb8));clear ho8 hb8 cx7)
      have HDR:Hid (∀ (ad:Addr),(q < l.length→ad=⟨g,q,none⟩)→∀ j u,((l.drop q).map (Value.int .i64))[j]?=some u→w8.cell? (ad.add j)=some u):=fun ad had j u hj=>by
       have hjl:j < (l.drop q).length:=by have:=(List.getElem?_eq_some_iff.1 hj).1;rwa [List.length_map] at this
       rw [List.length_drop] at hjl
       rw [had (by omega),← Addr.add_zero_add g q j]
       refine HCL.out w8 HB8.out (q + j) u ?_
       rw [List.getElem?_map] at hj ⊢
       rwa [List.getElem?_drop] at hj
      have HLD:=hidIt (show l.length - q=(l.drop q).length by rw [List.length_drop])
      have HLD2:=hidIt (show (l.take q ++ [x]).length + (l.drop q).length≤1099511627776 by rw [HLK8.out,List.length_drop];omega)
      have HL9:=hidIt (show (l.take q ++ [x] ++ l.drop q).length=l.length + 1 by rw [List.length_append,HLK8.out,List.length_drop];omega)
      by_cases hcq:cap=q
      ·subst hcq
       have hq1:cap≤l.length:=by omega
       have HLD0:=hidIt (show 0=(l.drop cap).length by rw [List.length_drop];omega)
       go_wp2_with (at_builtin;refine wpl_ints rfl _ _ 22 rfl w6.heap.size Tryz.info_i64 Tryz.underlying22 _ (l.take cap ++ [x]) rfl HO8.out (l.drop cap) (some ⟨g,0,none⟩) 0 0 rfl HLD0.out (.inr ⟨_,rfl,HDR.out _ (fun h=>absurd h (by omega))⟩) HLD2.out HB8.out.size ?_;intro v9 w9 ho9 hb9;obtain ⟨a9,c9,hv9⟩:=ho9.form;rw [HL9.out] at hv9;subst hv9;have HO9:=hidIt ho9;have HB9:=hidIt (HB8.out.trans hb9);clear ho9 hb9)
       go_roundg (az.length - (i + 1))
       case rel=>exact ⟨i + 1,ins l cap x,a9,c9,by omega,by rw [HIL.out];omega,by go_num,by rw [HIL.out],by rw [HIL.out];exact HFIN.out w9 _ HO9.out HB9.out⟩
       case measure=>omega
      ·have hcq':¬ q=cap:=fun e=>hcq e.symm
       go_wp2_with (at_builtin;refine wpl_ints rfl _ _ 22 rfl w6.heap.size Tryz.info_i64 Tryz.underlying22 _ (l.take q ++ [x]) rfl HO8.out (l.drop q) (some ⟨g,q,none⟩) (l.length - q) (cap - q) rfl HLD.out (.inr ⟨⟨g,q,none⟩,rfl,HDR.out ⟨g,q,none⟩ (fun _=>rfl)⟩) HLD2.out HB8.out.size ?_;intro v9 w9 ho9 hb9;obtain ⟨a9,c9,hv9⟩:=ho9.form;rw [HL9.out] at hv9;subst hv9;have HO9:=hidIt ho9;have HB9:=hidIt (HB8.out.trans hb9);clear ho9 hb9)
       go_roundg (az.length - (i + 1))
       case rel=>exact ⟨i + 1,ins l q x,a9,c9,by omega,by rw [HIL.out];omega,by go_num,by rw [HIL.out],by rw [HIL.out];exact HFIN.out w9 _ HO9.out HB9.out⟩
       case measure=>omega
  ·have hia2:¬ (i:Int) < (az.length:Int):=by omega
   obtain ⟨ps,htx,hsh⟩:=HI.out.tx
   have HTX:=hidIt htx
   have HSH:=hidIt hsh
   have eA:asOf ps=l:=by rw [← sh_fst enc ps,hsh,nw_fst]
   have EN:=hidIt (encode_fit enc HEN.out (.slice ao l.length cap) l wr HI.out.own.rd HI.out.fit (by omega))
   have HEA:=hidIt eA
   clear hsh htx eA
   have hel:(Cx.encB enc l).length≤65536:=by have:=ln_le enc l;show ln enc l≤_;omega
   obtain ⟨N,hN⟩:∃ N,N=(Cx.encB enc l).length:=⟨_,rfl⟩
   have HN:=hidIt hN
   have hNl:N≤65536:=by rw [hN];exact hel
   have hll:l.length≤8000:=by omega
   clear hN hel
   have SE:Hid (∀ w4,Below wr.heap.size wr w4→Calls Tryz.prog 21 #[.pointer (some ⟨t,0,none⟩)] w4 fun e w5=>∃ (sa:Option Addr) (ka:Nat) (st:Option Addr) (kt:Nat) (sb:Option Addr) (kb:Nat),e=.returned (.agg #[.slice sa l.length ka,.slice st l.length kt,.slice sb N kb])∧Hid (Rd .i64 w5 (.slice sa l.length ka) l∧Rd .i64 w5 (.slice st l.length kt) (l.map fun _=>-1)∧Rd .u8 w5 (.slice sb N kb) (Cx.encB enc l))∧Below w4.heap.size w4 w5):=fun w4 hb=>by
    refine (see_any enc 65536 [] w4 t ps (HTX.out.ext hb)).mono ?_
    rintro e w5 ⟨va,vt,vb,rfl,⟨h1,h2,b3,hvb,h3r⟩,hb5⟩
    have h3:Rd .u8 w5 vb (Cx.encB enc (asOf ps)):=by rw [hvb];exact h3r.rd _ (Nat.le_refl _) (by have:=HTX.out.sz;have e:ln enc (asOf ps)=(Cx.encB enc (asOf ps)).length:=rfl;omega)
    clear hvb h3r
    have e2:(sh enc ps).map Prod.snd=l.map fun _=>-1:=by rw [HSH.out];simp [nw,List.map_map,Function.comp_def]
    rw [HEA.out] at h1 h3
    rw [e2] at h2
    obtain ⟨sa,ka,e3⟩:=h1.form
    obtain ⟨st,kt,e4⟩:=h2.form
    obtain ⟨sb,kb,e5,_⟩:=id h3
    rw [List.length_map] at e4
    rw [← HN.out] at e5
    subst e3 e4 e5
    exact ⟨sa,ka,st,kt,sb,kb,rfl,⟨h1.rd,h2.rd,h3⟩,hb5⟩
   have ENC:Hid (Calls Tryz.prog 20 #[.int .i64 enc,.slice ao l.length cap] wr fun e w4=>∃ (ab:Option Addr) (cb:Nat),e=.returned (.tuple #[.slice ab N cb,.int .i64 0,.int .i64 0])∧Hid (Rd .u8 w4 (.slice ab N cb) (Cx.encB enc l))∧Below wr.heap.size wr w4):=by
    refine EN.out.mono ?_
    rintro e w4 ⟨vb,rfl,hob,hb4⟩
    obtain ⟨ab,cb,e5,_⟩:=id (Rd.of_own hob)
    rw [← HN.out] at e5
    subst e5
    exact ⟨ab,cb,rfl,Rd.of_own hob,hb4⟩
   go_upto_region 23 with (first
    | (go_at_call 20;refine ENC.out.mono ?_;rintro e w4 ⟨ab,cb,rfl,HRB,hb4⟩;have SE4:=hidIt (SE.out w4 hb4);have HB4:=hidIt hb4;clear hb4;(try dsimp only))
    | (go_at_call 21;refine SE4.out.mono ?_;rintro e w5 ⟨sa,ka,st,kt,sb,kb,rfl,HRS,hb5⟩;have HB5:=hidIt (ext_trans HB4.out hb5);have HRB5:=hidIt (HRB.out.ext hb5);clear hb5;(try dsimp only)))
   obtain ⟨w6,hw6,k6,hb6⟩:∃ w6,w6=w5.alloc (.cells #[.slice sa l.length ka,.slice st l.length kt,.slice sb N kb] 36)∧w6.heap[w5.heap.size]?=some (.cells #[.slice sa l.length ka,.slice st l.length kt,.slice sb N kb] 36 (0,0))∧Below w5.heap.size w5 w6:=⟨_,rfl,heap_alloc_new _ _,ext_alloc (Below.refl _ _) _⟩
   rw [← hw6]
   clear hw6
   have hk6:=(Array.getElem?_eq_some_iff.1 k6).1
   have HC6:Hid (∀ w',Below w6.heap.size w6 w'→w'.cell? ⟨w5.heap.size,0,none⟩=some (.slice sa l.length ka)∧w'.cell? ⟨w5.heap.size,1,none⟩=some (.slice st l.length kt)∧w'.cell? ⟨w5.heap.size,2,none⟩=some (.slice sb N kb)):=fun w' hb=>by
    have e:=(hb.block _ hk6).trans k6
    refine ⟨?_,?_,?_⟩ <;> (rw [cell_of_row w' _ _ _ _ _ e];rfl)
   have HB6:=hidIt (ext_trans HB5.out hb6)
   have SI:Hid (∀ w',Below w6.heap.size w6 w'→Calls Tryz.prog 22 #[.slice sa l.length ka,.slice ao l.length cap] w' fun e w''=>e=.returned (.bool true)∧Below w'.heap.size w' w''):=fun w' hb=>sameInts_any _ _ l w' (HRS.out.1.ext (ext_trans hb6 hb)) (HI.out.own.rd.ext (ext_trans HB6.out hb))
   have SB:Hid (∀ w',Below w6.heap.size w6 w'→Calls Tryz.prog 23 #[.slice sb N kb,.slice ab N cb] w' fun e w''=>e=.returned (.bool true)∧Below w'.heap.size w' w''):=fun w' hb=>sameBytes_eq _ _ (Cx.encB enc l) w' (HRS.out.2.2.ext (ext_trans hb6 hb)) (HRB5.out.ext (ext_trans hb6 hb))
   have SZ:Hid (∀ w',Below w6.heap.size w6 w'→Calls Tryz.prog 24 #[.pointer (some ⟨t,0,none⟩)] w' fun e w''=>e=.returned (.int .i64 (N:Nat))∧Below w'.heap.size w' w''):=fun w' hb=>by
    have h:=tSize_any enc 65536 [] w' t ps (HTX.out.ext (ext_trans HB6.out hb))
    rw [HEA.out] at h
    rwa [show ln enc l=N from HN.out.symm] at h
   have HRT:=hidIt (HRS.out.2.1.ext hb6)
   clear hb6
   obtain ⟨c0,c1,c2⟩:=HC6.out w6 (Below.refl _ _)
   go_upto_block 2 with (first
    | (go_at_call 22;refine (SI.out w6 (Below.refl _ _)).mono ?_;clear c0 c1 c2;rintro e w7 ⟨rfl,hb7⟩;have HB7:=hidIt hb7;obtain ⟨c0,c1,c2⟩:=HC6.out w7 hb7;clear hb7;(try dsimp only))
    | (go_at_call 23;refine (SB.out w7 HB7.out).mono ?_;clear c0 c1 c2;rintro e w8 ⟨rfl,hb8⟩;have HB8:=hidIt (ext_trans HB7.out hb8);obtain ⟨c0,c1,c2⟩:=HC6.out w8 HB8.out;clear hb8;(try dsimp only))
    | (go_at_call 24;refine (SZ.out w8 HB8.out).mono ?_;clear c0 c1 c2;rintro e w9 ⟨rfl,hb9⟩;have HB9:=hidIt (ext_trans HB8.out hb9);obtain ⟨c0,c1,c2⟩:=HC6.out w9 HB9.out;clear hb9;(try dsimp only)))
   have HRT9:=hidIt (HRT.out.ext HB9.out)
   go_wp2_with fail
   go_loopg [16] l.length (fun gk p wr2=>∃ k:Nat,k + gk=l.length∧p=.int .i64 (k:Nat)∧wr2=w9)
   case atStart=>exact ⟨0,by omega,rfl,rfl⟩
   case round =>
    obtain ⟨k,hk,rfl,hwr⟩:=hrel
    rw [hwr]
    clear hwr
    by_cases hkl:k < l.length
    ·have hkl2:(k:Int) < (l.length:Int):=by omega
     obtain ⟨st',kt',q1,_,_,q5⟩:=HRT9.out
     simp only [Value.slice.injEq,List.length_map,true_and] at q1
     obtain ⟨rfl,rfl⟩:=q1
     obtain ⟨bt,ot,rfl,_,hct⟩:=q5 (by intro e;rw [List.map_eq_nil_iff] at e;subst e;simp at hkl)
     have ct:=hct k (by rw [List.length_map];exact hkl)
     rw [show (l.map fun _=>(-1:Int))[k]?.getD 0=-1 by simp [List.getElem?_map,List.getElem?_eq_getElem hkl]] at ct
     clear q5 hct
     go_wp2_with fail
     go_roundg (l.length - (k + 1))
     case rel=>exact ⟨k + 1,by omega,by go_num,rfl⟩
     case measure=>omega
    ·have hkl2:¬ (k:Int) < (l.length:Int):=by omega
     go_wp2_with fail
     go_ret
     exact ⟨rfl,ext_trans HI.out.bel (ext_trans HB6.out HB9.out)⟩
end Go.Proofs.YtdkpkncolpapoaaGreat.P
