import Derived.Test.YtdkpkncolpapoaaGreatJ00
import Derived.Test.YtdkpkncolpapoaaGreatJ10
import Derived.Test.YtdkpkncolpapoaaGreatJ26
import Derived.Test.YtdkpkncolpapoaaGreatJ28
import Derived.Deep.RegionHeld3
namespace Go.Proofs.YtdkpkncolpapoaaGreat.P
open Go.RowKit
theorem pr_mem (l:List (Int × Int)):∀ (es:List Ed) (p:Nat) (a:Int),a ∈ (prE l p es).map Prod.fst→a ∈ l.map Prod.fst∨a ∈ puts es:=by
 intro es
 induction es with
 | nil=>intro p a h;simp [prE] at h
 | cons e es ih =>
   intro p a h
   have e1:puts (e :: es)=e.2.2 ++ puts es:=by simp [puts]
   rw [prE,List.map_append,List.map_append] at h
   rw [e1]
   rcases List.mem_append.1 h with h | h
   ·rcases List.mem_append.1 h with h | h
    ·obtain ⟨q,hq,rfl⟩:=List.mem_map.1 h
     exact .inl (List.mem_map_of_mem (List.mem_of_mem_drop (List.mem_of_mem_take hq)))
    ·refine .inr (List.mem_append.2 (.inl ?_))
     simpa [List.map_map,Function.comp_def] using h
   ·rcases ih _ a h with h | h
    ·exact .inl h
    ·exact .inr (List.mem_append.2 (.inr h))
set_option maxRecDepth 100000 in
set_option maxHeartbeats 8000000 in
theorem good_any (enc lim:Int) (he:Cx.En enc) (l:List (Int × Int)) (hfit:∀ x ∈ l,Cx.fits enc x.1=true) (hll:l.length≤65536) (w:World) (base:Nat) (hbase:base≤w.heap.size) (va vt vb ev:Value) (hS:SnO w base va vt vb (l.map Prod.fst) (l.map Prod.snd) (Cx.encB enc (l.map Prod.fst))) (es:List Ed) (hE:EdR w ev es) (h7:es.length≤70000) (hp:(puts es).length≤1048576) :
  Calls Tryz.prog 38 #[.int .i64 enc,.int .i64 lim,.agg #[va,vt,vb],ev] w fun e w'=>GdR base enc lim l es w e w':=by
 obtain ⟨a0,c0,e0⟩:=hS.1.form
 obtain ⟨a1,c1,e1⟩:=hS.2.1.form
 obtain ⟨a2,c2,e2,_⟩:=id hS.2.2
 rw [List.length_map] at e0 e1
 subst e0 e1 e2
 obtain ⟨nb,hnb⟩:∃ nb,nb=(Cx.encB enc (l.map Prod.fst)).length:=⟨_,rfl⟩
 rw [← hnb] at hS ⊢
 have HNB:=hidIt hnb
 clear hnb
 obtain ⟨ao,cap,rfl,hc1,hc2,_⟩:=id hE
 have HSS:=hidIt hS
 have HEE:=hidIt hE
 have HEN:=hidIt he
 have HFI:=hidIt hfit
 obtain ⟨w0,hw0,g0⟩:∃ w0,w0=((w.alloc (.cells #[.slice a0 l.length c0,.slice a1 l.length c1,.slice a2 nb c2] 36)).alloc (.cells #[.slice none 0 0,.slice none 0 0,.slice none 0 0] 36)).alloc (.cells #[.slice none 0 0,.slice none 0 0,.slice none 0 0] 36)∧GI w (.slice a0 l.length c0) (.slice a1 l.length c1) (.slice a2 nb c2) (.slice none 0 0) (.slice none 0 0) [] [] w0:=by
  refine ⟨_,rfl,?_,?_,?_,World.ownsRow_nil _ _ _ _,World.ownsRow_nil _ _ _ _,.inl rfl,ext_alloc (ext_alloc (ext_alloc (Below.refl _ _) _) _) _⟩
  ·exact (Below.heap_alloc _ _ _ (by simp;omega)).trans ((Below.heap_alloc _ _ _ (by simp)).trans (heap_alloc_new _ _))
  ·refine (Below.heap_alloc _ _ _ (by simp)).trans ?_
   have e:w.heap.size + 1=(w.alloc (.cells #[.slice a0 l.length c0,.slice a1 l.length c1,.slice a2 nb c2] 36)).heap.size:=by simp
   rw [e]
   exact heap_alloc_new _ _
  ·have e:w.heap.size + 2=((w.alloc (.cells #[.slice a0 l.length c0,.slice a1 l.length c1,.slice a2 nb c2] 36)).alloc (.cells #[.slice none 0 0,.slice none 0 0,.slice none 0 0] 36)).heap.size:=by simp
   rw [e]
   exact heap_alloc_new _ _
 have HG0:=hidIt g0
 have CV0:=hidIt hS.1.cutv
 have CV1:=hidIt hS.2.1.cutv
 clear hS hE g0 he hfit
 go_enter Tryz.func38,Tryz.ntmps38
 go_upto_region 2 with fail
 rw [← hw0]
 clear hw0
 go_wp2_with fail
 go_loopg [11,12] es.length (fun gk pa pi wr=>∃ (i A:Nat) (na nt:Value),i + gk=es.length∧A≤l.length∧pa=.int .i64 (A:Nat)∧pi=.int .i64 (i:Nat)∧Hid (A=lastT 0 (es.take i)∧rg l.length 0 (es.take i)=true∧∀ a ∈ puts (es.take i),Cx.fits enc a=true)∧Hid (GI w (.slice a0 l.length c0) (.slice a1 l.length c1) (.slice a2 nb c2) na nt ((prE l 0 (es.take i)).map Prod.fst) ((prE l 0 (es.take i)).map Prod.snd) wr))
 case atStart=>exact ⟨0,0,_,_,by omega,by omega,rfl,rfl,⟨rfl,rfl,(fun a ha=>by simp [puts] at ha)⟩,HG0.out⟩
 case round =>
  obtain ⟨i,A,na,nt,hi,hAn,rfl,rfl,HA,HG⟩:=hrel
  have HPL0:Hid ((prE l 0 (es.take i)).length≤1114112):=by
   unfold Hid
   have h1:=pr_len l.length l (es.take i) 0 HA.out.2.1
   have h2:(puts (es.take i)).length≤(puts es).length:=by
    have e:puts es=puts (es.take i) ++ puts (es.drop i):=by
     conv=>lhs;rw [← List.take_append_drop i es]
     simp only [puts,List.flatMap_append]
    rw [e,List.length_append]
    omega
   have:=HA.out.1
   omega
  by_cases hil:i < es.length
  ·have hil2:(i:Int) < (es.length:Int):=by omega
   obtain ⟨⟨ef,et,ep⟩,hej⟩:∃ e,es[i]?=some e:=⟨_,List.getElem?_eq_getElem hil⟩
   obtain ⟨b,o,pa,pc,rfl,hbl,k0w,k1w,k2w,hrdw⟩:=HEE.out.at i _ hej
   simp only at k0w k1w k2w hrdw
   have k0:=(HG.out.bel.cell (p:=⟨b,o + i * 3,none⟩) hbl).trans k0w
   have k1:=(HG.out.bel.cell (p:=⟨b,o + i * 3 + 1,none⟩) hbl).trans k1w
   have k2:=(HG.out.bel.cell (p:=⟨b,o + i * 3 + 2,none⟩) hbl).trans k2w
   have HRD:=hidIt hrdw
   clear k0w k1w k2w hrdw
   have HTK:=hidIt (show es.take (i + 1)=es.take i ++ [(ef,et,ep)] by rw [List.take_add_one,hej];rfl)
   have HBAD:Hid (¬ ((A:Int)≤ef∧ef≤et∧et≤(l.length:Int))→chA enc lim l es≠0):=fun hb hc=>by
    have h1:=((good_ch enc lim l es h7).1 hc).1
    rw [← List.take_append_drop (i + 1) es] at h1
    have h2:=rg_left _ _ h1
    rw [HTK.out] at h2
    have h3:=((rg_snoc _ _ _ 0).1 h2).2
    rw [← HA.out.1] at h3
    exact hb h3
   obtain ⟨wb,hwb,kb,hbb⟩:∃ wb,wb=wr.alloc (.cells #[.int .i64 ef,.int .i64 et,.slice pa ep.length pc] 30)∧wb.heap[wr.heap.size]?=some (.cells #[.int .i64 ef,.int .i64 et,.slice pa ep.length pc] 30 (0,0))∧Below wr.heap.size wr wb:=⟨_,rfl,heap_alloc_new _ _,ext_alloc (Below.refl _ _) _⟩
   go_upto_region 7 with fail
   rw [← hwb]
   have HGB:=hidIt (HG.out.ext hbb)
   have hcE:wb.cell? ⟨wr.heap.size,0,none⟩=some (.int .i64 ef)∧wb.cell? ⟨wr.heap.size,1,none⟩=some (.int .i64 et)∧wb.cell? ⟨wr.heap.size,2,none⟩=some (.slice pa ep.length pc):=by refine ⟨?_,?_,?_⟩ <;> (rw [cell_of_row wb _ _ _ _ _ kb];rfl)
   obtain ⟨x0,x1,x2⟩:=hcE
   have s0:wb.cell? ⟨w.heap.size,0,none⟩=some (.slice a0 l.length c0)∧wb.cell? ⟨w.heap.size,1,none⟩=some (.slice a1 l.length c1)∧wb.cell? ⟨w.heap.size,2,none⟩=some (.slice a2 nb c2):=by refine ⟨?_,?_,?_⟩ <;> (rw [cell_of_row wb _ _ _ _ _ HGB.out.sb];rfl)
   have HXE:=hidIt kb
   clear hwb kb hbb k0 k1 k2
   by_cases hok:(A:Int)≤ef∧ef≤et∧et≤(l.length:Int)
   ·obtain ⟨hk1,hk2,hk3⟩:=hok
    obtain ⟨f,rfl⟩:∃ f:Nat,ef=f:=⟨ef.toNat,by omega⟩
    obtain ⟨T,rfl⟩:∃ T:Nat,et=T:=⟨et.toNat,by omega⟩
    have hAf:A≤f:=by omega
    have hfT:f≤T:=by omega
    have hTl:T≤l.length:=by omega
    have hn1:¬ (f:Int) < (A:Int):=by omega
    have hn2:¬ (T:Int) < (f:Int):=by omega
    have hn3:¬ (l.length:Int) < (T:Int):=by omega
    obtain ⟨bx,hbx⟩:∃ bx,bx=wr.heap.size:=⟨_,rfl⟩
    have HBX:=hidIt (show w.heap.size + 2 < bx by have:=(Array.getElem?_eq_some_iff.1 HG.out.nb).1;omega)
    rw [← hbx] at x0 x1 x2 HXE
    rw [← hbx]
    clear hbx
    go_upto_region 9 with fail
    go_cut [11] from 48 to 57 (fun pv wF=>pv=.int .i64 (A:Nat)∧∃ na9:Value,Hid (GI w (.slice a0 l.length c0) (.slice a1 l.length c1) (.slice a2 nb c2) na9 nt ((prE l 0 (es.take i)).map Prod.fst ++ ((l.map Prod.fst).drop A).take (f - A)) ((prE l 0 (es.take i)).map Prod.snd) wF∧wF.heap[bx]?=some (.cells #[.int .i64 (f:Nat),.int .i64 (T:Nat),.slice pa ep.length pc] 30 (0,0))))
    case first =>
     have HD:=hidIt (HGB.out.ext (Below.refl _ _).drew)
     have sc:wb.cell? ⟨w.heap.size,0,none⟩=some (.slice a0 l.length c0):=by rw [cell_of_row wb _ _ _ _ _ HGB.out.sb];rfl
     have nc:wb.cell? ⟨w.heap.size + 2,0,none⟩=some na:=by rw [cell_of_row wb _ _ _ _ _ HGB.out.nb];rfl
     have xc:wb.cell? ⟨bx,0,none⟩=some (.int .i64 (f:Nat)):=by rw [cell_of_row wb _ _ _ _ _ HXE.out];rfl
     have HPL:Hid (f - A=(((l.map Prod.fst).drop A).take (f - A)).length):=by unfold Hid;rw [List.length_take,List.length_drop,List.length_map];omega
     have HPB:Hid (((prE l 0 (es.take i)).map Prod.fst).length + (((l.map Prod.fst).drop A).take (f - A)).length≤1099511627776):=by unfold Hid;have:=HPL0.out;simp only [List.length_take,List.length_drop,List.length_map];omega
     have HPZ:Hid (w.heap.size≤wb.drew.heap.size):=HD.out.bel.size
     have HFN:Hid (∀ v9 w9,OwnI w9 w.heap.size v9 ((prE l 0 (es.take i)).map Prod.fst ++ ((l.map Prod.fst).drop A).take (f - A))→wb.drew.grownBy w9 (Value.ownBlock na)→(v9.ownBlock=Value.ownBlock na∨v9.ownBlock=some wb.drew.heap.size)→((w9.cell? ⟨w.heap.size,0,none⟩=some (.slice a0 l.length c0)∧w9.cell? ⟨bx,0,none⟩=some (.int .i64 (f:Nat)))∧(w9.cell? ⟨w.heap.size + 2,0,none⟩=some na∧∀ i,w9.frozen? ⟨w.heap.size + 2,i,none⟩=false)∧((w9.setCell ⟨w.heap.size + 2,0,none⟩ v9).cell? ⟨w.heap.size,0,none⟩=some (.slice a0 l.length c0)∧(w9.setCell ⟨w.heap.size + 2,0,none⟩ v9).cell? ⟨bx,0,none⟩=some (.int .i64 (f:Nat))))∧Hid (GI w (.slice a0 l.length c0) (.slice a1 l.length c1) (.slice a2 nb c2) v9 nt ((prE l 0 (es.take i)).map Prod.fst ++ ((l.map Prod.fst).drop A).take (f - A)) ((prE l 0 (es.take i)).map Prod.snd) (w9.setCell ⟨w.heap.size + 2,0,none⟩ v9)∧(w9.setCell ⟨w.heap.size + 2,0,none⟩ v9).heap[bx]?=some (.cells #[.int .i64 (f:Nat),.int .i64 (T:Nat),.slice pa ep.length pc] 30 (0,0)))):=fun v9 w9 ho hg hb=>by
      obtain ⟨t1,t2,t3⟩:=HD.out.stepA (((l.map Prod.fst).drop A).take (f - A)) v9 w9 ho hg hb
      have t4:w9.heap[bx]?=some (.cells #[.int .i64 (f:Nat),.int .i64 (T:Nat),.slice pa ep.length pc] 30 (0,0)):=grown_other (z:=(0,0)) HD.out.oa hg (by decide) (show wb.drew.heap[bx]?=_ from HXE.out)
      have t5:(w9.setCell ⟨w.heap.size + 2,0,none⟩ v9).heap[bx]?=some (.cells #[.int .i64 (f:Nat),.int .i64 (T:Nat),.slice pa ep.length pc] 30 (0,0)):=set_other t4 t2 (by have:=HBX.out;omega) (by simp)
      exact ⟨⟨⟨by rw [cell_of_row w9 _ _ _ _ _ t1];rfl,by rw [cell_of_row w9 _ _ _ _ _ t4];rfl⟩,⟨by rw [cell_of_row w9 _ _ _ _ _ t2];rfl,fun i=>by simp [World.frozen?,t2]⟩,⟨by rw [cell_of_row _ _ _ _ _ _ t3.sb];rfl,by rw [cell_of_row _ _ _ _ _ _ t5];rfl⟩⟩,t3,t5⟩
     rcases CV0.out with ⟨rfl,rfl,hz0⟩ | ⟨ga,rfl,hz1,hz2,hz3⟩
     ·obtain rfl:l=[]:=by simpa using hz0
      simp only [List.length_nil] at *
      obtain rfl:A=0:=by omega
      obtain rfl:f=0:=by omega
      have HPC:Hid (((none:Option Addr)=none∧0=0∧((([]:List (Int × Int)).map Prod.fst).drop 0).take (0 - 0)=[])∨∃ ad,(none:Option Addr)=some ad∧∀ j u,((((([]:List (Int × Int)).map Prod.fst).drop 0).take (0 - 0)).map (Value.int .i64))[j]?=some u→wb.drew.cell? (ad.add j)=some u):=.inl ⟨rfl,rfl,by simp⟩
      refine wp_region_held_drew (S:=fun w''=>w''.cell? ⟨w.heap.size,0,none⟩=some (.slice none 0 0)∧w''.cell? ⟨bx,0,none⟩=some (.int .i64 ((0:Nat):Int))) (by kernel_rfl) (⟨sc,xc⟩) (fun hHeld=>?_)
      refine tkH 0 rfl ?_
      try simp only [Act.put,tS]
      refine tkH 2 rfl ?_
      try simp only [Act.put,tS]
      refine tkH 3 rfl ?_
      try simp only [Act.put,tS]
      refine tkH 4 rfl ?_
      try simp only [Act.put,tS]
      refine tkH 5 rfl ?_
      try simp only [Act.put,tS]
      refine tkH 6 rfl ?_
      try simp only [Act.put,tS]
      refine tkH 7 rfl ?_
      try simp only [Act.put,tS]
      refine rdH 1 rfl fun K hK=>?_
      go_simp
      refine hK.out _ _ ?_ (fun hHeld=>?_)
      ·(try simp only [World.cell?_drew]);exact ⟨sc,xc⟩
      clear hK K
      try simp only [Act.put,tS]
      refine rdH 8 rfl fun K hK=>?_
      rw [if_pos (by rfl)]
      refine wp_append_opt _ _ _ 22 (by rfl) w.heap.size Tryz.info_i64 Tryz.underlying22 na _ (by rfl) HD.out.oa _ (none) (0) (0) (by rfl) HPL.out HPC.out HPB.out HPZ.out ?_;intro v9 w9 ho9 hg9 hb9;obtain ⟨n9,a9,c9,hv9⟩:∃ n9 a9 c9,v9=.slice a9 n9 c9:=(let ⟨a,b,c⟩:=ho9.form;⟨_,a,b,c⟩);subst hv9;have HO9:=hidIt (HFN.out _ w9 ho9 hg9 hb9);obtain ⟨y0,⟨y1,y2⟩,y3⟩:=HO9.out.1;clear ho9 hg9 hb9 sc nc xc
      refine hK.out _ _ ?_ (fun hHeld=>?_)
      ·exact y0
      clear hK K
      try simp only [Act.put,tS]
      refine tkH 9 rfl ?_
      try simp only [Act.put,tS]
      refine rdH 10 rfl fun K hK=>?_
      go_simp
      clear y0 y1 y2
      refine hK.out _ _ ?_ (fun hHeld=>?_)
      ·(try simp only [World.cell?_drew]);exact y3
      clear hK K
      try simp only [Act.put,tS]
      refine wpAnyH_done (by kernel_rfl) ?_ _
      go_wp2_with fail
      go_meet
      case rel=>exact ⟨rfl,_,HO9.out.2⟩
     ·rw [List.length_map] at hz1
      by_cases hcA:c0=A
      ·obtain rfl:A=c0:=hcA.symm
       obtain rfl:A=f:=by omega
       have HPC:Hid (((some ⟨ga,0,none⟩:Option Addr)=none∧0=0∧((l.map Prod.fst).drop A).take (A - A)=[])∨∃ ad,(some ⟨ga,0,none⟩:Option Addr)=some ad∧∀ j u,((((l.map Prod.fst).drop A).take (A - A)).map (Value.int .i64))[j]?=some u→wb.drew.cell? (ad.add j)=some u):=.inr ⟨_,rfl,fun j u hj=>by rw [List.take_of_length_le (by rw [List.length_drop,List.length_map];omega)] at hj;rw [List.drop_eq_nil_of_le (by rw [List.length_map];omega)] at hj;simp at hj⟩
       refine wp_region_held_drew (S:=fun w''=>w''.cell? ⟨w.heap.size,0,none⟩=some (.slice (some ⟨ga,0,none⟩) l.length A)∧w''.cell? ⟨bx,0,none⟩=some (.int .i64 (A:Nat))) (by kernel_rfl) (⟨sc,xc⟩) (fun hHeld=>?_)
       refine tkH 0 rfl ?_
       try simp only [Act.put,tS]
       refine tkH 2 rfl ?_
       try simp only [Act.put,tS]
       refine tkH 3 rfl ?_
       try simp only [Act.put,tS]
       refine tkH 4 rfl ?_
       try simp only [Act.put,tS]
       refine tkH 5 rfl ?_
       try simp only [Act.put,tS]
       refine tkH 6 rfl ?_
       try simp only [Act.put,tS]
       refine tkH 7 rfl ?_
       try simp only [Act.put,tS]
       refine rdH 1 rfl fun K hK=>?_
       go_simp
       refine hK.out _ _ ?_ (fun hHeld=>?_)
       ·(try simp only [World.cell?_drew]);exact ⟨sc,xc⟩
       clear hK K
       try simp only [Act.put,tS]
       refine rdH 8 rfl fun K hK=>?_
       rw [if_pos (by rfl)]
       refine wp_append_opt _ _ _ 22 (by rfl) w.heap.size Tryz.info_i64 Tryz.underlying22 na _ (by rfl) HD.out.oa _ (some ⟨ga,0,none⟩) (0) (0) (by rfl) (by rw [← HPL.out];exact (Nat.sub_self _).symm) HPC.out HPB.out HPZ.out ?_;intro v9 w9 ho9 hg9 hb9;obtain ⟨n9,a9,c9,hv9⟩:∃ n9 a9 c9,v9=.slice a9 n9 c9:=(let ⟨a,b,c⟩:=ho9.form;⟨_,a,b,c⟩);subst hv9;have HO9:=hidIt (HFN.out _ w9 ho9 hg9 hb9);obtain ⟨y0,⟨y1,y2⟩,y3⟩:=HO9.out.1;clear ho9 hg9 hb9 sc nc xc
       refine hK.out _ _ ?_ (fun hHeld=>?_)
       ·exact y0
       clear hK K
       try simp only [Act.put,tS]
       refine tkH 9 rfl ?_
       try simp only [Act.put,tS]
       refine rdH 10 rfl fun K hK=>?_
       go_simp
       clear y0 y1 y2
       refine hK.out _ _ ?_ (fun hHeld=>?_)
       ·(try simp only [World.cell?_drew]);exact y3
       clear hK K
       try simp only [Act.put,tS]
       refine wpAnyH_done (by kernel_rfl) ?_ _
       go_wp2_with fail
       go_meet
       case rel=>exact ⟨rfl,_,HO9.out.2⟩
      ·have hcA':¬ A=c0:=fun e=>hcA e.symm
       have hfc:(f:Int)≤(c0:Int):=by omega
       have hA0:(0:Int)≤(A:Int):=by omega
       have hAf2:(A:Int)≤(f:Int):=by omega
       have HPC:Hid (((some ⟨ga,A,none⟩:Option Addr)=none∧c0 - A=0∧((l.map Prod.fst).drop A).take (f - A)=[])∨∃ ad,(some ⟨ga,A,none⟩:Option Addr)=some ad∧∀ j u,((((l.map Prod.fst).drop A).take (f - A)).map (Value.int .i64))[j]?=some u→wb.drew.cell? (ad.add j)=some u):=.inr ⟨_,rfl,hz3 A _ _ HD.out.bel⟩
       clear hz3
       refine wp_region_held_drew (S:=fun w''=>w''.cell? ⟨w.heap.size,0,none⟩=some (.slice (some ⟨ga,0,none⟩) l.length c0)∧w''.cell? ⟨bx,0,none⟩=some (.int .i64 (f:Nat))) (by kernel_rfl) (⟨sc,xc⟩) (fun hHeld=>?_)
       refine tkH 0 rfl ?_
       try simp only [Act.put,tS]
       refine tkH 2 rfl ?_
       try simp only [Act.put,tS]
       refine tkH 3 rfl ?_
       try simp only [Act.put,tS]
       refine tkH 4 rfl ?_
       try simp only [Act.put,tS]
       refine tkH 5 rfl ?_
       try simp only [Act.put,tS]
       refine tkH 6 rfl ?_
       try simp only [Act.put,tS]
       refine tkH 7 rfl ?_
       try simp only [Act.put,tS]
       refine rdH 1 rfl fun K hK=>?_
       go_simp
       refine hK.out _ _ ?_ (fun hHeld=>?_)
       ·(try simp only [World.cell?_drew]);exact ⟨sc,xc⟩
       clear hK K
       try simp only [Act.put,tS]
       refine rdH 8 rfl fun K hK=>?_
       rw [if_pos (by rfl)]
       refine wp_append_opt _ _ _ 22 (by rfl) w.heap.size Tryz.info_i64 Tryz.underlying22 na _ (by rfl) HD.out.oa _ (some ⟨ga,A,none⟩) (f - A) (c0 - A) (by rfl) HPL.out HPC.out HPB.out HPZ.out ?_;intro v9 w9 ho9 hg9 hb9;obtain ⟨n9,a9,c9,hv9⟩:∃ n9 a9 c9,v9=.slice a9 n9 c9:=(let ⟨a,b,c⟩:=ho9.form;⟨_,a,b,c⟩);subst hv9;have HO9:=hidIt (HFN.out _ w9 ho9 hg9 hb9);obtain ⟨y0,⟨y1,y2⟩,y3⟩:=HO9.out.1;clear ho9 hg9 hb9 sc nc xc
       refine hK.out _ _ ?_ (fun hHeld=>?_)
       ·exact y0
       clear hK K
       try simp only [Act.put,tS]
       refine tkH 9 rfl ?_
       try simp only [Act.put,tS]
       refine rdH 10 rfl fun K hK=>?_
       go_simp
       clear y0 y1 y2
       refine hK.out _ _ ?_ (fun hHeld=>?_)
       ·(try simp only [World.cell?_drew]);exact y3
       clear hK K
       try simp only [Act.put,tS]
       refine wpAnyH_done (by kernel_rfl) ?_ _
       go_wp2_with fail
       go_meet
       case rel=>exact ⟨rfl,_,HO9.out.2⟩
    obtain ⟨_,na9,HG90⟩:=hcut
    obtain ⟨w10,rfl⟩:∃ v,v=wc:=⟨_,rfl⟩
    have HGT:=hidIt HG90.out.1
    have HXT:=hidIt HG90.out.2
    clear HG90
    go_upto_region 10 with fail
    go_cut [11] from 58 to 67 (fun pv wF=>pv=.int .i64 (A:Nat)∧∃ nt9:Value,Hid (GI w (.slice a0 l.length c0) (.slice a1 l.length c1) (.slice a2 nb c2) na9 nt9 ((prE l 0 (es.take i)).map Prod.fst ++ ((l.map Prod.fst).drop A).take (f - A)) ((prE l 0 (es.take i)).map Prod.snd ++ ((l.map Prod.snd).drop A).take (f - A)) wF∧wF.heap[bx]?=some (.cells #[.int .i64 (f:Nat),.int .i64 (T:Nat),.slice pa ep.length pc] 30 (0,0))))
    case first =>
     have HD:=hidIt (HGT.out.ext (Below.refl _ _).drew)
     have sc:w10.cell? ⟨w.heap.size,1,none⟩=some (.slice a1 l.length c1):=by rw [cell_of_row w10 _ _ _ _ _ HGT.out.sb];rfl
     have nc:w10.cell? ⟨w.heap.size + 2,1,none⟩=some nt:=by rw [cell_of_row w10 _ _ _ _ _ HGT.out.nb];rfl
     have xc:w10.cell? ⟨bx,0,none⟩=some (.int .i64 (f:Nat)):=by rw [cell_of_row w10 _ _ _ _ _ HXT.out];rfl
     have HPL:Hid (f - A=(((l.map Prod.snd).drop A).take (f - A)).length):=by unfold Hid;rw [List.length_take,List.length_drop,List.length_map];omega
     have HPB:Hid (((prE l 0 (es.take i)).map Prod.snd).length + (((l.map Prod.snd).drop A).take (f - A)).length≤1099511627776):=by unfold Hid;have:=HPL0.out;simp only [List.length_take,List.length_drop,List.length_map];omega
     have HPZ:Hid (w.heap.size≤w10.drew.heap.size):=HD.out.bel.size
     have HFN:Hid (∀ v9 w9,OwnI w9 w.heap.size v9 ((prE l 0 (es.take i)).map Prod.snd ++ ((l.map Prod.snd).drop A).take (f - A))→w10.drew.grownBy w9 (Value.ownBlock nt)→(v9.ownBlock=Value.ownBlock nt∨v9.ownBlock=some w10.drew.heap.size)→((w9.cell? ⟨w.heap.size,1,none⟩=some (.slice a1 l.length c1)∧w9.cell? ⟨bx,0,none⟩=some (.int .i64 (f:Nat)))∧(w9.cell? ⟨w.heap.size + 2,1,none⟩=some nt∧∀ i,w9.frozen? ⟨w.heap.size + 2,i,none⟩=false)∧((w9.setCell ⟨w.heap.size + 2,1,none⟩ v9).cell? ⟨w.heap.size,1,none⟩=some (.slice a1 l.length c1)∧(w9.setCell ⟨w.heap.size + 2,1,none⟩ v9).cell? ⟨bx,0,none⟩=some (.int .i64 (f:Nat))))∧Hid (GI w (.slice a0 l.length c0) (.slice a1 l.length c1) (.slice a2 nb c2) na9 v9 ((prE l 0 (es.take i)).map Prod.fst ++ ((l.map Prod.fst).drop A).take (f - A)) ((prE l 0 (es.take i)).map Prod.snd ++ ((l.map Prod.snd).drop A).take (f - A)) (w9.setCell ⟨w.heap.size + 2,1,none⟩ v9)∧(w9.setCell ⟨w.heap.size + 2,1,none⟩ v9).heap[bx]?=some (.cells #[.int .i64 (f:Nat),.int .i64 (T:Nat),.slice pa ep.length pc] 30 (0,0)))):=fun v9 w9 ho hg hb=>by
      obtain ⟨t1,t2,t3⟩:=HD.out.stepT (((l.map Prod.snd).drop A).take (f - A)) v9 w9 ho hg hb
      have t4:w9.heap[bx]?=some (.cells #[.int .i64 (f:Nat),.int .i64 (T:Nat),.slice pa ep.length pc] 30 (0,0)):=grown_other (z:=(0,0)) HD.out.ot hg (by decide) (show w10.drew.heap[bx]?=_ from HXT.out)
      have t5:(w9.setCell ⟨w.heap.size + 2,1,none⟩ v9).heap[bx]?=some (.cells #[.int .i64 (f:Nat),.int .i64 (T:Nat),.slice pa ep.length pc] 30 (0,0)):=set_other t4 t2 (by have:=HBX.out;omega) (by simp)
      exact ⟨⟨⟨by rw [cell_of_row w9 _ _ _ _ _ t1];rfl,by rw [cell_of_row w9 _ _ _ _ _ t4];rfl⟩,⟨by rw [cell_of_row w9 _ _ _ _ _ t2];rfl,fun i=>by simp [World.frozen?,t2]⟩,⟨by rw [cell_of_row _ _ _ _ _ _ t3.sb];rfl,by rw [cell_of_row _ _ _ _ _ _ t5];rfl⟩⟩,t3,t5⟩
     rcases CV1.out with ⟨rfl,rfl,hz0⟩ | ⟨ga,rfl,hz1,hz2,hz3⟩
     ·obtain rfl:l=[]:=by simpa using hz0
      simp only [List.length_nil] at *
      obtain rfl:A=0:=by omega
      obtain rfl:f=0:=by omega
      have HPC:Hid (((none:Option Addr)=none∧0=0∧((([]:List (Int × Int)).map Prod.snd).drop 0).take (0 - 0)=[])∨∃ ad,(none:Option Addr)=some ad∧∀ j u,((((([]:List (Int × Int)).map Prod.snd).drop 0).take (0 - 0)).map (Value.int .i64))[j]?=some u→w10.drew.cell? (ad.add j)=some u):=.inl ⟨rfl,rfl,by simp⟩
      refine wp_region_held_drew (S:=fun w''=>w''.cell? ⟨w.heap.size,1,none⟩=some (.slice none 0 0)∧w''.cell? ⟨bx,0,none⟩=some (.int .i64 ((0:Nat):Int))) (by kernel_rfl) (⟨sc,xc⟩) (fun hHeld=>?_)
      refine tkH 0 rfl ?_
      try simp only [Act.put,tS]
      refine tkH 2 rfl ?_
      try simp only [Act.put,tS]
      refine tkH 3 rfl ?_
      try simp only [Act.put,tS]
      refine tkH 4 rfl ?_
      try simp only [Act.put,tS]
      refine tkH 5 rfl ?_
      try simp only [Act.put,tS]
      refine tkH 6 rfl ?_
      try simp only [Act.put,tS]
      refine tkH 7 rfl ?_
      try simp only [Act.put,tS]
      refine rdH 1 rfl fun K hK=>?_
      go_simp
      refine hK.out _ _ ?_ (fun hHeld=>?_)
      ·(try simp only [World.cell?_drew]);exact ⟨sc,xc⟩
      clear hK K
      try simp only [Act.put,tS]
      refine rdH 8 rfl fun K hK=>?_
      rw [if_pos (by rfl)]
      refine wp_append_opt _ _ _ 22 (by rfl) w.heap.size Tryz.info_i64 Tryz.underlying22 nt _ (by rfl) HD.out.ot _ (none) (0) (0) (by rfl) HPL.out HPC.out HPB.out HPZ.out ?_;intro v9 w9 ho9 hg9 hb9;obtain ⟨n9,a9,c9,hv9⟩:∃ n9 a9 c9,v9=.slice a9 n9 c9:=(let ⟨a,b,c⟩:=ho9.form;⟨_,a,b,c⟩);subst hv9;have HO9:=hidIt (HFN.out _ w9 ho9 hg9 hb9);obtain ⟨y0,⟨y1,y2⟩,y3⟩:=HO9.out.1;clear ho9 hg9 hb9 sc nc xc
      refine hK.out _ _ ?_ (fun hHeld=>?_)
      ·exact y0
      clear hK K
      try simp only [Act.put,tS]
      refine tkH 9 rfl ?_
      try simp only [Act.put,tS]
      refine rdH 10 rfl fun K hK=>?_
      go_simp
      clear y0 y1 y2
      refine hK.out _ _ ?_ (fun hHeld=>?_)
      ·(try simp only [World.cell?_drew]);exact y3
      clear hK K
      try simp only [Act.put,tS]
      refine wpAnyH_done (by kernel_rfl) ?_ _
      go_wp2_with fail
      go_meet
      case rel=>exact ⟨rfl,_,HO9.out.2⟩
     ·rw [List.length_map] at hz1
      by_cases hcA:c1=A
      ·obtain rfl:A=c1:=hcA.symm
       obtain rfl:A=f:=by omega
       have HPC:Hid (((some ⟨ga,0,none⟩:Option Addr)=none∧0=0∧((l.map Prod.snd).drop A).take (A - A)=[])∨∃ ad,(some ⟨ga,0,none⟩:Option Addr)=some ad∧∀ j u,((((l.map Prod.snd).drop A).take (A - A)).map (Value.int .i64))[j]?=some u→w10.drew.cell? (ad.add j)=some u):=.inr ⟨_,rfl,fun j u hj=>by rw [List.take_of_length_le (by rw [List.length_drop,List.length_map];omega)] at hj;rw [List.drop_eq_nil_of_le (by rw [List.length_map];omega)] at hj;simp at hj⟩
       refine wp_region_held_drew (S:=fun w''=>w''.cell? ⟨w.heap.size,1,none⟩=some (.slice (some ⟨ga,0,none⟩) l.length A)∧w''.cell? ⟨bx,0,none⟩=some (.int .i64 (A:Nat))) (by kernel_rfl) (⟨sc,xc⟩) (fun hHeld=>?_)
       refine tkH 0 rfl ?_
       try simp only [Act.put,tS]
       refine tkH 2 rfl ?_
       try simp only [Act.put,tS]
       refine tkH 3 rfl ?_
       try simp only [Act.put,tS]
       refine tkH 4 rfl ?_
       try simp only [Act.put,tS]
       refine tkH 5 rfl ?_
       try simp only [Act.put,tS]
       refine tkH 6 rfl ?_
       try simp only [Act.put,tS]
       refine tkH 7 rfl ?_
       try simp only [Act.put,tS]
       refine rdH 1 rfl fun K hK=>?_
       go_simp
       refine hK.out _ _ ?_ (fun hHeld=>?_)
       ·(try simp only [World.cell?_drew]);exact ⟨sc,xc⟩
       clear hK K
       try simp only [Act.put,tS]
       refine rdH 8 rfl fun K hK=>?_
       rw [if_pos (by rfl)]
       refine wp_append_opt _ _ _ 22 (by rfl) w.heap.size Tryz.info_i64 Tryz.underlying22 nt _ (by rfl) HD.out.ot _ (some ⟨ga,0,none⟩) (0) (0) (by rfl) (by rw [← HPL.out];exact (Nat.sub_self _).symm) HPC.out HPB.out HPZ.out ?_;intro v9 w9 ho9 hg9 hb9;obtain ⟨n9,a9,c9,hv9⟩:∃ n9 a9 c9,v9=.slice a9 n9 c9:=(let ⟨a,b,c⟩:=ho9.form;⟨_,a,b,c⟩);subst hv9;have HO9:=hidIt (HFN.out _ w9 ho9 hg9 hb9);obtain ⟨y0,⟨y1,y2⟩,y3⟩:=HO9.out.1;clear ho9 hg9 hb9 sc nc xc
       refine hK.out _ _ ?_ (fun hHeld=>?_)
       ·exact y0
       clear hK K
       try simp only [Act.put,tS]
       refine tkH 9 rfl ?_
       try simp only [Act.put,tS]
       refine rdH 10 rfl fun K hK=>?_
       go_simp
       clear y0 y1 y2
       refine hK.out _ _ ?_ (fun hHeld=>?_)
       ·(try simp only [World.cell?_drew]);exact y3
       clear hK K
       try simp only [Act.put,tS]
       refine wpAnyH_done (by kernel_rfl) ?_ _
       go_wp2_with fail
       go_meet
       case rel=>exact ⟨rfl,_,HO9.out.2⟩
      ·have hcA':¬ A=c1:=fun e=>hcA e.symm
       have hfc:(f:Int)≤(c1:Int):=by omega
       have hA0:(0:Int)≤(A:Int):=by omega
       have hAf2:(A:Int)≤(f:Int):=by omega
       have HPC:Hid (((some ⟨ga,A,none⟩:Option Addr)=none∧c1 - A=0∧((l.map Prod.snd).drop A).take (f - A)=[])∨∃ ad,(some ⟨ga,A,none⟩:Option Addr)=some ad∧∀ j u,((((l.map Prod.snd).drop A).take (f - A)).map (Value.int .i64))[j]?=some u→w10.drew.cell? (ad.add j)=some u):=.inr ⟨_,rfl,hz3 A _ _ HD.out.bel⟩
       clear hz3
       refine wp_region_held_drew (S:=fun w''=>w''.cell? ⟨w.heap.size,1,none⟩=some (.slice (some ⟨ga,0,none⟩) l.length c1)∧w''.cell? ⟨bx,0,none⟩=some (.int .i64 (f:Nat))) (by kernel_rfl) (⟨sc,xc⟩) (fun hHeld=>?_)
       refine tkH 0 rfl ?_
       try simp only [Act.put,tS]
       refine tkH 2 rfl ?_
       try simp only [Act.put,tS]
       refine tkH 3 rfl ?_
       try simp only [Act.put,tS]
       refine tkH 4 rfl ?_
       try simp only [Act.put,tS]
       refine tkH 5 rfl ?_
       try simp only [Act.put,tS]
       refine tkH 6 rfl ?_
       try simp only [Act.put,tS]
       refine tkH 7 rfl ?_
       try simp only [Act.put,tS]
       refine rdH 1 rfl fun K hK=>?_
       go_simp
       refine hK.out _ _ ?_ (fun hHeld=>?_)
       ·(try simp only [World.cell?_drew]);exact ⟨sc,xc⟩
       clear hK K
       try simp only [Act.put,tS]
       refine rdH 8 rfl fun K hK=>?_
       rw [if_pos (by rfl)]
       refine wp_append_opt _ _ _ 22 (by rfl) w.heap.size Tryz.info_i64 Tryz.underlying22 nt _ (by rfl) HD.out.ot _ (some ⟨ga,A,none⟩) (f - A) (c1 - A) (by rfl) HPL.out HPC.out HPB.out HPZ.out ?_;intro v9 w9 ho9 hg9 hb9;obtain ⟨n9,a9,c9,hv9⟩:∃ n9 a9 c9,v9=.slice a9 n9 c9:=(let ⟨a,b,c⟩:=ho9.form;⟨_,a,b,c⟩);subst hv9;have HO9:=hidIt (HFN.out _ w9 ho9 hg9 hb9);obtain ⟨y0,⟨y1,y2⟩,y3⟩:=HO9.out.1;clear ho9 hg9 hb9 sc nc xc
       refine hK.out _ _ ?_ (fun hHeld=>?_)
       ·exact y0
       clear hK K
       try simp only [Act.put,tS]
       refine tkH 9 rfl ?_
       try simp only [Act.put,tS]
       refine rdH 10 rfl fun K hK=>?_
       go_simp
       clear y0 y1 y2
       refine hK.out _ _ ?_ (fun hHeld=>?_)
       ·(try simp only [World.cell?_drew]);exact y3
       clear hK K
       try simp only [Act.put,tS]
       refine wpAnyH_done (by kernel_rfl) ?_ _
       go_wp2_with fail
       go_meet
       case rel=>exact ⟨rfl,_,HO9.out.2⟩
    obtain ⟨_,nt9,HG100⟩:=hcut
    obtain ⟨v11,rfl⟩:∃ v,v=wc:=⟨_,rfl⟩
    have HPUT:Hid (∀ j x,ep[j]?=some x→∃ pb po,pa=some ⟨pb,po,none⟩∧pb < w.heap.size∧w.cell? ⟨pb,po + j,none⟩=some (.int .i64 x)∧ep.length≤pc):=fun j x hx=>by
     obtain ⟨b',o',e1,e2,e3,e4⟩:=rd_at HRD.out j (List.getElem?_eq_some_iff.1 hx).1
     rw [hx,Option.getD_some] at e3
     exact ⟨b',o',e1,e2,e3,e4⟩
    have hpl:ep.length≤1048576:=by
     have e:puts es=puts (es.take i) ++ puts (es.drop i):=by
      conv=>lhs;rw [← List.take_append_drop i es]
      simp only [puts,List.flatMap_append]
     have e2:puts (es.drop i)=ep ++ puts (es.drop (i + 1)):=by rw [drop_of hej];rfl
     rw [e,e2,List.length_append,List.length_append] at hp
     omega
    have HNF:Hid ((∃ a ∈ ep,Cx.fits enc a≠true)→chA enc lim l es≠0):=fun ⟨a,ha,hna⟩ hc=>by
     have h1:=((good_ch enc lim l es h7).1 hc).2.1 a (by
      unfold puts
      exact List.mem_flatMap.2 ⟨_,List.mem_of_getElem? hej,ha⟩)
     exact hna h1
    clear x0 x1 x2 s0
    go_upto_block 2 with fail
    go_wp2_with fail
    go_loopg [14] ep.length (fun gj pj wr=>∃ (j:Nat) (nx ny:Value),j + gj=ep.length∧pj=.int .i64 (j:Nat)∧Hid (∀ a ∈ ep.take j,Cx.fits enc a=true)∧Hid (GI w (.slice a0 l.length c0) (.slice a1 l.length c1) (.slice a2 nb c2) nx ny (((prE l 0 (es.take i)).map Prod.fst ++ ((l.map Prod.fst).drop A).take (f - A)) ++ ep.take j) (((prE l 0 (es.take i)).map Prod.snd ++ ((l.map Prod.snd).drop A).take (f - A)) ++ List.replicate j (-1)) wr∧wr.heap[bx]?=some (.cells #[.int .i64 (f:Nat),.int .i64 (T:Nat),.slice pa ep.length pc] 30 (0,0))))
    case atStart=>exact ⟨0,_,_,by omega,rfl,(fun a ha=>by simp at ha),by unfold Hid;rw [List.take_zero,List.append_nil,List.replicate_zero,List.append_nil];exact HG100.out⟩
    case round =>
     obtain ⟨j,nx,ny,hj,rfl,HFJ,HGJ⟩:=hrel
     have bc2:wr.cell? ⟨bx,2,none⟩=some (.slice pa ep.length pc):=by rw [cell_of_row wr _ _ _ _ _ HGJ.out.2];rfl
     by_cases hjl:j < ep.length
     ·have hjl2:(j:Int) < (ep.length:Int):=by omega
      obtain ⟨x,hx⟩:∃ x,ep[j]?=some x:=⟨_,List.getElem?_eq_getElem hjl⟩
      obtain ⟨pb,po,rfl,hpb,cxw,hpc⟩:=HPUT.out j x hx
      have cx:wr.cell? ⟨pb,po + j,none⟩=some (.int .i64 x):=(HGJ.out.1.bel.cell (p:=⟨pb,po + j,none⟩) hpb).trans cxw
      have FT:=hidIt (Fits_any enc x wr)
      have HX:=hidIt hx
      cases hf:Cx.fits enc x with
      | false =>
        rw [hf] at FT
        have hch:=HNF.out ⟨x,List.mem_of_getElem? hx,by rw [hf];decide⟩
        have HRF:Hid (∀ w',Below wr.heap.size wr w'→(w'.cell? ⟨w.heap.size,0,none⟩=some (.slice a0 l.length c0)∧w'.cell? ⟨w.heap.size,1,none⟩=some (.slice a1 l.length c1)∧w'.cell? ⟨w.heap.size,2,none⟩=some (.slice a2 nb c2))∧(w'.cell? ⟨w.heap.size + 1,0,none⟩=some (.slice none 0 0)∧w'.cell? ⟨w.heap.size + 1,1,none⟩=some (.slice none 0 0)∧w'.cell? ⟨w.heap.size + 1,2,none⟩=some (.slice none 0 0))∧(∀ i,w'.frozen? ⟨w.heap.size + 1,i,none⟩=false)∧Hid (∀ z,z=((w'.setCell ⟨w.heap.size + 1,0,none⟩ (.slice a0 l.length c0)).setCell ⟨w.heap.size + 1,1,none⟩ (.slice a1 l.length c1)).setCell ⟨w.heap.size + 1,2,none⟩ (.slice a2 nb c2)→(z.cell? ⟨w.heap.size + 1,0,none⟩=some (.slice a0 l.length c0)∧z.cell? ⟨w.heap.size + 1,1,none⟩=some (.slice a1 l.length c1)∧z.cell? ⟨w.heap.size + 1,2,none⟩=some (.slice a2 nb c2))∧GdR base enc lim l es w (.returned (.tuple #[.agg #[.slice a0 l.length c0,.slice a1 l.length c1,.slice a2 nb c2],.bool false])) z)):=fun w' hb=>by
         have h':=HGJ.out.1.ext hb
         refine ⟨⟨?_,?_,?_⟩,⟨?_,?_,?_⟩,fun i=>by simp [World.frozen?,h'.rb],fun z hz=>h'.refuse HSS.out hch z hz⟩
         ·rw [cell_of_row w' _ _ _ _ _ h'.sb];rfl
         ·rw [cell_of_row w' _ _ _ _ _ h'.sb];rfl
         ·rw [cell_of_row w' _ _ _ _ _ h'.sb];rfl
         ·rw [cell_of_row w' _ _ _ _ _ h'.rb];rfl
         ·rw [cell_of_row w' _ _ _ _ _ h'.rb];rfl
         ·rw [cell_of_row w' _ _ _ _ _ h'.rb];rfl
        clear hch hx cxw
        go_wp2_with (go_at_call 18;refine FT.out.mono ?_;clear cx bc2;rintro e w3 ⟨rfl,hb3⟩;obtain ⟨s0,q0,qf,FIN⟩:=HRF.out w3 hb3;clear hb3;(try dsimp only))
        generalize hwz:World.setCell (World.setCell (World.setCell w3 _ _) _ _) _ _=z at *
        obtain ⟨r0,hF⟩:=FIN.out z rfl
        exact bodyPost_ret (v:=.tuple #[.agg #[.slice a0 l.length c0,.slice a1 l.length c1,.slice a2 nb c2],.bool false]) (by simp [results,Tryz.results38,go_sem,r0]) rfl hF
      | true =>
        rw [hf] at FT
        have HF:=hidIt hf
        have HJL:Hid (((((prE l 0 (es.take i)).map Prod.fst ++ ((l.map Prod.fst).drop A).take (f - A))) ++ ep.take j).length + [x].length≤1099511627776∧((((prE l 0 (es.take i)).map Prod.snd ++ ((l.map Prod.snd).drop A).take (f - A))) ++ List.replicate j (-1)).length + [(-1:Int)].length≤1099511627776):=by
         unfold Hid
         have:=HPL0.out
         simp only [List.length_append,List.length_take,List.length_drop,List.length_map,List.length_replicate,List.length_cons,List.length_nil]
         omega
        clear hf hx
        go_upto_region 16 with (go_at_call 18;refine FT.out.mono ?_;clear cx bc2;rintro e w16 ⟨rfl,hb3⟩;have HB16:=hidIt hb3;clear hb3;(try dsimp only))
        have HG16:=hidIt (HGJ.out.1.ext HB16.out)
        have HX16:=hidIt ((HB16.out.block _ (Array.getElem?_eq_some_iff.1 HGJ.out.2).1).trans HGJ.out.2)
        have HCS:Hid (∀ w',Below w16.heap.size w16 w'→(w'.cell? ⟨bx,2,none⟩=some (.slice (some ⟨pb,po,none⟩) ep.length pc)∧w'.cell? ⟨pb,po + j,none⟩=some (.int .i64 x))∧w'.cell? ⟨w.heap.size + 2,0,none⟩=some nx):=fun w' hb=>by
         have e1:=(hb.block _ (Array.getElem?_eq_some_iff.1 HX16.out).1).trans HX16.out
         have e2:=(hb.block _ (Array.getElem?_eq_some_iff.1 HG16.out.nb).1).trans HG16.out.nb
         exact ⟨⟨by rw [cell_of_row w' _ _ _ _ _ e1];rfl,((ext_trans HG16.out.bel hb).cell (p:=⟨pb,po + j,none⟩) hpb).trans cxw⟩,by rw [cell_of_row w' _ _ _ _ _ e2];rfl⟩
        go_cut [14] from 84 to 93 (fun pv wF=>pv=.int .i64 (j:Nat)∧∃ nz:Value,Hid (GI w (.slice a0 l.length c0) (.slice a1 l.length c1) (.slice a2 nb c2) nz ny ((((prE l 0 (es.take i)).map Prod.fst ++ ((l.map Prod.fst).drop A).take (f - A))) ++ ep.take j ++ [x]) ((((prE l 0 (es.take i)).map Prod.snd ++ ((l.map Prod.snd).drop A).take (f - A))) ++ List.replicate j (-1)) wF∧wF.heap[bx]?=some (.cells #[.int .i64 (f:Nat),.int .i64 (T:Nat),.slice (some ⟨pb,po,none⟩) ep.length pc] 30 (0,0))))
        case first =>
         have HFA:Hid (∀ v9 v1 w9,GI w (.slice a0 l.length c0) (.slice a1 l.length c1) (.slice a2 nb c2) nx ny ((prE l 0 (es.take i)).map Prod.fst ++ ((l.map Prod.fst).drop A).take (f - A) ++ ep.take j) ((prE l 0 (es.take i)).map Prod.snd ++ ((l.map Prod.snd).drop A).take (f - A) ++ List.replicate j (-1)) v1→v1.heap[bx]?=some (.cells #[.int .i64 (f:Nat),.int .i64 (T:Nat),.slice (some ⟨pb,po,none⟩) ep.length pc] 30 (0,0))→Below w16.heap.size w16 v1→OwnI w9 w.heap.size v9 ((prE l 0 (es.take i)).map Prod.fst ++ ((l.map Prod.fst).drop A).take (f - A) ++ ep.take j ++ [x])→v1.grownBy w9 nx.ownBlock→(v9.ownBlock=nx.ownBlock∨v9.ownBlock=some v1.heap.size)→((w9.cell? ⟨bx,2,none⟩=some (.slice (some ⟨pb,po,none⟩) ep.length pc)∧w9.cell? ⟨pb,po + j,none⟩=some (.int .i64 x))∧(w9.cell? ⟨w.heap.size + 2,0,none⟩=some nx∧∀ i,w9.frozen? ⟨w.heap.size + 2,i,none⟩=false)∧((w9.setCell ⟨w.heap.size + 2,0,none⟩ v9).cell? ⟨bx,2,none⟩=some (.slice (some ⟨pb,po,none⟩) ep.length pc)∧(w9.setCell ⟨w.heap.size + 2,0,none⟩ v9).cell? ⟨pb,po + j,none⟩=some (.int .i64 x)))∧Hid (GI w (.slice a0 l.length c0) (.slice a1 l.length c1) (.slice a2 nb c2) v9 ny ((prE l 0 (es.take i)).map Prod.fst ++ ((l.map Prod.fst).drop A).take (f - A) ++ ep.take j ++ [x]) ((prE l 0 (es.take i)).map Prod.snd ++ ((l.map Prod.snd).drop A).take (f - A) ++ List.replicate j (-1)) (w9.setCell ⟨w.heap.size + 2,0,none⟩ v9)∧(w9.setCell ⟨w.heap.size + 2,0,none⟩ v9).heap[bx]?=some (.cells #[.int .i64 (f:Nat),.int .i64 (T:Nat),.slice (some ⟨pb,po,none⟩) ep.length pc] 30 (0,0)))):=fun v9 v1 w9 hG hX hB ho hg hb=>by
          obtain ⟨t1,t2,t3⟩:=hG.stepA [x] v9 w9 ho hg hb
          have t4:w9.heap[bx]?=some (.cells #[.int .i64 (f:Nat),.int .i64 (T:Nat),.slice (some ⟨pb,po,none⟩) ep.length pc] 30 (0,0)):=grown_other (z:=(0,0)) hG.oa hg (by decide) hX
          have t5:(w9.setCell ⟨w.heap.size + 2,0,none⟩ v9).heap[bx]?=some (.cells #[.int .i64 (f:Nat),.int .i64 (T:Nat),.slice (some ⟨pb,po,none⟩) ep.length pc] 30 (0,0)):=set_other t4 t2 (by have:=HBX.out;omega) (by simp)
          have b9:Below w.heap.size w w9:=hG.bel.grown hg hG.bel.size (fun k e=>(hG.oa.typ2 k e).2)
          exact ⟨⟨⟨by rw [cell_of_row w9 _ _ _ _ _ t4];rfl,(b9.cell (p:=⟨pb,po + j,none⟩) hpb).trans cxw⟩,⟨by rw [cell_of_row w9 _ _ _ _ _ t2];rfl,fun i=>by simp [World.frozen?,t2]⟩,⟨by rw [cell_of_row _ _ _ _ _ _ t5];rfl,(t3.bel.cell (p:=⟨pb,po + j,none⟩) hpb).trans cxw⟩⟩,t3,t5⟩
         obtain ⟨ks,nc⟩:=HCS.out w16 (Below.refl _ _)
         refine wp_region_held_drew (S:=fun w''=>w''.cell? ⟨bx,2,none⟩=some (.slice (some ⟨pb,po,none⟩) ep.length pc)∧w''.cell? ⟨pb,po + j,none⟩=some (.int .i64 x)) (by kernel_rfl) (ks) (fun hHeld=>?_)
         refine tkH 0 rfl ?_
         try simp only [Act.put,tS]
         refine tkH 2 rfl ?_
         try simp only [Act.put,tS]
         refine tkH 3 rfl ?_
         try simp only [Act.put,tS]
         refine tkH 4 rfl ?_
         try simp only [Act.put,tS]
         refine tkH 5 rfl ?_
         try simp only [Act.put,tS]
         refine tkH 6 rfl ?_
         try simp only [Act.put,tS]
         refine wpAnyH_ready (rs:=[1,7]) (by kernel_rfl) (by simp) ?_
         refine (AllReadyH.cons (o:=_) rfl (fun K hK=>?_) (AllReadyH.cons (o:=_) rfl (fun K hK=>?_) AllReadyH.nil))
         ·skip
          go_simp
          refine hK.out _ _ ?_ (fun hHeld=>?_)
          ·(try simp only [World.cell?_drew]);exact ks
          clear hK K
          try simp only [Act.put,tS]
          refine rdH 7 rfl fun K hK=>?_
          go_simp
          generalize hwN:World.alloc _ _=v1;have HB1:Hid (Below w16.heap.size w16 v1):=(by unfold Hid;rw [← hwN];exact ext_alloc (Below.refl _ _) _);have NEW:Hid (∀ j u,([x].map (Value.int .i64))[j]?=some u→v1.drew.cell? ((⟨w16.heap.size,0,none⟩:Addr).add j)=some u):=(fun j u hj=>by rw [World.cell?_drew,← hwN];exact rdi_new w16 x j u hj);clear hwN ks nc;obtain ⟨ks,nc⟩:=HCS.out v1 HB1.out;have HG1:=hidIt (HG16.out.ext HB1.out.drew);have HX1:=hidIt ((HB1.out.drew.block _ (Array.getElem?_eq_some_iff.1 HX16.out).1).trans HX16.out);have HZ1:=hidIt HG1.out.bel.size
          refine hK.out _ _ ?_ (fun hHeld=>?_)
          ·(try simp only [World.cell?_drew]);exact ks
          clear hK K
          try simp only [Act.put,tS]
          refine rdH 8 rfl fun K hK=>?_
          rw [if_pos (by rfl)]
          refine wp_append_opt v1.drew _ _ 22 (by rfl) w.heap.size Tryz.info_i64 Tryz.underlying22 nx _ (by rfl) HG1.out.oa [x] (some ⟨w16.heap.size,0,none⟩) 1 1 (by rfl) rfl (.inr ⟨_,rfl,NEW.out⟩) HJL.out.1 HZ1.out ?_;intro v9 w9 ho9 hg9 hb9;obtain ⟨n9,a9,c9,hv9⟩:∃ n9 a9 c9,v9=.slice a9 n9 c9:=(let ⟨a,b,c⟩:=ho9.form;⟨_,a,b,c⟩);subst hv9;have HO9:=hidIt (HFA.out _ v1.drew w9 HG1.out HX1.out HB1.out.drew ho9 hg9 hb9);obtain ⟨y0,⟨y1,y2⟩,y3⟩:=HO9.out.1;clear ho9 hg9 hb9 ks nc
          refine hK.out _ _ ?_ (fun hHeld=>?_)
          ·exact y0
          clear hK K
          try simp only [Act.put,tS]
          refine tkH 9 rfl ?_
          try simp only [Act.put,tS]
          refine rdH 10 rfl fun K hK=>?_
          go_simp
          clear y0 y1 y2
          refine hK.out _ _ ?_ (fun hHeld=>?_)
          ·(try simp only [World.cell?_drew]);exact y3
          clear hK K
          try simp only [Act.put,tS]
          refine wpAnyH_done (by kernel_rfl) ?_ _
          go_wp2_with fail
          go_meet
          case rel=>exact ⟨rfl,_,HO9.out.2⟩
         ·skip
          go_simp
          generalize hwN:World.alloc _ _=v1;have HB1:Hid (Below w16.heap.size w16 v1):=(by unfold Hid;rw [← hwN];exact ext_alloc (Below.refl _ _) _);have NEW:Hid (∀ j u,([x].map (Value.int .i64))[j]?=some u→v1.drew.cell? ((⟨w16.heap.size,0,none⟩:Addr).add j)=some u):=(fun j u hj=>by rw [World.cell?_drew,← hwN];exact rdi_new w16 x j u hj);clear hwN ks nc;obtain ⟨ks,nc⟩:=HCS.out v1 HB1.out;have HG1:=hidIt (HG16.out.ext HB1.out.drew);have HX1:=hidIt ((HB1.out.drew.block _ (Array.getElem?_eq_some_iff.1 HX16.out).1).trans HX16.out);have HZ1:=hidIt HG1.out.bel.size
          refine hK.out _ _ ?_ (fun hHeld=>?_)
          ·(try simp only [World.cell?_drew]);exact ks
          clear hK K
          try simp only [Act.put,tS]
          refine rdH 1 rfl fun K hK=>?_
          go_simp
          refine hK.out _ _ ?_ (fun hHeld=>?_)
          ·(try simp only [World.cell?_drew]);exact ks
          clear hK K
          try simp only [Act.put,tS]
          refine rdH 8 rfl fun K hK=>?_
          rw [if_pos (by rfl)]
          refine wp_append_opt v1.drew _ _ 22 (by rfl) w.heap.size Tryz.info_i64 Tryz.underlying22 nx _ (by rfl) HG1.out.oa [x] (some ⟨w16.heap.size,0,none⟩) 1 1 (by rfl) rfl (.inr ⟨_,rfl,NEW.out⟩) HJL.out.1 HZ1.out ?_;intro v9 w9 ho9 hg9 hb9;obtain ⟨n9,a9,c9,hv9⟩:∃ n9 a9 c9,v9=.slice a9 n9 c9:=(let ⟨a,b,c⟩:=ho9.form;⟨_,a,b,c⟩);subst hv9;have HO9:=hidIt (HFA.out _ v1.drew w9 HG1.out HX1.out HB1.out.drew ho9 hg9 hb9);obtain ⟨y0,⟨y1,y2⟩,y3⟩:=HO9.out.1;clear ho9 hg9 hb9 ks nc
          refine hK.out _ _ ?_ (fun hHeld=>?_)
          ·exact y0
          clear hK K
          try simp only [Act.put,tS]
          refine tkH 9 rfl ?_
          try simp only [Act.put,tS]
          refine rdH 10 rfl fun K hK=>?_
          go_simp
          clear y0 y1 y2
          refine hK.out _ _ ?_ (fun hHeld=>?_)
          ·(try simp only [World.cell?_drew]);exact y3
          clear hK K
          try simp only [Act.put,tS]
          refine wpAnyH_done (by kernel_rfl) ?_ _
          go_wp2_with fail
          go_meet
          case rel=>exact ⟨rfl,_,HO9.out.2⟩
        obtain ⟨_,nz,HG17⟩:=hcut
        obtain ⟨w17,rfl⟩:∃ v,v=wc:=⟨_,rfl⟩
        obtain ⟨wn,hwn,hbn⟩:∃ wn,wn=w17.alloc (.cells #[.int .i64 (-1)] 3)∧Below w17.heap.size w17 wn:=⟨_,rfl,ext_alloc (Below.refl _ _) _⟩
        have HNW:Hid (∀ j u,([(-1:Int)].map (Value.int .i64))[j]?=some u→wn.cell? ((⟨w17.heap.size,0,none⟩:Addr).add j)=some u):=by unfold Hid;rw [hwn];exact rdi_new w17 (-1)
        have HGn:=hidIt (HG17.out.1.ext hbn)
        have HXn:=hidIt ((hbn.block _ (Array.getElem?_eq_some_iff.1 HG17.out.2).1).trans HG17.out.2)
        have nc:w17.cell? ⟨w.heap.size + 2,1,none⟩=some ny:=by rw [cell_of_row w17 _ _ _ _ _ HG17.out.1.nb];rfl
        have HFN:Hid (∀ v9 w9,OwnI w9 w.heap.size v9 ((((prE l 0 (es.take i)).map Prod.snd ++ ((l.map Prod.snd).drop A).take (f - A))) ++ List.replicate j (-1) ++ [(-1:Int)])→wn.grownBy w9 ny.ownBlock→(v9.ownBlock=ny.ownBlock∨v9.ownBlock=some wn.heap.size)→(w9.cell? ⟨w.heap.size + 2,1,none⟩=some ny∧∀ i,w9.frozen? ⟨w.heap.size + 2,i,none⟩=false)∧Hid (GI w (.slice a0 l.length c0) (.slice a1 l.length c1) (.slice a2 nb c2) nz v9 ((((prE l 0 (es.take i)).map Prod.fst ++ ((l.map Prod.fst).drop A).take (f - A))) ++ ep.take j ++ [x]) ((((prE l 0 (es.take i)).map Prod.snd ++ ((l.map Prod.snd).drop A).take (f - A))) ++ List.replicate j (-1) ++ [(-1:Int)]) (w9.setCell ⟨w.heap.size + 2,1,none⟩ v9)∧(w9.setCell ⟨w.heap.size + 2,1,none⟩ v9).heap[bx]?=some (.cells #[.int .i64 (f:Nat),.int .i64 (T:Nat),.slice (some ⟨pb,po,none⟩) ep.length pc] 30 (0,0)))):=fun v9 w9 ho hg hb=>by
         obtain ⟨t1,t2,t3⟩:=HGn.out.stepT [(-1:Int)] v9 w9 ho hg hb
         have t4:w9.heap[bx]?=some (.cells #[.int .i64 (f:Nat),.int .i64 (T:Nat),.slice (some ⟨pb,po,none⟩) ep.length pc] 30 (0,0)):=grown_other (z:=(0,0)) HGn.out.ot hg (by decide) HXn.out
         exact ⟨⟨by rw [cell_of_row w9 _ _ _ _ _ t2];rfl,fun i=>by simp [World.frozen?,t2]⟩,t3,set_other t4 t2 (by have:=HBX.out;omega) (by simp)⟩
        have HZN:=hidIt HGn.out.bel.size
        go_wp2_with (at_builtin;rw [← hwn];refine wpList_plain rfl fun K hK=>?_;refine wp_append_opt wn _ _ 22 rfl w.heap.size Tryz.info_i64 Tryz.underlying22 ny _ rfl HGn.out.ot [(-1:Int)] (some ⟨w17.heap.size,0,none⟩) 1 1 rfl rfl (.inr ⟨_,rfl,HNW.out⟩) HJL.out.2 HZN.out ?_;intro v9 w9 ho9 hg9 hb9;obtain ⟨n9,a9,c9,hv9⟩:∃ n9 a9 c9,v9=.slice a9 n9 c9:=(let ⟨a,b,c⟩:=ho9.form;⟨_,a,b,c⟩);subst hv9;have HO9:=hidIt (HFN.out _ w9 ho9 hg9 hb9);obtain ⟨y1,y2⟩:=HO9.out.1;refine hK _ _ ?_;clear hK ho9 hg9 hb9 nc)
        go_roundg (ep.length - (j + 1))
        case rel =>
         refine ⟨j + 1,nz,.slice a9 n9 c9,by omega,by go_num,fun a ha=>?_,?_⟩
         ·rw [List.take_add_one,HX.out] at ha
          rcases List.mem_append.1 ha with h | h
          ·exact HFJ.out a h
          ·simp at h;subst h;exact HF.out
         ·have e1:ep.take (j + 1)=ep.take j ++ [x]:=by rw [List.take_add_one,HX.out];rfl
          have e2:List.replicate (j + 1) (-1:Int)=List.replicate j (-1) ++ [-1]:=List.replicate_succ'
          unfold Hid
          rw [e1,e2,← List.append_assoc,← List.append_assoc]
          exact HO9.out.2
        case measure=>omega
     ·have hjl2:¬ (j:Int) < (ep.length:Int):=by omega
      obtain rfl:j=ep.length:=by omega
      have bc1:wr.cell? ⟨bx,1,none⟩=some (.int .i64 (T:Nat)):=by rw [cell_of_row wr _ _ _ _ _ HGJ.out.2];rfl
      have HNX:Hid (T=lastT 0 (es.take (i + 1))∧rg l.length 0 (es.take (i + 1))=true∧∀ a ∈ puts (es.take (i + 1)),Cx.fits enc a=true):=by
       unfold Hid
       rw [HTK.out]
       refine ⟨by rw [lastT_snoc];rfl,(rg_snoc _ _ _ 0).2 ⟨HA.out.2.1,by rw [← HA.out.1];exact ⟨hk1,hk2,hk3⟩⟩,fun a ha=>?_⟩
       have e:puts (es.take i ++ [((f:Int),(T:Int),ep)])=puts (es.take i) ++ ep:=by simp [puts]
       rw [e] at ha
       rcases List.mem_append.1 ha with h | h
       ·exact HA.out.2.2 a h
       ·exact HFJ.out a (by rw [List.take_length];exact h)
      have HGN:Hid (GI w (.slice a0 l.length c0) (.slice a1 l.length c1) (.slice a2 nb c2) nx ny ((prE l 0 (es.take (i + 1))).map Prod.fst) ((prE l 0 (es.take (i + 1))).map Prod.snd) wr):=by
       unfold Hid
       have e:=pr_snoc l ((f:Int),(T:Int),ep) (es.take i) 0
       rw [← HTK.out,← HA.out.1] at e
       have g:=HGJ.out.1
       rw [List.take_length] at g
       rw [e,List.map_append,List.map_append,List.map_append,List.map_append]
       have e1:(ep.map fun a=>(a,(-1:Int))).map Prod.fst=ep:=by simp [List.map_map,Function.comp_def]
       have e2:(ep.map fun a=>(a,(-1:Int))).map Prod.snd=List.replicate ep.length (-1):=by simp [List.map_map,Function.comp_def,List.map_const']
       rw [e1,e2,List.map_take,List.map_take,List.map_drop,List.map_drop]
       exact g
      clear hj
      go_wp2_with fail
      go_roundg (es.length - (i + 1))
      case rel=>exact ⟨i + 1,T,nx,ny,by omega,hTl,rfl,by go_num,HNX.out,HGN.out⟩
      case measure=>omega
   ·have hch:=HBAD.out hok
    have FIN:=hidIt (HGB.out.refuse (lim:=lim) (es:=es) HSS.out hch)
    have q0:wb.cell? ⟨w.heap.size + 1,0,none⟩=some (.slice none 0 0)∧wb.cell? ⟨w.heap.size + 1,1,none⟩=some (.slice none 0 0)∧wb.cell? ⟨w.heap.size + 1,2,none⟩=some (.slice none 0 0):=by refine ⟨?_,?_,?_⟩ <;> (rw [cell_of_row wb _ _ _ _ _ HGB.out.rb];rfl)
    have qf:∀ i,wb.frozen? ⟨w.heap.size + 1,i,none⟩=false:=fun i=>by simp [World.frozen?,HGB.out.rb]
    have hnl:¬ (l.length:Int) < 0:=by omega
    by_cases h1:ef < (A:Int)
    ·go_wp2_with fail
     generalize hwz:World.setCell (World.setCell (World.setCell wb _ _) _ _) _ _=z at *
     obtain ⟨r0,hF⟩:=FIN.out z rfl
     exact bodyPost_ret (v:=.tuple #[.agg #[.slice a0 l.length c0,.slice a1 l.length c1,.slice a2 nb c2],.bool false]) (by simp [results,Tryz.results38,go_sem,r0]) rfl hF
    by_cases h2:et < ef
    ·go_wp2_with fail
     generalize hwz:World.setCell (World.setCell (World.setCell wb _ _) _ _) _ _=z at *
     obtain ⟨r0,hF⟩:=FIN.out z rfl
     exact bodyPost_ret (v:=.tuple #[.agg #[.slice a0 l.length c0,.slice a1 l.length c1,.slice a2 nb c2],.bool false]) (by simp [results,Tryz.results38,go_sem,r0]) rfl hF
    have h3:(l.length:Int) < et:=by omega
    go_wp2_with fail
    generalize hwz:World.setCell (World.setCell (World.setCell wb _ _) _ _) _ _=z at *
    obtain ⟨r0,hF⟩:=FIN.out z rfl
    exact bodyPost_ret (v:=.tuple #[.agg #[.slice a0 l.length c0,.slice a1 l.length c1,.slice a2 nb c2],.bool false]) (by simp [results,Tryz.results38,go_sem,r0]) rfl hF
  ·obtain rfl:i=es.length:=by omega
   have hil2:¬ ((es.length:Nat):Int) < (es.length:Int):=by omega
   rw [List.take_length] at HA HG HPL0
   clear hi
   have hAl2:(A:Int)≤(l.length:Int):=by omega
   go_upto_region 19 with fail
   go_cut [11] from 101 to 108 (fun pv wF=>pv=.int .i64 (A:Nat)∧∃ na9:Value,Hid (GI w (.slice a0 l.length c0) (.slice a1 l.length c1) (.slice a2 nb c2) na9 nt ((prE l 0 es).map Prod.fst ++ ((l.map Prod.fst).drop A).take (l.length - A)) ((prE l 0 es).map Prod.snd) wF))
   case first =>
    have HD:=hidIt (HG.out.ext (Below.refl _ _).drew)
    have sc:wr.cell? ⟨w.heap.size,0,none⟩=some (.slice a0 l.length c0):=by rw [cell_of_row wr _ _ _ _ _ HG.out.sb];rfl
    have nc:wr.cell? ⟨w.heap.size + 2,0,none⟩=some na:=by rw [cell_of_row wr _ _ _ _ _ HG.out.nb];rfl
    have HPL:Hid (l.length - A=(((l.map Prod.fst).drop A).take (l.length - A)).length):=by unfold Hid;rw [List.length_take,List.length_drop,List.length_map];omega
    have HPB:Hid (((prE l 0 es).map Prod.fst).length + (((l.map Prod.fst).drop A).take (l.length - A)).length≤1099511627776):=by unfold Hid;have:=HPL0.out;simp only [List.length_take,List.length_drop,List.length_map];omega
    have HPZ:Hid (w.heap.size≤wr.drew.heap.size):=HD.out.bel.size
    have HFN:Hid (∀ v9 w9,OwnI w9 w.heap.size v9 ((prE l 0 es).map Prod.fst ++ ((l.map Prod.fst).drop A).take (l.length - A))→wr.drew.grownBy w9 (Value.ownBlock na)→(v9.ownBlock=Value.ownBlock na∨v9.ownBlock=some wr.drew.heap.size)→((w9.cell? ⟨w.heap.size,0,none⟩=some (.slice a0 l.length c0))∧(w9.cell? ⟨w.heap.size + 2,0,none⟩=some na∧∀ i,w9.frozen? ⟨w.heap.size + 2,i,none⟩=false)∧((w9.setCell ⟨w.heap.size + 2,0,none⟩ v9).cell? ⟨w.heap.size,0,none⟩=some (.slice a0 l.length c0)))∧Hid (GI w (.slice a0 l.length c0) (.slice a1 l.length c1) (.slice a2 nb c2) v9 nt ((prE l 0 es).map Prod.fst ++ ((l.map Prod.fst).drop A).take (l.length - A)) ((prE l 0 es).map Prod.snd) (w9.setCell ⟨w.heap.size + 2,0,none⟩ v9))):=fun v9 w9 ho hg hb=>by
     obtain ⟨t1,t2,t3⟩:=HD.out.stepA (((l.map Prod.fst).drop A).take (l.length - A)) v9 w9 ho hg hb
     exact ⟨⟨by rw [cell_of_row w9 _ _ _ _ _ t1];rfl,⟨by rw [cell_of_row w9 _ _ _ _ _ t2];rfl,fun i=>by simp [World.frozen?,t2]⟩,by rw [cell_of_row _ _ _ _ _ _ t3.sb];rfl⟩,t3⟩
    rcases CV0.out with ⟨rfl,rfl,hz0⟩ | ⟨ga,rfl,hz1,hz2,hz3⟩
    ·obtain rfl:l=[]:=by simpa using hz0
     simp only [List.length_nil] at *
     obtain rfl:A=0:=by omega
     have HPC:Hid (((none:Option Addr)=none∧0=0∧((([]:List (Int × Int)).map Prod.fst).drop 0).take (0 - 0)=[])∨∃ ad,(none:Option Addr)=some ad∧∀ j u,((((([]:List (Int × Int)).map Prod.fst).drop 0).take (0 - 0)).map (Value.int .i64))[j]?=some u→wr.drew.cell? (ad.add j)=some u):=.inl ⟨rfl,rfl,by simp⟩
     refine wp_region_held_drew (S:=fun w''=>w''.cell? ⟨w.heap.size,0,none⟩=some (.slice none 0 0)) (by kernel_rfl) (sc) (fun hHeld=>?_)
     refine tkH 0 rfl ?_
     try simp only [Act.put,tS]
     refine tkH 2 rfl ?_
     try simp only [Act.put,tS]
     refine tkH 3 rfl ?_
     try simp only [Act.put,tS]
     refine tkH 4 rfl ?_
     try simp only [Act.put,tS]
     refine tkH 5 rfl ?_
     try simp only [Act.put,tS]
     refine rdH 1 rfl fun K hK=>?_
     go_simp
     refine hK.out _ _ ?_ (fun hHeld=>?_)
     ·(try simp only [World.cell?_drew]);exact sc
     clear hK K
     try simp only [Act.put,tS]
     refine rdH 6 rfl fun K hK=>?_
     rw [if_pos (by rfl)]
     refine wp_append_opt _ _ _ 22 (by rfl) w.heap.size Tryz.info_i64 Tryz.underlying22 na _ (by rfl) HD.out.oa _ (none) (0) (0) (by rfl) HPL.out HPC.out HPB.out HPZ.out ?_;intro v9 w9 ho9 hg9 hb9;obtain ⟨n9,a9,c9,hv9⟩:∃ n9 a9 c9,v9=.slice a9 n9 c9:=(let ⟨a,b,c⟩:=ho9.form;⟨_,a,b,c⟩);subst hv9;have HO9:=hidIt (HFN.out _ w9 ho9 hg9 hb9);obtain ⟨y0,⟨y1,y2⟩,y3⟩:=HO9.out.1;clear ho9 hg9 hb9 sc nc
     refine hK.out _ _ ?_ (fun hHeld=>?_)
     ·exact y0
     clear hK K
     try simp only [Act.put,tS]
     refine tkH 7 rfl ?_
     try simp only [Act.put,tS]
     refine rdH 8 rfl fun K hK=>?_
     go_simp
     clear y0 y1 y2
     refine hK.out _ _ ?_ (fun hHeld=>?_)
     ·(try simp only [World.cell?_drew]);exact y3
     clear hK K
     try simp only [Act.put,tS]
     refine wpAnyH_done (by kernel_rfl) ?_ _
     go_wp2_with fail
     go_meet
     case rel=>exact ⟨rfl,_,HO9.out.2⟩
    ·rw [List.length_map] at hz1
     by_cases hcA:c0=A
     ·obtain rfl:A=c0:=hcA.symm
      have HPC:Hid (((some ⟨ga,0,none⟩:Option Addr)=none∧0=0∧((l.map Prod.fst).drop A).take (l.length - A)=[])∨∃ ad,(some ⟨ga,0,none⟩:Option Addr)=some ad∧∀ j u,((((l.map Prod.fst).drop A).take (l.length - A)).map (Value.int .i64))[j]?=some u→wr.drew.cell? (ad.add j)=some u):=.inr ⟨_,rfl,fun j u hj=>by rw [List.take_of_length_le (by rw [List.length_drop,List.length_map];omega)] at hj;rw [List.drop_eq_nil_of_le (by rw [List.length_map];omega)] at hj;simp at hj⟩
      refine wp_region_held_drew (S:=fun w''=>w''.cell? ⟨w.heap.size,0,none⟩=some (.slice (some ⟨ga,0,none⟩) l.length A)) (by kernel_rfl) (sc) (fun hHeld=>?_)
      refine tkH 0 rfl ?_
      try simp only [Act.put,tS]
      refine tkH 2 rfl ?_
      try simp only [Act.put,tS]
      refine tkH 3 rfl ?_
      try simp only [Act.put,tS]
      refine tkH 4 rfl ?_
      try simp only [Act.put,tS]
      refine tkH 5 rfl ?_
      try simp only [Act.put,tS]
      refine rdH 1 rfl fun K hK=>?_
      go_simp
      refine hK.out _ _ ?_ (fun hHeld=>?_)
      ·(try simp only [World.cell?_drew]);exact sc
      clear hK K
      try simp only [Act.put,tS]
      refine rdH 6 rfl fun K hK=>?_
      rw [if_pos (by rfl)]
      refine wp_append_opt _ _ _ 22 (by rfl) w.heap.size Tryz.info_i64 Tryz.underlying22 na _ (by rfl) HD.out.oa _ (some ⟨ga,0,none⟩) (0) (0) (by rfl) (by rw [← HPL.out];omega) HPC.out HPB.out HPZ.out ?_;intro v9 w9 ho9 hg9 hb9;obtain ⟨n9,a9,c9,hv9⟩:∃ n9 a9 c9,v9=.slice a9 n9 c9:=(let ⟨a,b,c⟩:=ho9.form;⟨_,a,b,c⟩);subst hv9;have HO9:=hidIt (HFN.out _ w9 ho9 hg9 hb9);obtain ⟨y0,⟨y1,y2⟩,y3⟩:=HO9.out.1;clear ho9 hg9 hb9 sc nc
      refine hK.out _ _ ?_ (fun hHeld=>?_)
      ·exact y0
      clear hK K
      try simp only [Act.put,tS]
      refine tkH 7 rfl ?_
      try simp only [Act.put,tS]
      refine rdH 8 rfl fun K hK=>?_
      go_simp
      clear y0 y1 y2
      refine hK.out _ _ ?_ (fun hHeld=>?_)
      ·(try simp only [World.cell?_drew]);exact y3
      clear hK K
      try simp only [Act.put,tS]
      refine wpAnyH_done (by kernel_rfl) ?_ _
      go_wp2_with fail
      go_meet
      case rel=>exact ⟨rfl,_,HO9.out.2⟩
     ·have hcA':¬ A=c0:=fun e=>hcA e.symm
      have hfc:(l.length:Int)≤(c0:Int):=by omega
      have hA0:(0:Int)≤(A:Int):=by omega
      have hAf2:(A:Int)≤(l.length:Int):=by omega
      have HPC:Hid (((some ⟨ga,A,none⟩:Option Addr)=none∧c0 - A=0∧((l.map Prod.fst).drop A).take (l.length - A)=[])∨∃ ad,(some ⟨ga,A,none⟩:Option Addr)=some ad∧∀ j u,((((l.map Prod.fst).drop A).take (l.length - A)).map (Value.int .i64))[j]?=some u→wr.drew.cell? (ad.add j)=some u):=.inr ⟨_,rfl,hz3 A _ _ HD.out.bel⟩
      clear hz3
      refine wp_region_held_drew (S:=fun w''=>w''.cell? ⟨w.heap.size,0,none⟩=some (.slice (some ⟨ga,0,none⟩) l.length c0)) (by kernel_rfl) (sc) (fun hHeld=>?_)
      refine tkH 0 rfl ?_
      try simp only [Act.put,tS]
      refine tkH 2 rfl ?_
      try simp only [Act.put,tS]
      refine tkH 3 rfl ?_
      try simp only [Act.put,tS]
      refine tkH 4 rfl ?_
      try simp only [Act.put,tS]
      refine tkH 5 rfl ?_
      try simp only [Act.put,tS]
      refine rdH 1 rfl fun K hK=>?_
      go_simp
      refine hK.out _ _ ?_ (fun hHeld=>?_)
      ·(try simp only [World.cell?_drew]);exact sc
      clear hK K
      try simp only [Act.put,tS]
      refine rdH 6 rfl fun K hK=>?_
      rw [if_pos (by rfl)]
      refine wp_append_opt _ _ _ 22 (by rfl) w.heap.size Tryz.info_i64 Tryz.underlying22 na _ (by rfl) HD.out.oa _ (some ⟨ga,A,none⟩) (l.length - A) (c0 - A) (by rfl) HPL.out HPC.out HPB.out HPZ.out ?_;intro v9 w9 ho9 hg9 hb9;obtain ⟨n9,a9,c9,hv9⟩:∃ n9 a9 c9,v9=.slice a9 n9 c9:=(let ⟨a,b,c⟩:=ho9.form;⟨_,a,b,c⟩);subst hv9;have HO9:=hidIt (HFN.out _ w9 ho9 hg9 hb9);obtain ⟨y0,⟨y1,y2⟩,y3⟩:=HO9.out.1;clear ho9 hg9 hb9 sc nc
      refine hK.out _ _ ?_ (fun hHeld=>?_)
      ·exact y0
      clear hK K
      try simp only [Act.put,tS]
      refine tkH 7 rfl ?_
      try simp only [Act.put,tS]
      refine rdH 8 rfl fun K hK=>?_
      go_simp
      clear y0 y1 y2
      refine hK.out _ _ ?_ (fun hHeld=>?_)
      ·(try simp only [World.cell?_drew]);exact y3
      clear hK K
      try simp only [Act.put,tS]
      refine wpAnyH_done (by kernel_rfl) ?_ _
      go_wp2_with fail
      go_meet
      case rel=>exact ⟨rfl,_,HO9.out.2⟩
   obtain ⟨_,na9,HG190⟩:=hcut
   obtain ⟨w20,rfl⟩:∃ v,v=wc:=⟨_,rfl⟩
   have HGT:=hidIt HG190.out
   clear HG190
   go_upto_region 20 with fail
   go_cut [11] from 109 to 116 (fun pv wF=>pv=.int .i64 (A:Nat)∧∃ nt9:Value,Hid (GI w (.slice a0 l.length c0) (.slice a1 l.length c1) (.slice a2 nb c2) na9 nt9 ((prE l 0 es).map Prod.fst ++ ((l.map Prod.fst).drop A).take (l.length - A)) ((prE l 0 es).map Prod.snd ++ ((l.map Prod.snd).drop A).take (l.length - A)) wF))
   case first =>
    have HD:=hidIt (HGT.out.ext (Below.refl _ _).drew)
    have sc:w20.cell? ⟨w.heap.size,1,none⟩=some (.slice a1 l.length c1):=by rw [cell_of_row w20 _ _ _ _ _ HGT.out.sb];rfl
    have nc:w20.cell? ⟨w.heap.size + 2,1,none⟩=some nt:=by rw [cell_of_row w20 _ _ _ _ _ HGT.out.nb];rfl
    have HPL:Hid (l.length - A=(((l.map Prod.snd).drop A).take (l.length - A)).length):=by unfold Hid;rw [List.length_take,List.length_drop,List.length_map];omega
    have HPB:Hid (((prE l 0 es).map Prod.snd).length + (((l.map Prod.snd).drop A).take (l.length - A)).length≤1099511627776):=by unfold Hid;have:=HPL0.out;simp only [List.length_take,List.length_drop,List.length_map];omega
    have HPZ:Hid (w.heap.size≤w20.drew.heap.size):=HD.out.bel.size
    have HFN:Hid (∀ v9 w9,OwnI w9 w.heap.size v9 ((prE l 0 es).map Prod.snd ++ ((l.map Prod.snd).drop A).take (l.length - A))→w20.drew.grownBy w9 (Value.ownBlock nt)→(v9.ownBlock=Value.ownBlock nt∨v9.ownBlock=some w20.drew.heap.size)→((w9.cell? ⟨w.heap.size,1,none⟩=some (.slice a1 l.length c1))∧(w9.cell? ⟨w.heap.size + 2,1,none⟩=some nt∧∀ i,w9.frozen? ⟨w.heap.size + 2,i,none⟩=false)∧((w9.setCell ⟨w.heap.size + 2,1,none⟩ v9).cell? ⟨w.heap.size,1,none⟩=some (.slice a1 l.length c1)))∧Hid (GI w (.slice a0 l.length c0) (.slice a1 l.length c1) (.slice a2 nb c2) na9 v9 ((prE l 0 es).map Prod.fst ++ ((l.map Prod.fst).drop A).take (l.length - A)) ((prE l 0 es).map Prod.snd ++ ((l.map Prod.snd).drop A).take (l.length - A)) (w9.setCell ⟨w.heap.size + 2,1,none⟩ v9))):=fun v9 w9 ho hg hb=>by
     obtain ⟨t1,t2,t3⟩:=HD.out.stepT (((l.map Prod.snd).drop A).take (l.length - A)) v9 w9 ho hg hb
     exact ⟨⟨by rw [cell_of_row w9 _ _ _ _ _ t1];rfl,⟨by rw [cell_of_row w9 _ _ _ _ _ t2];rfl,fun i=>by simp [World.frozen?,t2]⟩,by rw [cell_of_row _ _ _ _ _ _ t3.sb];rfl⟩,t3⟩
    rcases CV1.out with ⟨rfl,rfl,hz0⟩ | ⟨ga,rfl,hz1,hz2,hz3⟩
    ·obtain rfl:l=[]:=by simpa using hz0
     simp only [List.length_nil] at *
     obtain rfl:A=0:=by omega
     have HPC:Hid (((none:Option Addr)=none∧0=0∧((([]:List (Int × Int)).map Prod.snd).drop 0).take (0 - 0)=[])∨∃ ad,(none:Option Addr)=some ad∧∀ j u,((((([]:List (Int × Int)).map Prod.snd).drop 0).take (0 - 0)).map (Value.int .i64))[j]?=some u→w20.drew.cell? (ad.add j)=some u):=.inl ⟨rfl,rfl,by simp⟩
     refine wp_region_held_drew (S:=fun w''=>w''.cell? ⟨w.heap.size,1,none⟩=some (.slice none 0 0)) (by kernel_rfl) (sc) (fun hHeld=>?_)
     refine tkH 0 rfl ?_
     try simp only [Act.put,tS]
     refine tkH 2 rfl ?_
     try simp only [Act.put,tS]
     refine tkH 3 rfl ?_
     try simp only [Act.put,tS]
     refine tkH 4 rfl ?_
     try simp only [Act.put,tS]
     refine tkH 5 rfl ?_
     try simp only [Act.put,tS]
     refine rdH 1 rfl fun K hK=>?_
     go_simp
     refine hK.out _ _ ?_ (fun hHeld=>?_)
     ·(try simp only [World.cell?_drew]);exact sc
     clear hK K
     try simp only [Act.put,tS]
     refine rdH 6 rfl fun K hK=>?_
     rw [if_pos (by rfl)]
     refine wp_append_opt _ _ _ 22 (by rfl) w.heap.size Tryz.info_i64 Tryz.underlying22 nt _ (by rfl) HD.out.ot _ (none) (0) (0) (by rfl) HPL.out HPC.out HPB.out HPZ.out ?_;intro v9 w9 ho9 hg9 hb9;obtain ⟨n9,a9,c9,hv9⟩:∃ n9 a9 c9,v9=.slice a9 n9 c9:=(let ⟨a,b,c⟩:=ho9.form;⟨_,a,b,c⟩);subst hv9;have HO9:=hidIt (HFN.out _ w9 ho9 hg9 hb9);obtain ⟨y0,⟨y1,y2⟩,y3⟩:=HO9.out.1;clear ho9 hg9 hb9 sc nc
     refine hK.out _ _ ?_ (fun hHeld=>?_)
     ·exact y0
     clear hK K
     try simp only [Act.put,tS]
     refine tkH 7 rfl ?_
     try simp only [Act.put,tS]
     refine rdH 8 rfl fun K hK=>?_
     go_simp
     clear y0 y1 y2
     refine hK.out _ _ ?_ (fun hHeld=>?_)
     ·(try simp only [World.cell?_drew]);exact y3
     clear hK K
     try simp only [Act.put,tS]
     refine wpAnyH_done (by kernel_rfl) ?_ _
     go_wp2_with fail
     go_meet
     case rel=>exact ⟨rfl,_,HO9.out.2⟩
    ·rw [List.length_map] at hz1
     by_cases hcA:c1=A
     ·obtain rfl:A=c1:=hcA.symm
      have HPC:Hid (((some ⟨ga,0,none⟩:Option Addr)=none∧0=0∧((l.map Prod.snd).drop A).take (l.length - A)=[])∨∃ ad,(some ⟨ga,0,none⟩:Option Addr)=some ad∧∀ j u,((((l.map Prod.snd).drop A).take (l.length - A)).map (Value.int .i64))[j]?=some u→w20.drew.cell? (ad.add j)=some u):=.inr ⟨_,rfl,fun j u hj=>by rw [List.take_of_length_le (by rw [List.length_drop,List.length_map];omega)] at hj;rw [List.drop_eq_nil_of_le (by rw [List.length_map];omega)] at hj;simp at hj⟩
      refine wp_region_held_drew (S:=fun w''=>w''.cell? ⟨w.heap.size,1,none⟩=some (.slice (some ⟨ga,0,none⟩) l.length A)) (by kernel_rfl) (sc) (fun hHeld=>?_)
      refine tkH 0 rfl ?_
      try simp only [Act.put,tS]
      refine tkH 2 rfl ?_
      try simp only [Act.put,tS]
      refine tkH 3 rfl ?_
      try simp only [Act.put,tS]
      refine tkH 4 rfl ?_
      try simp only [Act.put,tS]
      refine tkH 5 rfl ?_
      try simp only [Act.put,tS]
      refine rdH 1 rfl fun K hK=>?_
      go_simp
      refine hK.out _ _ ?_ (fun hHeld=>?_)
      ·(try simp only [World.cell?_drew]);exact sc
      clear hK K
      try simp only [Act.put,tS]
      refine rdH 6 rfl fun K hK=>?_
      rw [if_pos (by rfl)]
      refine wp_append_opt _ _ _ 22 (by rfl) w.heap.size Tryz.info_i64 Tryz.underlying22 nt _ (by rfl) HD.out.ot _ (some ⟨ga,0,none⟩) (0) (0) (by rfl) (by rw [← HPL.out];omega) HPC.out HPB.out HPZ.out ?_;intro v9 w9 ho9 hg9 hb9;obtain ⟨n9,a9,c9,hv9⟩:∃ n9 a9 c9,v9=.slice a9 n9 c9:=(let ⟨a,b,c⟩:=ho9.form;⟨_,a,b,c⟩);subst hv9;have HO9:=hidIt (HFN.out _ w9 ho9 hg9 hb9);obtain ⟨y0,⟨y1,y2⟩,y3⟩:=HO9.out.1;clear ho9 hg9 hb9 sc nc
      refine hK.out _ _ ?_ (fun hHeld=>?_)
      ·exact y0
      clear hK K
      try simp only [Act.put,tS]
      refine tkH 7 rfl ?_
      try simp only [Act.put,tS]
      refine rdH 8 rfl fun K hK=>?_
      go_simp
      clear y0 y1 y2
      refine hK.out _ _ ?_ (fun hHeld=>?_)
      ·(try simp only [World.cell?_drew]);exact y3
      clear hK K
      try simp only [Act.put,tS]
      refine wpAnyH_done (by kernel_rfl) ?_ _
      go_wp2_with fail
      go_meet
      case rel=>exact ⟨rfl,_,HO9.out.2⟩
     ·have hcA':¬ A=c1:=fun e=>hcA e.symm
      have hfc:(l.length:Int)≤(c1:Int):=by omega
      have hA0:(0:Int)≤(A:Int):=by omega
      have hAf2:(A:Int)≤(l.length:Int):=by omega
      have HPC:Hid (((some ⟨ga,A,none⟩:Option Addr)=none∧c1 - A=0∧((l.map Prod.snd).drop A).take (l.length - A)=[])∨∃ ad,(some ⟨ga,A,none⟩:Option Addr)=some ad∧∀ j u,((((l.map Prod.snd).drop A).take (l.length - A)).map (Value.int .i64))[j]?=some u→w20.drew.cell? (ad.add j)=some u):=.inr ⟨_,rfl,hz3 A _ _ HD.out.bel⟩
      clear hz3
      refine wp_region_held_drew (S:=fun w''=>w''.cell? ⟨w.heap.size,1,none⟩=some (.slice (some ⟨ga,0,none⟩) l.length c1)) (by kernel_rfl) (sc) (fun hHeld=>?_)
      refine tkH 0 rfl ?_
      try simp only [Act.put,tS]
      refine tkH 2 rfl ?_
      try simp only [Act.put,tS]
      refine tkH 3 rfl ?_
      try simp only [Act.put,tS]
      refine tkH 4 rfl ?_
      try simp only [Act.put,tS]
      refine tkH 5 rfl ?_
      try simp only [Act.put,tS]
      refine rdH 1 rfl fun K hK=>?_
      go_simp
      refine hK.out _ _ ?_ (fun hHeld=>?_)
      ·(try simp only [World.cell?_drew]);exact sc
      clear hK K
      try simp only [Act.put,tS]
      refine rdH 6 rfl fun K hK=>?_
      rw [if_pos (by rfl)]
      refine wp_append_opt _ _ _ 22 (by rfl) w.heap.size Tryz.info_i64 Tryz.underlying22 nt _ (by rfl) HD.out.ot _ (some ⟨ga,A,none⟩) (l.length - A) (c1 - A) (by rfl) HPL.out HPC.out HPB.out HPZ.out ?_;intro v9 w9 ho9 hg9 hb9;obtain ⟨n9,a9,c9,hv9⟩:∃ n9 a9 c9,v9=.slice a9 n9 c9:=(let ⟨a,b,c⟩:=ho9.form;⟨_,a,b,c⟩);subst hv9;have HO9:=hidIt (HFN.out _ w9 ho9 hg9 hb9);obtain ⟨y0,⟨y1,y2⟩,y3⟩:=HO9.out.1;clear ho9 hg9 hb9 sc nc
      refine hK.out _ _ ?_ (fun hHeld=>?_)
      ·exact y0
      clear hK K
      try simp only [Act.put,tS]
      refine tkH 7 rfl ?_
      try simp only [Act.put,tS]
      refine rdH 8 rfl fun K hK=>?_
      go_simp
      clear y0 y1 y2
      refine hK.out _ _ ?_ (fun hHeld=>?_)
      ·(try simp only [World.cell?_drew]);exact y3
      clear hK K
      try simp only [Act.put,tS]
      refine wpAnyH_done (by kernel_rfl) ?_ _
      go_wp2_with fail
      go_meet
      case rel=>exact ⟨rfl,_,HO9.out.2⟩
   obtain ⟨_,nt9,HG200⟩:=hcut
   obtain ⟨w21,rfl⟩:∃ v,v=wc:=⟨_,rfl⟩
   have HAP:Hid (apE l 0 es=prE l 0 es ++ (l.drop A).take (l.length - A)):=by
    unfold Hid
    rw [ap_pr,← HA.out.1,List.take_of_length_le (by rw [List.length_drop];exact Nat.le_refl _)]
   have HGF:Hid (GI w (.slice a0 l.length c0) (.slice a1 l.length c1) (.slice a2 nb c2) na9 nt9 ((apE l 0 es).map Prod.fst) ((apE l 0 es).map Prod.snd) w21):=by
    unfold Hid
    rw [HAP.out,List.map_append,List.map_append,List.map_take,List.map_take,List.map_drop,List.map_drop]
    exact HG200.out
   clear HG200
   obtain ⟨n1,a1',c1',hv1⟩:∃ n1 a1' c1',na9=.slice a1' n1 c1':=(let ⟨a,b,c⟩:=HGF.out.oa.form;⟨_,a,b,c⟩)
   obtain ⟨n2,a2',c2',hv2⟩:∃ n2 a2' c2',nt9=.slice a2' n2 c2':=(let ⟨a,b,c⟩:=HGF.out.ot.form;⟨_,a,b,c⟩)
   subst hv1 hv2
   have hfa:∀ a ∈ (apE l 0 es).map Prod.fst,Cx.fits enc a=true:=by
    rw [HAP.out,List.map_append]
    intro a ha
    rcases List.mem_append.1 ha with h | h
    ·rcases pr_mem l es 0 a h with h1 | h1
     ·obtain ⟨q,hq,rfl⟩:=List.mem_map.1 h1
      exact HFI.out q hq
     ·exact HA.out.2.2 a h1
    ·obtain ⟨q,hq,rfl⟩:=List.mem_map.1 h
     exact HFI.out q (List.mem_of_mem_drop (List.mem_of_mem_take hq))
   have hla:((apE l 0 es).map Prod.fst).length≤1073741824:=by
    have:=HPL0.out
    rw [HAP.out]
    simp only [List.length_map,List.length_append,List.length_take,List.length_drop]
    omega
   have EN:=hidIt (encode_fit enc HEN.out (.slice a1' n1 c1') ((apE l 0 es).map Prod.fst) w21 HGF.out.oa.rd hfa hla)
   have HLB:Hid (((Cx.encB enc ((apE l 0 es).map Prod.fst)).length:Int)=ln enc ((apE l 0 es).map Prod.fst)):=rfl
   have nc:w21.cell? ⟨w.heap.size + 2,0,none⟩=some (.slice a1' n1 c1'):=by rw [cell_of_row w21 _ _ _ _ _ HGF.out.nb];rfl
   obtain ⟨LB,hLB⟩:∃ LB,LB=(Cx.encB enc ((apE l 0 es).map Prod.fst)).length:=⟨_,rfl⟩
   rw [← hLB] at HLB
   have HLL:=hidIt hLB
   clear hfa hla hLB
   go_upto_region 22 with (go_at_call 20;refine EN.out.mono ?_;clear nc;rintro e w22 ⟨xb,rfl,hox,hb22⟩;obtain ⟨ab,nbx,cb,hxb,hnbx⟩:∃ ab nbx cb,xb=.slice ab nbx cb∧LB=nbx:=(by rw [HLL.out];rcases hox.2 with ⟨e1,e2⟩ | ⟨g,cap,cur,e1,_⟩;exact ⟨none,0,0,e1,e2⟩;exact ⟨_,_,cap,e1,rfl⟩);subst hxb hnbx;have HOX:=hidIt hox;have HB22:=hidIt hb22;clear hox hb22;(try dsimp only))
   have HG22:=hidIt (HGF.out.ext HB22.out)
   by_cases hok:(LB:Int)≤lim
   ·have hch:chA enc lim l es=0:=(good_ch enc lim l es h7).2 ⟨HA.out.2.1,HA.out.2.2,by rw [← HLB.out];exact hok⟩
    have hok':¬ lim < (LB:Int):=by omega
    have z21:w.heap.size + 2 < w21.heap.size:=(Array.getElem?_eq_some_iff.1 HGF.out.nb).1
    have FIN:=hidIt (HG22.out.finish (base:=base) (enc:=enc) (lim:=lim) hbase (.slice ab LB cb) (Rd.of_own HOX.out) (fun b o n c e=>by
     rcases HOX.out.2 with ⟨e1,_⟩ | ⟨g,cap,cur,e1,hg,_⟩
     ·rw [e] at e1;simp at e1
     ·rw [e] at e1
      simp only [Value.slice.injEq,Option.some.injEq,Addr.mk.injEq] at e1
      have:=e1.1.1
      omega) hch)
    have n2:w22.cell? ⟨w.heap.size + 2,2,none⟩=some (.slice none 0 0):=by rw [cell_of_row w22 _ _ _ _ _ HG22.out.nb];rfl
    have nf:∀ i,w22.frozen? ⟨w.heap.size + 2,i,none⟩=false:=fun i=>by simp [World.frozen?,HG22.out.nb]
    clear hch
    go_upto_region 25 with fail
    generalize hwy:World.setCell w22 _ _=y at *
    obtain ⟨⟨g0,g1,g2,gf,g3,g4,g5⟩,_⟩:=FIN.out y _ rfl rfl
    clear n2 nf
    go_wp2_with fail
    generalize hwz:World.setCell (World.setCell (World.setCell y _ _) _ _) _ _=z at *
    obtain ⟨_,r0,hF⟩:=FIN.out y z rfl hwz.symm
    exact bodyPost_ret (v:=.tuple #[.agg #[.slice a1' n1 c1',.slice a2' n2 c2',.slice ab LB cb],.bool true]) (by simp [results,Tryz.results38,go_sem,r0]) rfl hF
   ·have hok':lim < (LB:Int):=by omega
    have hch:chA enc lim l es≠0:=fun hc=>by have:=((good_ch enc lim l es h7).1 hc).2.2;rw [← HLB.out] at this;omega
    have FIN:=hidIt (HG22.out.refuse (lim:=lim) (es:=es) HSS.out hch)
    have s0:w22.cell? ⟨w.heap.size,0,none⟩=some (.slice a0 l.length c0)∧w22.cell? ⟨w.heap.size,1,none⟩=some (.slice a1 l.length c1)∧w22.cell? ⟨w.heap.size,2,none⟩=some (.slice a2 nb c2):=by refine ⟨?_,?_,?_⟩ <;> (rw [cell_of_row w22 _ _ _ _ _ HG22.out.sb];rfl)
    have q0:w22.cell? ⟨w.heap.size + 1,0,none⟩=some (.slice none 0 0)∧w22.cell? ⟨w.heap.size + 1,1,none⟩=some (.slice none 0 0)∧w22.cell? ⟨w.heap.size + 1,2,none⟩=some (.slice none 0 0):=by refine ⟨?_,?_,?_⟩ <;> (rw [cell_of_row w22 _ _ _ _ _ HG22.out.rb];rfl)
    have qf:∀ i,w22.frozen? ⟨w.heap.size + 1,i,none⟩=false:=fun i=>by simp [World.frozen?,HG22.out.rb]
    clear hch
    go_wp2_with fail
    generalize hwz:World.setCell (World.setCell (World.setCell w22 _ _) _ _) _ _=z at *
    obtain ⟨r0,hF⟩:=FIN.out z rfl
    exact bodyPost_ret (v:=.tuple #[.agg #[.slice a0 l.length c0,.slice a1 l.length c1,.slice a2 nb c2],.bool false]) (by simp [results,Tryz.results38,go_sem,r0]) rfl hF
end Go.Proofs.YtdkpkncolpapoaaGreat.P
