import Derived.Test.YtjomfbegghgbdaaGreatJ00
import Derived.Test.YtjomfbegghgbdaaGreatJ10
import Derived.Test.YtjomfbegghgbdaaGreatJ18
namespace Go.Proofs.YtjomfbegghgbdaaGreat.P
open Go.RowKit
theorem encode_fit (enc:Int) (he:Cx.En enc) (v:Value) (l:List Int) (w:World) (h:Rd .i64 w v l) (hf:∀ a ∈ l,Cx.fits enc a=true) (hz:l.length≤1073741824) :
  Calls Tryz.prog 119 #[.int .i64 enc,v] w fun e w'=>∃ v',e=.returned (.tuple #[v',.int .i64 0,.int .i64 0])∧w'.ownsRow w.heap.size 5 1 v' (Cx.encB enc l).length ((Cx.encB enc l).map (Value.int .u8))∧Below w.heap.size w w':=by
 have hk:Cx.known enc=true:=by rcases he with rfl | rfl | rfl | rfl <;> rfl
 have e:=Cx.encR_all enc l hk (fun j hj=>hf _ (by rw [List.getElem?_eq_getElem hj];exact List.getElem_mem hj))
 have hz':l.length * 8 + 320≤140737488355328:=by omega
 rcases he with rfl | rfl | rfl | rfl
 ·have:=Encode_1 v l w h hz';rw [e] at this;exact this
 ·have:=Encode_2 v l w h hz';rw [e] at this;exact this
 ·have:=Encode_3 v l w h hz';rw [e] at this;exact this
 ·have:=Encode_4 v l w h hz';rw [e] at this;exact this
theorem own_u8 {w:World} {base:Nat} {v:Value} {zs:List Int} (h:w.ownsRow base 5 1 v zs.length (zs.map (Value.int .u8))) (hn:zs≠[]):∃ b c,v=.slice (some ⟨b,0,none⟩) zs.length c∧base≤b∧RwU w b 0 zs:=by
 rcases h.2 with ⟨_,e⟩ | ⟨b,cap,cur,hv,hb,hg,h3,h4,h5,h6⟩
 ·exact absurd (List.length_eq_zero_iff.1 e) hn
 ·exact ⟨b,cap,hv,hb,cur,hg,by rw [Nat.mul_one] at h6;rw [List.drop_zero];exact h6⟩
theorem mks_get (enc:Int) (b o:Nat):∀ (gs:List (List Int)) (pl j:Nat) (g:List Int),gs[j]?=some g→(mks enc b o pl gs)[j]?.getD It.zero=mkx enc b o (pl + ln enc (gs.take j).flatten) g:=by
 intro gs
 induction gs with
 | nil=>intro pl j g h;simp at h
 | cons h gs ih =>
   intro pl j g hj
   cases j with
   | zero=>simp only [List.getElem?_cons_zero,Option.some.injEq] at hj;subst hj;rfl
   | succ j =>
     rw [List.getElem?_cons_succ] at hj
     rw [mks,List.getElem?_cons_succ,ih _ j g hj,List.take_succ_cons,List.flatten_cons,ln_app,Nat.add_assoc]
set_option maxRecDepth 100000 in
set_option maxHeartbeats 4000000 in
theorem put_any (enc:Int) (he:Cx.En enc) (L:List Int) (hL:Byt L) (hLl:L.length≤1073741824) (g bo:Nat) (lv vo vm va:Value) (os ms:List PG) (al:List Int) (w:World) (hW:Wr enc L g bo w lv vo vm os ms) (hA:Rd .i64 w va al) (hf:∀ a ∈ al,Cx.fits enc a=true) (hl:ln enc (asOf ms) + ln enc al≤1073741824) :
  Calls Tryz.prog 95 #[.pointer (some ⟨g,0,none⟩),va] w fun e w'=>KpR enc L g bo w lv vm (sh enc ms ++ al.map fun a=>(a,-1)) (sh enc os) e w':=by
 have hal:=ln_ge enc al
 have EN:=hidIt (encode_fit enc he va al w hA hf (by omega))
 have HW:=hidIt hW
 have HEN:=hidIt he
 have HLB:=hidIt hL
 have HFI:=hidIt hf
 have HVA:=hidIt hA
 have CT:Hid (∀ w1 v1 bb,Below w.heap.size w w1→w1.ownsRow w.heap.size 5 1 v1 (Cx.encB enc al).length ((Cx.encB enc al).map (Value.int .u8))→(al≠[]→∃ c,v1=.slice (some ⟨bb,0,none⟩) (Cx.encB enc al).length c)→Calls Tryz.prog 78 #[.int .i64 enc,va,v1] w1 fun e w'=>∃ v gs,e=.returned v∧Hid (gs.flatten=al∧(∀ g ∈ gs,Gr enc g)∧OwnR w' w1.heap.size 113 v (mks enc bb 0 0 gs))∧Below w1.heap.size w1 w'):=fun w1 v1 bb hb ho hv =>
  cut_any enc he va v1 al bb 0 w1 (hA.ext hb) hf (Rd.of_own ho) (fun hn p n c e=>by obtain ⟨c',e'⟩:=hv hn;rw [e'] at e;cases e;rfl) (by omega)
 have hgl:=hW.lt
 obtain ⟨⟨cg,_⟩,_⟩:=hW.cells
 obtain ⟨ap,ac,rfl,_⟩:=hA
 clear hW he hL hf
 go_enter Tryz.func95,Tryz.ntmps95
 go_upto_region 1 with (go_at_call 119;refine EN.out.mono ?_;clear cg;rintro e w1 ⟨v1,rfl,ho1,hb1⟩;have HO1:=hidIt ho1;have HB1:=hidIt hb1;clear ho1 hb1;(try dsimp only))
 have cg:=(HW.out.ext HB1.out).cells.1.1
 obtain ⟨bb,HBB⟩:∃ bb,Hid (al≠[]→(∃ c,v1=.slice (some ⟨bb,0,none⟩) (Cx.encB enc al).length c)∧w.heap.size≤bb∧RwU w1 bb 0 (Cx.encB enc al)):=by
  by_cases hn:al=[]
  ·exact ⟨0,fun h=>absurd hn h⟩
  ·obtain ⟨b,c,h1,h2,h3⟩:=own_u8 HO1.out (fun e=>hn (by have:=congrArg List.length e;have h4:=ln_ge enc al;rw [List.length_nil] at this;unfold ln at h4;exact List.length_eq_zero_iff.1 (by omega)))
   exact ⟨b,fun _=>⟨⟨c,h1⟩,h2,h3⟩⟩
 have CT1:=hidIt (CT.out w1 v1 bb HB1.out HO1.out (fun h=>(HBB.out h).1))
 clear CT EN
 go_upto_block 0 with (go_at_call 78;refine CT1.out.mono ?_;clear cg;rintro e w2 ⟨v2,gs,rfl,HG,hb2⟩;have HB2:=hidIt hb2;clear hb2;obtain ⟨ap2,cp2,hv2⟩:=HG.out.2.2.form1;rw [mks_len] at hv2;subst hv2;(try dsimp only))
 clear CT1
 have hgsl:gs.length≤1073741824:=by
  have h1:∀ gs:List (List Int),(∀ g ∈ gs,Gr enc g)→gs.length≤gs.flatten.length:=by
   intro gs
   induction gs with
   | nil=>intro _;exact Nat.le_refl _
   | cons q gs ih =>
     intro k
     have:=(k q List.mem_cons_self).pos
     have:=ih fun x hx=>k x (List.mem_cons_of_mem _ hx)
     rw [List.flatten_cons,List.length_append,List.length_cons]
     omega
  have:=h1 gs HG.out.2.1
  rw [HG.out.1] at this
  omega
 have HW2:=hidIt ((HW.out.ext HB1.out).ext HB2.out)
 have hz2:w.heap.size≤w2.heap.size:=Nat.le_trans HB1.out.size HB2.out.size
 have HNO:Hid (∀ k,w.heap.size≤k→¬ ow g bo vm k):=fun k hk e=>by have:=HW.out.own_lt e;omega
 go_wp2_with fail
 go_loopg [27] gs.length (fun gk p wr=>∃ j:Nat,j + gk=gs.length∧p=.int .i64 (j:Nat)∧Hid (∃ vm1 ms1,Wr enc L g bo wr lv vo vm1 os ms1∧sh enc ms1=sh enc ms ++ (gs.take j).flatten.map (fun a=>(a,-1))∧Kps (ow g bo vm) w2 wr∧Nwr vm vm1 w2))
 case atStart=>exact ⟨0,by omega,rfl,vm,ms,HW2.out,by simp,Kps.refl _ _,.inl rfl⟩
 case round =>
  obtain ⟨j,hj,rfl,HI⟩:=hrel
  obtain ⟨vm1,ms1,HW3,hs3,hk3,hn3⟩:=HI.out
  by_cases hi':j < gs.length
  ·have hi2:(j:Int) < (gs.length:Int):=by omega
   obtain ⟨gj,hgj⟩:∃ gj,gs[j]?=some gj:=⟨_,List.getElem?_eq_getElem hi'⟩
   have hgm:gj ∈ gs:=List.mem_of_getElem? hgj
   have hGr:=HG.out.2.1 gj hgm
   have hne:al≠[]:=fun e=>by
    have e1:=HG.out.1
    rw [e] at e1
    exact hGr.ne (List.flatten_eq_nil_iff.1 e1 gj hgm)
   obtain ⟨_,hbb,hrw⟩:=HBB.out hne
   obtain ⟨kp,cq,hvq,hkp,hkl,hq1,hq2,hrow⟩:=HG.out.2.2.row (by rw [mks_len];omega)
   simp only [Value.slice.injEq] at hvq
   obtain ⟨hap,hx1,hcp⟩:=hvq
   subst hap
   subst hcp
   clear hx1
   have hkn:¬ ow g bo vm kp:=HNO.out kp (Nat.le_trans HB1.out.size hkp)
   have hrow':=hrow.same (hk3.same kp hkl hkn)
   have cl:=hrow'.cell j (by rw [mks_len];exact hi')
   rw [mks_get enc bb 0 gs 0 j gj hgj,Nat.zero_add,Nat.zero_add] at cl
   -- the bytes of the piece
   have e1:al=(gs.take j).flatten ++ (gj ++ (gs.drop (j + 1)).flatten):=by
    have e2:gs=gs.take j ++ gj :: gs.drop (j + 1):=by
     rw [List.getElem?_eq_getElem hi',Option.some.injEq] at hgj
     rw [← hgj,← List.drop_eq_getElem_cons hi',List.take_append_drop]
    conv=>lhs;rw [← HG.out.1,e2,List.flatten_append,List.flatten_cons]
   have e3:((Cx.encB enc al).drop (ln enc (gs.take j).flatten)).take (ln enc gj)=Cx.encB enc gj:=by
    rw [e1,Cx.encB_app,List.drop_left' (show (Cx.encB enc (gs.take j).flatten).length=ln enc (gs.take j).flatten from rfl),Cx.encB_app,List.take_left' (show (Cx.encB enc gj).length=ln enc gj from rfl)]
   have e4:ln enc al=ln enc (gs.take j).flatten + (ln enc gj + ln enc (gs.drop (j + 1)).flatten):=by rw [← ln_app,← ln_app,← e1]
   have hrb:=((hrw.ext HB2.out).same (hk3.same bb (hrw.ext HB2.out).lt (HNO.out bb hbb))).part (ln enc (gs.take j).flatten) (ln enc gj) (by show _≤ln enc al;omega)
   rw [e3,Nat.zero_add] at hrb
   have CP:Hid (∀ W,Below wr.heap.size wr W→Calls Tryz.prog 76 #[.slice (some ⟨bb,ln enc (gs.take j).flatten,none⟩) (ln enc gj) (ln enc gj)] W fun e W'=>e=.returned (.slice (some ⟨W.heap.size,0,none⟩) (ln enc gj) (ln enc gj))∧RwU W' W.heap.size 0 (Cx.encB enc gj)∧Below W.heap.size W W'):=fun W hb=>by
    exact (copyOf_any _ _ W ((hrb.ext hb).rd (ln enc gj) (Nat.le_refl _) (by omega)) (by show ln enc gj≤_;omega)).mono fun e W' ⟨h1,h2,h3⟩=>⟨h1,RwU.of h2,h3⟩
   have et:asOf ms1=asOf ms ++ (gs.take j).flatten:=by
    have:=congrArg (List.map Prod.fst) hs3
    rw [sh_fst,List.map_append,sh_fst,List.map_map] at this
    rw [this]
    congr 1
    exact List.map_id _
   have AD:Hid (∀ W b,Below wr.heap.size wr W→RwU W b 0 (Cx.encB enc gj)→Calls Tryz.prog 96 #[.pointer (some ⟨g,0,none⟩),.agg #[.slice (some ⟨b,0,none⟩) (ln enc gj) (ln enc gj),.int .i64 (-1),.int .i64 (spn enc gj).a,.int .i64 (spn enc gj).s,.int .i64 (spn enc gj).b,.bool (spn enc gj).lf,.bool (spn enc gj).cr]] W fun e W'=>∃ v vm2 ms2,e=.returned v∧Wr enc L g bo W' lv vo vm2 os ms2∧sh enc ms2=sh enc ms1 ++ ctn enc (-1) gj∧Kps (ow g bo vm1) W W'∧Nwr vm1 vm2 W):=fun W b hb hr=>by
    refine (add_any enc HEN.out L HLB.out hLl g bo lv vo vm1 ⟨some ⟨b,0,none⟩,ln enc gj,ln enc gj,-1,spn enc gj,spn_ok enc gj⟩ gj os ms1 W (HW3.ext hb) ⟨hGr,⟨b,0,rfl,hr⟩,rfl,rfl,rfl,.inl rfl⟩ (by rw [et,ln_app];omega)).mono fun e W' h=>?_
    obtain ⟨v,vm2,ms2,h1,h2,h3,_,h5,h6⟩:=h
    exact ⟨v,vm2,ms2,h1,h2,h3,h5,h6⟩
   have HNX:Hid (sh enc ms1 ++ ctn enc (-1) gj=sh enc ms ++ (gs.take (j + 1)).flatten.map (fun a=>(a,-1))):=by
    unfold Hid
    rw [hs3,ctn_new,List.append_assoc,← List.map_append,List.take_add_one,hgj,Option.toList_some,List.flatten_append]
    simp
   have HK:=hidIt (show Kps (ow g bo vm) w2 wr∧Nwr vm vm1 w2 from ⟨hk3,hn3⟩)
   have HOL:=hidIt (show ∀ k,ow g bo vm1 k→k < wr.heap.size from fun k=>HW3.own_lt)
   clear HI HW3 hs3 hk3 hn3 hrb hrow hrow' e1 e3 hrw et hGr
   simp only [mkx,Nat.zero_add] at cl
   obtain ⟨wb,hwb,kb,hbb2⟩:∃ wb,wb=wr.alloc (.cells #[.slice (some ⟨bb,ln enc (gs.take j).flatten,none⟩) (ln enc gj) (ln enc gj),.int .i64 (ln enc (gs.take j).flatten:Nat),.int .i64 (spn enc gj).a,.int .i64 (spn enc gj).s,.int .i64 (spn enc gj).b,.bool (spn enc gj).lf,.bool (spn enc gj).cr] 113)∧BlkI wb wr.heap.size (⟨some ⟨bb,ln enc (gs.take j).flatten,none⟩,ln enc gj,ln enc gj,(ln enc (gs.take j).flatten:Nat),spn enc gj,spn_ok enc gj⟩:It)∧Below wr.heap.size wr wb:=⟨_,rfl,heap_alloc_new _ _,ext_alloc (Below.refl _ _) _⟩
   have HBb:=hidIt hbb2
   have HKB:=hidIt kb
   have HP:Hid (∀ W,Below wb.heap.size wb W→(W.cell? ⟨wr.heap.size,0,none⟩=some (.slice (some ⟨bb,ln enc (gs.take j).flatten,none⟩) (ln enc gj) (ln enc gj))∧W.cell? ⟨wr.heap.size,1,none⟩=some (.int .i64 (ln enc (gs.take j).flatten:Nat))∧W.cell? ⟨wr.heap.size,2,none⟩=some (.int .i64 (spn enc gj).a)∧W.cell? ⟨wr.heap.size,3,none⟩=some (.int .i64 (spn enc gj).s)∧W.cell? ⟨wr.heap.size,4,none⟩=some (.int .i64 (spn enc gj).b)∧W.cell? ⟨wr.heap.size,5,none⟩=some (.bool (spn enc gj).lf)∧W.cell? ⟨wr.heap.size,6,none⟩=some (.bool (spn enc gj).cr))):=fun W hb=>(HKB.out.ext hb).cells.1
   have sgb:wr.heap.size≤wb.heap.size:=hbb2.size
   have hsl:ln enc (gs.take j).flatten≤1073741824∧ln enc gj≤1073741824:=by omega
   clear kb hbb2 e4
   generalize ln enc (gs.take j).flatten=st at *
   generalize ln enc gj=sn at *
   go_upto_region 4 with fail
   rw [← hwb]
   clear hwb cl
   have d0:=HP.out wb (Below.refl _ _)
   refine wp_region_held_drew (S:=fun w''=>(w''.cell? ⟨wr.heap.size,0,none⟩=some (.slice (some ⟨bb,st,none⟩) sn sn)∧w''.cell? ⟨wr.heap.size,1,none⟩=some (.int .i64 (st:Nat))∧w''.cell? ⟨wr.heap.size,2,none⟩=some (.int .i64 (spn enc gj).a)∧w''.cell? ⟨wr.heap.size,3,none⟩=some (.int .i64 (spn enc gj).s)∧w''.cell? ⟨wr.heap.size,4,none⟩=some (.int .i64 (spn enc gj).b)∧w''.cell? ⟨wr.heap.size,5,none⟩=some (.bool (spn enc gj).lf)∧w''.cell? ⟨wr.heap.size,6,none⟩=some (.bool (spn enc gj).cr))) (by kernel_rfl) (d0) (fun hHeld=>?_)
   refine tkH 0 rfl ?_
   try simp only [Act.put,tS]
   refine tkH 1 rfl ?_
   try simp only [Act.put,tS]
   refine tkH 2 rfl ?_
   try simp only [Act.put,tS]
   refine tkH 4 rfl ?_
   try simp only [Act.put,tS]
   refine tkH 5 rfl ?_
   try simp only [Act.put,tS]
   refine rdH 3 rfl fun K hK=>?_
   go_simp
   refine (CP.out _ (HBb.out.drew)).mono ?_;clear d0;rintro e v1 ⟨rfl,hr1,hb⟩;have HBc:Hid (Below wb.heap.size wb v1):=ext_trans (Below.drew (Below.refl _ _)) hb;have HR1:=hidIt hr1;clear hb hr1;have d0:=HP.out v1 HBc.out;try dsimp only
   refine hK.out _ _ ?_ (fun hHeld=>?_)
   ·(try simp only [World.cell?_drew]);exact d0
   clear hK K
   try simp only [Act.put,tS]
   refine tkH 6 rfl ?_
   try simp only [Act.put,tS]
   refine rdH 7 rfl fun K hK=>?_
   go_simp
   refine (AD.out v1 _ (ext_trans HBb.out HBc.out) HR1.out).mono ?_;clear d0;rintro e v2 ⟨v,vm2,ms2,rfl,hW4,hs4,hk4,hn4⟩;have d2:=(HKB.out.ext HBc.out |>.same9 (hk4.same wr.heap.size (HKB.out.ext HBc.out).lt (fun e=>Nat.lt_irrefl _ (HOL.out _ e)))).cells.1;have HE4:Hid (∃ vm2 ms2,Wr enc L g bo v2 lv vo vm2 os ms2∧sh enc ms2=sh enc ms1 ++ ctn enc (-1) gj∧Kps (ow g bo vm1) wr v2∧Nwr vm1 vm2 wr):=⟨vm2,ms2,hW4,hs4,(Kps.of_below _ (ext_trans HBb.out HBc.out)).trans hk4 (fun _ _ e=>e),hn4.imp id (fun ⟨k,e1,e2⟩=>⟨k,e1,Nat.le_trans (ext_trans HBb.out HBc.out).size e2⟩)⟩;clear hW4 hs4 hk4 hn4;try dsimp only
   refine hK.out _ _ ?_ (fun hHeld=>?_)
   ·exact d2
   clear hK K
   try simp only [Act.put,tS]
   refine wpAnyH_done (by kernel_rfl) ?_ _
   go_wp2_with fail
   go_roundg (gs.length - (j + 1))
   case rel =>
    obtain ⟨vm2,ms2,q1,q2,q3,q4⟩:=HE4.out
    refine ⟨j + 1,by omega,by go_num,vm2,ms2,?_,by rw [q2,HNX.out],?_,HK.out.2.trans q4 HK.out.1.size⟩
    ·first | exact q1 | exact q1.ext (Below.drew (Below.refl _ _))
    ·first | exact HK.out.1.trans q3 HK.out.2.ow | exact (HK.out.1.trans q3 HK.out.2.ow).trans (Kps.of_below _ (Below.drew (Below.refl _ _))) fun _ _ e=>e
   case measure=>omega
  ·have hi2:¬ (j:Int) < (gs.length:Int):=by omega
   obtain rfl:j=gs.length:=by omega
   rw [List.take_length,HG.out.1] at hs3
   have HF:=hidIt (show KpR enc L g bo w lv vm (sh enc ms ++ al.map fun a=>(a,-1)) (sh enc os) (.returned (.tuple #[])) wr from ⟨_,vo,vm1,os,ms1,rfl,HW3,hs3,rfl,(Kps.of_below _ (ext_trans HB1.out HB2.out)).trans hk3 fun _ _ e=>e,hn3.imp id fun ⟨k,e1,e2⟩=>⟨k,e1,Nat.le_trans hz2 e2⟩⟩)
   clear HI HW3 hs3 hk3 hn3
   go_wp2_with fail
   exact bodyPost_ret (v:=.tuple #[]) (by simp [results,Tryz.results95,go_sem]) rfl HF.out
end Go.Proofs.YtjomfbegghgbdaaGreat.P

namespace Go.Proofs.YtjomfbegghgbdaaGreat.P
open Go.RowKit
structure Tx (enc lim:Int) (L:List Int) (w:World) (t:Nat) (ps:List PG):Prop where
 ex:∃ lv u,w.heap[t]?=some (.cells #[.int .i64 enc,.int .i64 lim,lv,.pointer u] 107 (0,0))∧LdR w lv L∧TT w (.agg #[.pointer u]) (xsOf ps)
 pc:Pcs enc L w ps
 en:Cx.En enc
 by':Byt L
 ll:L.length≤65536
 l0:0≤lim
 lm:lim≤65536
 sz:ln enc (asOf ps)≤65536
theorem Tx.ext {enc lim:Int} {L:List Int} {w w':World} {t:Nat} {ps:List PG} (h:Tx enc lim L w t ps) (hb:Below w.heap.size w w'):Tx enc lim L w' t ps:=by
 obtain ⟨lv,u,h1,h2,h3⟩:=h.ex
 exact ⟨⟨lv,u,(hb.block t (Array.getElem?_eq_some_iff.1 h1).1).trans h1,h2.ext hb,h3.ext hb⟩,h.pc.ext hb,h.en,h.by',h.ll,h.l0,h.lm,h.sz⟩
theorem Tx.cells {enc lim:Int} {L:List Int} {w:World} {t:Nat} {ps:List PG} (h:Tx enc lim L w t ps):∃ lv u,(w.cell? ⟨t,0,none⟩=some (.int .i64 enc)∧w.cell? ⟨t,1,none⟩=some (.int .i64 lim)∧w.cell? ⟨t,2,none⟩=some lv∧w.cell? ⟨t,3,none⟩=some (.pointer u))∧LdR w lv L∧TT w (.agg #[.pointer u]) (xsOf ps)∧t < w.heap.size:=by
 obtain ⟨lv,u,h1,h2,h3⟩:=h.ex
 refine ⟨lv,u,⟨?_,?_,?_,?_⟩,h2,h3,(Array.getElem?_eq_some_iff.1 h1).1⟩ <;> (rw [cell_of_row w t _ _ _ _ h1];rfl)
theorem field_size (a s b:Int) (f r:Bool) (w:World):(Instr.field 110 (.agg #[.int .i64 a,.int .i64 s,.int .i64 b,.bool f,.bool r]) 1).run Tryz.prog w=.ok (.int .i64 s) w:=by kernel_rfl
theorem Tx.sum {enc lim:Int} {L:List Int} {w:World} {t:Nat} {ps:List PG} (h:Tx enc lim L w t ps):(rA.su (xsOf ps)).a=(sh enc ps).length∧(rA.su (xsOf ps)).s=ln enc (asOf ps)∧(sh enc ps).length≤65536:=by
 rw [h.pc.su,sh_len]
 obtain ⟨k1,k2⟩:=spn_a enc (asOf ps) h.pc.fit
 have:=ln_ge enc (asOf ps)
 have:=h.sz
 exact ⟨k1,k2,by omega⟩
theorem Len_any (enc lim:Int) (L:List Int) (w:World) (t:Nat) (ps:List PG) (h:Tx enc lim L w t ps):Calls Tryz.prog 53 #[.pointer (some ⟨t,0,none⟩)] w fun e w'=>e=.returned (.int .i64 (sh enc ps).length)∧Below w.heap.size w w':=by
 obtain ⟨lv,u,⟨_,_,_,c3⟩,_,ht,_⟩:=h.cells
 have SM:=hidIt (Sum_any u (xsOf ps) w ht)
 have HS:=hidIt h.sum.1
 have FA:=field_atoms
 clear h ht
 go_enter Tryz.func53,Tryz.ntmps53
 go_wp2_with (go_at_call 66;refine SM.out.mono ?_;rintro e w1 ⟨s,HE,rfl,hb⟩;have HB:=hidIt hb;clear hb;(try dsimp only))
 go_ret
 exact ⟨ret_int (by rw [HE.out];exact HS.out),HB.out⟩
theorem ret_two {x y x' y':Int} (h1:x=x') (h2:y=y'):Ending.returned (.tuple #[.int .i64 x,.int .i64 y])=.returned (.tuple #[.int .i64 x',.int .i64 y']):=by rw [h1,h2]
def clp (n:Nat) (a b:Int):Nat × Nat:=if max a 0 ≥ min b n then (0,0) else ((max a 0).toNat,(min b n).toNat)
theorem clp_le (n:Nat) (a b:Int):(clp n a b).1≤(clp n a b).2∧(clp n a b).2≤n:=by
 unfold clp
 split
 ·exact ⟨Nat.le_refl _,Nat.zero_le _⟩
 ·simp only;omega
set_option maxRecDepth 100000 in
theorem clip_any (enc lim:Int) (L:List Int) (w:World) (t:Nat) (ps:List PG) (a b:Int) (h:Tx enc lim L w t ps):Calls Tryz.prog 55 #[.pointer (some ⟨t,0,none⟩),.int .i64 a,.int .i64 b] w fun e w'=>e=.returned (.tuple #[.int .i64 (clp (sh enc ps).length a b).1,.int .i64 (clp (sh enc ps).length a b).2])∧Below w.heap.size w w':=by
 have LN:=hidIt (Len_any enc lim L w t ps h)
 clear h
 generalize (sh enc ps).length=n at *
 obtain ⟨a',ha⟩:∃ a',a'=max a 0:=⟨_,rfl⟩
 obtain ⟨b',hb⟩:∃ b',b'=min b (n:Int):=⟨_,rfl⟩
 by_cases hc:a' ≥ b'
 ·have HC:Hid (clp n a b=(0,0)):=by unfold Hid clp;rw [if_pos (by rw [← ha,← hb];exact hc)]
  rw [HC.out]
  have HA:=hidIt ha
  have HB:=hidIt hb
  go_enter Tryz.func55,Tryz.ntmps55
  go_wp2_with (go_at_call 53;refine LN.out.mono ?_;rintro e w1 ⟨rfl,hb1⟩;have HB1:=hidIt hb1;clear hb1;(try dsimp only))
  all_goals
   go_ret2
   exact ⟨rfl,HB1.out⟩
 ·have HC:Hid (clp n a b=(a'.toNat,b'.toNat)):=by unfold Hid clp;rw [if_neg (by rw [← ha,← hb];exact hc),ha,hb]
  rw [HC.out]
  go_enter Tryz.func55,Tryz.ntmps55
  go_wp2_with (go_at_call 53;refine LN.out.mono ?_;rintro e w1 ⟨rfl,hb1⟩;have HB1:=hidIt hb1;clear hb1;(try dsimp only))
  all_goals
   go_ret2
   exact ⟨ret_two (by omega) (by omega),HB1.out⟩
end Go.Proofs.YtjomfbegghgbdaaGreat.P

namespace Go.Proofs.YtjomfbegghgbdaaGreat.P
open Go.RowKit
abbrev Ed:=Int × Int × List Int
def EdR (w:World) (v:Value) (es:List Ed):Prop :=
 ∃ ao cap,v=.slice ao es.length cap∧es.length≤cap∧cap≤9223372036854775807 ∧
   (es≠[]→∃ b off,ao=some ⟨b,off,none⟩∧b < w.heap.size∧∀ i e,es[i]?=some e→w.cell? ⟨b,off + i * 3,none⟩=some (.int .i64 e.1)∧w.cell? ⟨b,off + i * 3 + 1,none⟩=some (.int .i64 e.2.1)∧∃ pv,w.cell? ⟨b,off + i * 3 + 2,none⟩=some pv∧Rd .i64 w pv e.2.2)
theorem EdR.ext {w w':World} {v:Value} {es:List Ed} (h:EdR w v es) (hb:Below w.heap.size w w'):EdR w' v es:=by
 obtain ⟨ao,cap,h1,h2,h3,h4⟩:=h
 refine ⟨ao,cap,h1,h2,h3,fun hn=>?_⟩
 obtain ⟨b,o,k1,k2,k3⟩:=h4 hn
 refine ⟨b,o,k1,Nat.lt_of_lt_of_le k2 hb.size,fun i e he=>?_⟩
 obtain ⟨c0,c1,pv,c2,c3⟩:=k3 i e he
 exact ⟨(hb.cell (p:=⟨b,_,none⟩) k2).trans c0,(hb.cell (p:=⟨b,_,none⟩) k2).trans c1,pv,(hb.cell (p:=⟨b,_,none⟩) k2).trans c2,c3.ext hb⟩
def puts (es:List Ed):List Int:=es.flatMap fun e=>e.2.2
theorem puts_succ (es:List Ed) (j:Nat) (e:Ed) (h:es[j]?=some e):puts (es.take (j + 1))=puts (es.take j) ++ e.2.2:=by
 rw [List.take_add_one,h,Option.toList_some]
 simp [puts]
theorem puts_len (es:List Ed) (j:Nat) (e:Ed) (h:es[j]?=some e) (i:Nat):(puts (es.take j) ++ e.2.2.take i).length≤(puts es).length:=by
 have h1:puts es=puts (es.take (j + 1)) ++ puts (es.drop (j + 1)):=by
  unfold puts
  rw [← List.flatMap_append,List.take_append_drop]
 rw [h1,puts_succ es j e h,List.length_append,List.length_append,List.length_append,List.length_take]
 omega
theorem ln_tk (enc:Int) (es:List Ed) (j:Nat) (e:Ed) (h:es[j]?=some e) (i:Nat):ln enc (puts (es.take j)) + ln enc (e.2.2.take i)≤4 * (puts es).length:=by
 have:=ln_le enc (puts (es.take j) ++ e.2.2.take i)
 rw [ln_app] at this
 have:=puts_len es j e h i
 omega
def cpA (enc lim:Int) (es:List Ed):Int:=if ∀ a ∈ puts es,Cx.fits enc a=true then (if (ln enc (puts es):Int) > lim then 50 else 0) else 11
set_option maxRecDepth 100000 in
set_option maxHeartbeats 4000000 in
theorem checkPuts_any (enc lim:Int) (L:List Int) (w:World) (t:Nat) (ps:List PG) (v:Value) (es:List Ed) (h:Tx enc lim L w t ps) (hE:EdR w v es) (hl:(puts es).length≤2305843009213693951) :
  Calls Tryz.prog 91 #[.pointer (some ⟨t,0,none⟩),v] w fun e w'=>e=.returned (.int .i64 (cpA enc lim es))∧Below w.heap.size w w':=by
 have HT:=hidIt h
 have HC:Hid (∀ w',Below w.heap.size w w'→(w'.cell? ⟨t,0,none⟩=some (.int .i64 enc)∧w'.cell? ⟨t,1,none⟩=some (.int .i64 lim))):=fun w' hb=>by
  obtain ⟨lv,u,⟨c0,c1,_,_⟩,_⟩:=(h.ext hb).cells
  exact ⟨c0,c1⟩
 obtain ⟨ao,cap,rfl,h1,h2,h3⟩:=id hE
 have HE:Hid (∀ w',Below w.heap.size w w'→∀ j e,es[j]?=some e→∃ b off,ao=some ⟨b,off,none⟩∧w'.cell? ⟨b,off + j * 3,none⟩=some (.int .i64 e.1)∧w'.cell? ⟨b,off + j * 3 + 1,none⟩=some (.int .i64 e.2.1)∧∃ pv,w'.cell? ⟨b,off + j * 3 + 2,none⟩=some pv∧Rd .i64 w' pv e.2.2):=fun w' hb j e he=>by
  obtain ⟨ao',cap',e1,_,_,e4⟩:=hE.ext hb
  cases e1
  obtain ⟨b,o,k1,_,k3⟩:=e4 (by intro hn;subst hn;simp at he)
  obtain ⟨c0,c1,c2⟩:=k3 j e he
  exact ⟨b,o,k1,c0,c1,c2⟩
 clear h hE h3
 go_enter Tryz.func91,Tryz.ntmps91
 go_wp2_with fail
 go_loopg [5,13] es.length (fun gk tv p wr=>∃ j:Nat,j + gk=es.length∧p=.int .i64 (j:Nat)∧tv=.int .i64 (ln enc (puts (es.take j)):Nat)∧Hid (∀ a ∈ puts (es.take j),Cx.fits enc a=true)∧Hid (Below w.heap.size w wr))
 case atStart=>exact ⟨0,by omega,rfl,rfl,(fun a ha=>by simp [puts] at ha),Below.refl _ _⟩
 case round =>
  obtain ⟨j,hj,rfl,rfl,HF,HB⟩:=hrel
  by_cases hi':j < es.length
  ·have hi2:(j:Int) < (es.length:Int):=by omega
   obtain ⟨e,hej⟩:∃ e,es[j]?=some e:=⟨_,List.getElem?_eq_getElem hi'⟩
   obtain ⟨b,o,rfl,c0,c1,pv,c2,hpv⟩:=HE.out wr HB.out j e hej
   obtain ⟨pa,pc,rfl,hp1,hp2,hp3⟩:=id hpv
   have HPV:=hidIt hpv
   obtain ⟨ef,et,ep⟩:=e
   simp only at *
   have hpl:=puts_len es j (ef,et,ep) hej ep.length
   rw [List.length_append,List.take_length] at hpl
   have hlt:=ln_tk enc es j (ef,et,ep) hej
   have HPS:=hidIt (puts_succ es j (ef,et,ep) hej)
   simp only at hlt HPS hpl
   have HBA:Hid (Below w.heap.size w (wr.alloc (.cells #[.int .i64 ef,.int .i64 et,.slice pa ep.length pc] 64))):=ext_alloc HB.out _
   have HPV2:Hid (Rd .i64 (wr.alloc (.cells #[.int .i64 ef,.int .i64 et,.slice pa ep.length pc] 64)) (.slice pa ep.length pc) ep):=HPV.out.ext (ext_alloc (Below.refl _ _) _)
   clear hpv hp3 HPV
   go_upto_block 2 with fail
   generalize wr.alloc _=wb at *
   clear c0 c1 c2
   go_wp2_with fail
   go_loopg [5,20] ep.length (fun gk2 tv p wr2=>∃ i:Nat,i + gk2=ep.length∧p=.int .i64 (i:Nat)∧tv=.int .i64 ((ln enc (puts (es.take j)):Nat) + (ln enc (ep.take i):Nat):Int)∧Hid (∀ a ∈ ep.take i,Cx.fits enc a=true)∧Hid (Below wb.heap.size wb wr2))
   case atStart=>exact ⟨0,by omega,rfl,vi (by rw [List.take_zero,ln_nil];omega),(fun a ha=>by simp at ha),Below.refl _ _⟩
   case round =>
    obtain ⟨i,hii,rfl,rfl,HF2,HB2⟩:=hrel
    by_cases hi3:i < ep.length
    ·have hi4:(i:Int) < (ep.length:Int):=by omega
     obtain ⟨a,hai⟩:∃ a,ep[i]?=some a:=⟨_,List.getElem?_eq_getElem hi3⟩
     obtain ⟨pa',pc',e1,_,_,e4⟩:=HPV2.out.ext HB2.out
     simp only [Value.slice.injEq] at e1
     obtain ⟨e5,_,_⟩:=e1
     subst e5
     obtain ⟨b2,o2,e6,_,e8⟩:=e4 (by intro hn;subst hn;simp at hi3)
     subst e6
     have ca:=e8 i hi3
     rw [hai,Option.getD_some] at ca
     have HBT:=hidIt (HBA.out.trans (HB2.out.mono HBA.out.size))
     obtain ⟨t0,t1⟩:=HC.out wr HBT.out
     have SZ:=hidIt (Go.Proofs.YtjomfbegghgbdaaGreat.Size_any enc a wr)
     have et2:ep.take (i + 1)=ep.take i ++ [a]:=by rw [List.take_add_one,hai];rfl
     have hb1:=hlt (i + 1)
     rw [et2,ln_app] at hb1
     have HT2:=hidIt et2
     clear et2 e4 e8
     by_cases hfa:Cx.fits enc a=true
     ·have hsz:Cx.size enc a=(ln enc [a]:Nat):=by rw [ln_one];exact size_fit enc a hfa
      have hpos:0 < ln enc [a]:=by rw [ln_one];exact (Cx.put_len enc a).1
      have HNX:=hidIt (show ln enc (ep.take (i + 1))=ln enc (ep.take i) + ln enc [a] by rw [HT2.out,ln_app])
      have HF3:=hidIt (show ∀ x ∈ ep.take (i + 1),Cx.fits enc x=true by
       rw [HT2.out]
       intro x hx
       rcases List.mem_append.1 hx with hx | hx
       ·exact HF2.out x hx
       ·rw [List.mem_singleton] at hx;subst hx;exact hfa)
      rw [hsz] at SZ
      have hz:((ln enc [a]:Nat):Int)≠0:=by omega
      have hzb:(((ln enc [a]:Nat):Int) == 0)=false:=by simp;omega
      clear hsz hai
      generalize ln enc [a]=sa at *
      generalize ln enc (puts (es.take j))=tj at *
      generalize ln enc (ep.take i)=ti at *
      go_wp2_with (go_at_call 112;refine SZ.out.mono ?_;clear ca t0 t1;rintro e w3 ⟨rfl,hb3⟩;have HB3:=hidIt (ext_trans HB2.out hb3);clear hb3;(try dsimp only))
      go_roundg (ep.length - (i + 1))
      case rel=>exact ⟨i + 1,by omega,by go_num,vi (by rw [HNX.out];omega),HF3.out,HB3.out⟩
      case measure=>omega
     ·have hfa':Cx.fits enc a=false:=by simpa using hfa
      have hsz:Cx.size enc a=0:=by unfold Cx.size;rw [hfa'];rfl
      have hm:a ∈ puts es:=by
       unfold puts
       rw [List.mem_flatMap]
       exact ⟨(ef,et,ep),List.mem_of_getElem? hej,List.mem_of_getElem? hai⟩
      have HAN:Hid (cpA enc lim es=11):=by
       unfold Hid cpA
       rw [if_neg (fun hall=>hfa (hall a hm))]
      rw [hsz] at SZ
      clear hsz hai
      generalize ln enc (puts (es.take j))=tj at *
      generalize ln enc (ep.take i)=ti at *
      go_wp2_with (go_at_call 112;refine SZ.out.mono ?_;clear ca t0 t1;rintro e w3 ⟨rfl,hb3⟩;have HB3:=hidIt (ext_trans HB2.out hb3);clear hb3;(try dsimp only))
      go_ret
      exact ⟨ret_int HAN.out.symm,HBA.out.trans (HB3.out.mono HBA.out.size)⟩
    ·have hi4:¬ (i:Int) < (ep.length:Int):=by omega
     obtain rfl:i=ep.length:=by omega
     rw [List.take_length] at HF2
     have HBT:=hidIt (HBA.out.trans (HB2.out.mono HBA.out.size))
     have HNX:=hidIt (show ln enc (puts (es.take (j + 1)))=ln enc (puts (es.take j)) + ln enc (ep.take ep.length) by rw [HPS.out,ln_app,List.take_length])
     have HF3:=hidIt (show ∀ x ∈ puts (es.take (j + 1)),Cx.fits enc x=true by
      rw [HPS.out]
      intro x hx
      exact (List.mem_append.1 hx).elim (HF.out x) (HF2.out x))
     have hb1:=hlt ep.length
     generalize ln enc (puts (es.take j))=tj at *
     generalize ln enc (ep.take ep.length)=ti at *
     go_wp2_with fail
     go_roundg (es.length - (j + 1))
     case rel=>exact ⟨j + 1,by omega,by go_num,vi (by rw [HNX.out];omega),HF3.out,HBT.out⟩
     case measure=>omega
  ·have hi2:¬ (j:Int) < (es.length:Int):=by omega
   obtain rfl:j=es.length:=by omega
   rw [List.take_length] at HF ⊢
   obtain ⟨t0,t1⟩:=HC.out wr HB.out
   have HAN:=hidIt (show cpA enc lim es=if (ln enc (puts es):Int) > lim then 50 else 0 by unfold cpA;rw [if_pos HF.out])
   generalize ln enc (puts es)=tj at *
   by_cases hg:(tj:Int) > lim
   ·rw [if_pos hg] at HAN
    have hg':lim < (tj:Int):=hg
    go_wp2_with fail
    go_ret
    exact ⟨ret_int HAN.out.symm,HB.out⟩
   ·rw [if_neg hg] at HAN
    have hg':¬ lim < (tj:Int):=hg
    go_wp2_with fail
    go_ret
    exact ⟨ret_int HAN.out.symm,HB.out⟩
end Go.Proofs.YtjomfbegghgbdaaGreat.P

namespace Go.Proofs.YtjomfbegghgbdaaGreat.P
open Go.RowKit
def rg (n:Int):Int→List Ed→Bool
 | _,[]=>true
 | least,e :: es=>decide (least≤e.1∧e.1≤e.2.1∧e.2.1≤n) && rg n e.2.1 es
def ckA (enc lim:Int) (n:Nat) (es:List Ed):Int:=if 70000 < es.length then 3 else if rg n 0 es=true then cpA enc lim es else 2
set_option maxRecDepth 100000 in
set_option maxHeartbeats 4000000 in
theorem check_any (enc lim:Int) (L:List Int) (w:World) (t:Nat) (ps:List PG) (v:Value) (es:List Ed) (h:Tx enc lim L w t ps) (hE:EdR w v es) (hl:es.length≤70000→(puts es).length≤2305843009213693951) :
  Calls Tryz.prog 64 #[.pointer (some ⟨t,0,none⟩),v] w fun e w'=>e=.returned (.int .i64 (ckA enc lim (sh enc ps).length es))∧Below w.heap.size w w':=by
 have LN:Hid (∀ w',Below w.heap.size w w'→Calls Tryz.prog 53 #[.pointer (some ⟨t,0,none⟩)] w' fun e w''=>e=.returned (.int .i64 (sh enc ps).length)∧Below w'.heap.size w' w''):=fun w' hb=>Len_any enc lim L w' t ps (h.ext hb)
 have CP:Hid (es.length≤70000→∀ w',Below w.heap.size w w'→Calls Tryz.prog 91 #[.pointer (some ⟨t,0,none⟩),v] w' fun e w''=>e=.returned (.int .i64 (cpA enc lim es))∧Below w'.heap.size w' w''):=fun h70 w' hb=>checkPuts_any enc lim L w' t ps v es (h.ext hb) (hE.ext hb) (hl h70)
 obtain ⟨ao,cap,rfl,h1,h2,h3⟩:=id hE
 have HE:Hid (∀ w',Below w.heap.size w w'→∀ j e,es[j]?=some e→∃ b off,ao=some ⟨b,off,none⟩∧w'.cell? ⟨b,off + j * 3,none⟩=some (.int .i64 e.1)∧w'.cell? ⟨b,off + j * 3 + 1,none⟩=some (.int .i64 e.2.1)∧∃ pv,w'.cell? ⟨b,off + j * 3 + 2,none⟩=some pv∧Rd .i64 w' pv e.2.2):=fun w' hb j e he=>by
  obtain ⟨ao',cap',e1,_,_,e4⟩:=hE.ext hb
  cases e1
  obtain ⟨b,o,k1,_,k3⟩:=e4 (by intro hn;subst hn;simp at he)
  obtain ⟨c0,c1,c2⟩:=k3 j e he
  exact ⟨b,o,k1,c0,c1,c2⟩
 clear h hE h3
 generalize (sh enc ps).length=n at *
 by_cases hbig:70000 < es.length
 ·have hb':(70000:Int) < (es.length:Int):=by omega
  have HA:=hidIt (show ckA enc lim n es=3 by unfold ckA;rw [if_pos hbig])
  go_enter Tryz.func64,Tryz.ntmps64
  go_wp2_with fail
  go_ret
  exact ⟨ret_int HA.out.symm,Below.refl _ _⟩
 have hb':¬ (70000:Int) < (es.length:Int):=by omega
 have HA:=hidIt (show ckA enc lim n es=if rg n 0 es=true then cpA enc lim es else 2 by unfold ckA;rw [if_neg hbig])
 go_enter Tryz.func64,Tryz.ntmps64
 go_wp2_with fail
 go_loopg [5,13] es.length (fun gk lv p wr=>∃ (j:Nat) (least:Int),j + gk=es.length∧p=.int .i64 (j:Nat)∧lv=.int .i64 least∧Hid (rg n 0 es=rg n least (es.drop j))∧Hid (Below w.heap.size w wr))
 case atStart=>exact ⟨0,0,by omega,rfl,rfl,by rw [List.drop_zero];rfl,Below.refl _ _⟩
 case round =>
  obtain ⟨j,least,hj,rfl,rfl,HR,HB⟩:=hrel
  by_cases hi':j < es.length
  ·have hi2:(j:Int) < (es.length:Int):=by omega
   obtain ⟨e,hej⟩:∃ e,es[j]?=some e:=⟨_,List.getElem?_eq_getElem hi'⟩
   obtain ⟨b,o,rfl,c0,c1,pv,c2,hpv⟩:=HE.out wr HB.out j e hej
   obtain ⟨pa,pc,rfl,hp1,hp2,hp3⟩:=id hpv
   have hdr:es.drop j=e :: es.drop (j + 1):=by
    rw [List.drop_eq_getElem_cons hi']
    rw [List.getElem?_eq_getElem hi',Option.some.injEq] at hej
    rw [hej]
   obtain ⟨ef,et,ep⟩:=e
   simp only at *
   have HD:=hidIt hdr
   clear hpv hp3 hdr
   obtain ⟨wb,hwb,kb,hbb⟩:∃ wb,wb=wr.alloc (.cells #[.int .i64 ef,.int .i64 et,.slice pa ep.length pc] 64)∧wb.heap[wr.heap.size]?=some (.cells #[.int .i64 ef,.int .i64 et,.slice pa ep.length pc] 64 (0,0))∧Below wr.heap.size wr wb:=⟨_,rfl,heap_alloc_new _ _,ext_alloc (Below.refl _ _) _⟩
   have HP:Hid (∀ w',Below wb.heap.size wb w'→w'.cell? ⟨wr.heap.size,0,none⟩=some (.int .i64 ef)∧w'.cell? ⟨wr.heap.size,1,none⟩=some (.int .i64 et)):=fun w' hb=>by
    have hk:=(hb.block wr.heap.size (Array.getElem?_eq_some_iff.1 kb).1).trans kb
    exact ⟨by rw [cell_of_row w' _ _ _ _ _ hk];rfl,by rw [cell_of_row w' _ _ _ _ _ hk];rfl⟩
   have HBb:=hidIt (ext_trans HB.out hbb)
   clear kb hbb
   go_upto_region 7 with fail
   rw [← hwb]
   clear hwb c0 c1 c2
   obtain ⟨d0,d1⟩:=HP.out wb (Below.refl _ _)
   by_cases g1:ef < least
   ·have HAN:=hidIt (show ckA enc lim n es=2 by
     rw [HA.out,HR.out,HD.out,rg]
     simp only [Bool.and_eq_true,decide_eq_true_eq]
     rw [if_neg (by omega)])
    refine wp_region_held_drew (S:=fun w'=>w'.cell? ⟨wr.heap.size,0,none⟩=some (.int .i64 ef)∧w'.cell? ⟨wr.heap.size,1,none⟩=some (.int .i64 et)) (by kernel_rfl) (⟨d0,d1⟩) (fun hHeld=>?_)
    refine tkH 0 rfl ?_
    try simp only [Act.put,tS]
    refine tkH 1 rfl ?_
    try simp only [Act.put,tS]
    refine tkH 2 rfl ?_
    try simp only [Act.put,tS]
    refine tkH 3 rfl ?_
    try simp only [Act.put,tS]
    refine tkH 4 rfl ?_
    try simp only [Act.put,tS]
    refine wpAnyH_take (i:=5) (oi:=_) (v:=undef) rfl (by kernel_rfl) (by kernel_rfl) (by kernel_rfl) (fun _ _ _ h=>h) (Or.inr ⟨by rfl,rfl⟩) (by assumption) ?_
    try simp only [Act.put,tS]
    refine wpAnyH_take (i:=6) (oi:=_) (v:=undef) rfl (by kernel_rfl) (by kernel_rfl) (by kernel_rfl) (fun _ _ _ h=>h) (Or.inr ⟨by rfl,rfl⟩) (by assumption) ?_
    try simp only [Act.put,tS]
    refine wpAnyH_take (i:=7) (oi:=_) (v:=undef) rfl (by kernel_rfl) (by kernel_rfl) (by kernel_rfl) (fun _ _ _ h=>h) (Or.inr ⟨by rfl,rfl⟩) (by assumption) ?_
    try simp only [Act.put,tS]
    refine wpAnyH_take (i:=8) (oi:=_) (v:=undef) rfl (by kernel_rfl) (by kernel_rfl) (by kernel_rfl) (fun _ _ _ h=>h) (Or.inr ⟨by rfl,rfl⟩) (by assumption) ?_
    try simp only [Act.put,tS]
    refine wpAnyH_take (i:=9) (oi:=_) (v:=undef) rfl (by kernel_rfl) (by kernel_rfl) (by kernel_rfl) (fun _ _ _ h=>h) (Or.inr ⟨by rfl,rfl⟩) (by assumption) ?_
    try simp only [Act.put,tS]
    refine tkH 10 rfl ?_
    try simp only [Act.put,tS]
    refine tkH 11 rfl ?_
    try simp only [Act.put,tS]
    refine wpAnyH_take (i:=12) (oi:=_) (v:=undef) rfl (by kernel_rfl) (by kernel_rfl) (by kernel_rfl) (fun _ _ _ h=>h) (Or.inr ⟨by rfl,rfl⟩) (by assumption) ?_
    try simp only [Act.put,tS]
    refine wpAnyH_take (i:=13) (oi:=_) (v:=undef) rfl (by kernel_rfl) (by kernel_rfl) (by kernel_rfl) (fun _ _ _ h=>h) (Or.inr ⟨by rfl,rfl⟩) (by assumption) ?_
    try simp only [Act.put,tS]
    refine wpAnyH_take (i:=14) (oi:=_) (v:=undef) rfl (by kernel_rfl) (by kernel_rfl) (by kernel_rfl) (fun _ _ _ h=>h) (Or.inr ⟨by rfl,rfl⟩) (by assumption) ?_
    try simp only [Act.put,tS]
    refine rdH 15 rfl fun K hK=>?_
    go_simp
    refine hK.out _ _ ?_ (fun hHeld=>?_)
    ·(try simp only [World.cell?_drew]);exact ⟨d0,d1⟩
    clear hK K
    try simp only [Act.put,tS]
    refine wpAnyH_take (i:=16) (oi:=_) (v:=undef) rfl (by kernel_rfl) (by kernel_rfl) (by kernel_rfl) (fun _ _ _ h=>h) (Or.inr ⟨by rfl,rfl⟩) (by assumption) ?_
    try simp only [Act.put,tS]
    refine tkH 17 rfl ?_
    try simp only [Act.put,tS]
    refine wpAnyH_done (by kernel_rfl) ?_ _
    go_wp2_with fail
    go_ret
    exact ⟨ret_int HAN.out.symm,by first | exact HBb.out.drew | exact HBb.out⟩
   by_cases g2:et < ef
   ·have HAN:=hidIt (show ckA enc lim n es=2 by
     rw [HA.out,HR.out,HD.out,rg]
     simp only [Bool.and_eq_true,decide_eq_true_eq]
     rw [if_neg (by omega)])
    refine wp_region_held_drew (S:=fun w'=>w'.cell? ⟨wr.heap.size,0,none⟩=some (.int .i64 ef)∧w'.cell? ⟨wr.heap.size,1,none⟩=some (.int .i64 et)) (by kernel_rfl) (⟨d0,d1⟩) (fun hHeld=>?_)
    refine tkH 0 rfl ?_
    try simp only [Act.put,tS]
    refine tkH 1 rfl ?_
    try simp only [Act.put,tS]
    refine tkH 2 rfl ?_
    try simp only [Act.put,tS]
    refine tkH 3 rfl ?_
    try simp only [Act.put,tS]
    refine tkH 4 rfl ?_
    try simp only [Act.put,tS]
    refine tkH 5 rfl ?_
    try simp only [Act.put,tS]
    refine tkH 6 rfl ?_
    try simp only [Act.put,tS]
    refine tkH 7 rfl ?_
    try simp only [Act.put,tS]
    refine tkH 8 rfl ?_
    try simp only [Act.put,tS]
    refine tkH 9 rfl ?_
    try simp only [Act.put,tS]
    refine tkH 10 rfl ?_
    try simp only [Act.put,tS]
    refine tkH 11 rfl ?_
    try simp only [Act.put,tS]
    refine wpAnyH_take (i:=12) (oi:=_) (v:=undef) rfl (by kernel_rfl) (by kernel_rfl) (by kernel_rfl) (fun _ _ _ h=>h) (Or.inr ⟨by rfl,rfl⟩) (by assumption) ?_
    try simp only [Act.put,tS]
    refine wpAnyH_take (i:=13) (oi:=_) (v:=undef) rfl (by kernel_rfl) (by kernel_rfl) (by kernel_rfl) (fun _ _ _ h=>h) (Or.inr ⟨by rfl,rfl⟩) (by assumption) ?_
    try simp only [Act.put,tS]
    refine wpAnyH_take (i:=14) (oi:=_) (v:=undef) rfl (by kernel_rfl) (by kernel_rfl) (by kernel_rfl) (fun _ _ _ h=>h) (Or.inr ⟨by rfl,rfl⟩) (by assumption) ?_
    try simp only [Act.put,tS]
    refine rdH 15 rfl fun K hK=>?_
    go_simp
    refine hK.out _ _ ?_ (fun hHeld=>?_)
    ·(try simp only [World.cell?_drew]);exact ⟨d0,d1⟩
    clear hK K
    try simp only [Act.put,tS]
    refine wpAnyH_take (i:=16) (oi:=_) (v:=undef) rfl (by kernel_rfl) (by kernel_rfl) (by kernel_rfl) (fun _ _ _ h=>h) (Or.inr ⟨by rfl,rfl⟩) (by assumption) ?_
    try simp only [Act.put,tS]
    refine tkH 17 rfl ?_
    try simp only [Act.put,tS]
    refine wpAnyH_done (by kernel_rfl) ?_ _
    go_wp2_with fail
    go_ret
    exact ⟨ret_int HAN.out.symm,by first | exact HBb.out.drew | exact HBb.out⟩
   by_cases g3:(n:Int) < et
   ·have HAN:=hidIt (show ckA enc lim n es=2 by
     rw [HA.out,HR.out,HD.out,rg]
     simp only [Bool.and_eq_true,decide_eq_true_eq]
     rw [if_neg (by omega)])
    refine wp_region_held_drew (S:=fun w'=>w'.cell? ⟨wr.heap.size,0,none⟩=some (.int .i64 ef)∧w'.cell? ⟨wr.heap.size,1,none⟩=some (.int .i64 et)) (by kernel_rfl) (⟨d0,d1⟩) (fun hHeld=>?_)
    refine tkH 0 rfl ?_
    try simp only [Act.put,tS]
    refine tkH 1 rfl ?_
    try simp only [Act.put,tS]
    refine tkH 2 rfl ?_
    try simp only [Act.put,tS]
    refine tkH 3 rfl ?_
    try simp only [Act.put,tS]
    refine tkH 4 rfl ?_
    try simp only [Act.put,tS]
    refine tkH 5 rfl ?_
    try simp only [Act.put,tS]
    refine tkH 6 rfl ?_
    try simp only [Act.put,tS]
    refine tkH 7 rfl ?_
    try simp only [Act.put,tS]
    refine tkH 8 rfl ?_
    try simp only [Act.put,tS]
    refine tkH 9 rfl ?_
    try simp only [Act.put,tS]
    refine tkH 10 rfl ?_
    try simp only [Act.put,tS]
    refine tkH 11 rfl ?_
    try simp only [Act.put,tS]
    refine tkH 12 rfl ?_
    try simp only [Act.put,tS]
    refine tkH 13 rfl ?_
    try simp only [Act.put,tS]
    refine tkH 14 rfl ?_
    try simp only [Act.put,tS]
    refine rdH 15 rfl fun K hK=>?_
    go_simp
    refine (LN.out _ HBb.out.drew).mono ?_;clear d0 d1;rintro e w3 ⟨rfl,hb3⟩;have HB3:=hidIt (ext_trans (Below.drew (Below.refl wb.heap.size wb)) hb3);clear hb3;obtain ⟨d0,d1⟩:=HP.out w3 HB3.out;try dsimp only
    refine hK.out _ _ ?_ (fun hHeld=>?_)
    ·(try simp only [World.cell?_drew]);exact ⟨d0,d1⟩
    clear hK K
    try simp only [Act.put,tS]
    refine tkH 16 rfl ?_
    try simp only [Act.put,tS]
    refine tkH 17 rfl ?_
    try simp only [Act.put,tS]
    refine wpAnyH_done (by kernel_rfl) ?_ _
    go_wp2_with fail
    go_ret
    exact ⟨ret_int HAN.out.symm,HBb.out.trans (HB3.out.mono HBb.out.size)⟩
   ·have HNX:=hidIt (show rg n 0 es=rg n et (es.drop (j + 1)) by
     rw [HR.out,HD.out,rg]
     simp only
     rw [decide_eq_true (show least≤ef∧ef≤et∧et≤n by omega),Bool.true_and])
    refine wp_region_held_drew (S:=fun w'=>w'.cell? ⟨wr.heap.size,0,none⟩=some (.int .i64 ef)∧w'.cell? ⟨wr.heap.size,1,none⟩=some (.int .i64 et)) (by kernel_rfl) (⟨d0,d1⟩) (fun hHeld=>?_)
    refine tkH 0 rfl ?_
    try simp only [Act.put,tS]
    refine tkH 1 rfl ?_
    try simp only [Act.put,tS]
    refine tkH 2 rfl ?_
    try simp only [Act.put,tS]
    refine tkH 3 rfl ?_
    try simp only [Act.put,tS]
    refine tkH 4 rfl ?_
    try simp only [Act.put,tS]
    refine tkH 5 rfl ?_
    try simp only [Act.put,tS]
    refine tkH 6 rfl ?_
    try simp only [Act.put,tS]
    refine tkH 7 rfl ?_
    try simp only [Act.put,tS]
    refine tkH 8 rfl ?_
    try simp only [Act.put,tS]
    refine tkH 9 rfl ?_
    try simp only [Act.put,tS]
    refine tkH 10 rfl ?_
    try simp only [Act.put,tS]
    refine tkH 11 rfl ?_
    try simp only [Act.put,tS]
    refine tkH 12 rfl ?_
    try simp only [Act.put,tS]
    refine tkH 13 rfl ?_
    try simp only [Act.put,tS]
    refine tkH 14 rfl ?_
    try simp only [Act.put,tS]
    refine rdH 15 rfl fun K hK=>?_
    go_simp
    refine (LN.out _ HBb.out.drew).mono ?_;clear d0 d1;rintro e w3 ⟨rfl,hb3⟩;have HB3:=hidIt (ext_trans (Below.drew (Below.refl wb.heap.size wb)) hb3);clear hb3;obtain ⟨d0,d1⟩:=HP.out w3 HB3.out;try dsimp only
    refine hK.out _ _ ?_ (fun hHeld=>?_)
    ·(try simp only [World.cell?_drew]);exact ⟨d0,d1⟩
    clear hK K
    try simp only [Act.put,tS]
    refine tkH 16 rfl ?_
    try simp only [Act.put,tS]
    refine tkH 17 rfl ?_
    try simp only [Act.put,tS]
    refine wpAnyH_done (by kernel_rfl) ?_ _
    go_wp2_with fail
    go_roundg (es.length - (j + 1))
    case rel=>exact ⟨j + 1,et,by omega,by go_num,rfl,HNX.out,HBb.out.trans (HB3.out.mono HBb.out.size)⟩
    case measure=>omega
  ·have hi2:¬ (j:Int) < (es.length:Int):=by omega
   obtain rfl:j=es.length:=by omega
   have HAN:=hidIt (show ckA enc lim n es=cpA enc lim es by rw [HA.out,HR.out,List.drop_length,rg];rfl)
   go_wp2_with (go_at_call 91;refine (CP.out (by omega) wr HB.out).mono ?_;rintro e w3 ⟨rfl,hb3⟩;have HB3:=hidIt (ext_trans HB.out hb3);clear hb3;(try dsimp only))
   go_ret
   exact ⟨ret_int HAN.out.symm,HB3.out⟩
end Go.Proofs.YtjomfbegghgbdaaGreat.P

namespace Go.Proofs.YtjomfbegghgbdaaGreat.P
open Go.RowKit
def apE (l:List (Int × Int)):Nat→List Ed→List (Int × Int)
 | p,[]=>l.drop p
 | p,e :: es=>(l.drop p).take (e.1.toNat - p) ++ (e.2.2.map fun a=>(a,-1)) ++ apE l e.2.1.toNat es
theorem rg_cons {n least:Int} {e:Ed} {es:List Ed}:rg n least (e :: es)=true ↔ (least≤e.1∧e.1≤e.2.1∧e.2.1≤n)∧rg n e.2.1 es=true:=by rw [rg,Bool.and_eq_true,decide_eq_true_eq]
theorem rg_mono {n a b:Int} (h:a≤b) {es:List Ed} (hr:rg n b es=true):rg n a es=true:=by
 cases es with
 | nil=>rfl
 | cons e es =>
   rw [rg_cons] at hr ⊢
   exact ⟨⟨by omega,hr.1.2⟩,hr.2⟩
theorem rg_tail {n:Int} {es2:List Ed}:∀ (es1:List Ed) (a:Int),rg n a (es1 ++ es2)=true→rg n a es2=true:=by
 intro es1
 induction es1 with
 | nil=>intro a h;exact h
 | cons e es1 ih =>
   intro a h
   rw [List.cons_append,rg_cons] at h
   exact rg_mono (by omega) (ih e.2.1 h.2)
theorem rg_left {n:Int} {es2:List Ed}:∀ (es1:List Ed) (a:Int),rg n a (es1 ++ es2)=true→rg n a es1=true:=by
 intro es1
 induction es1 with
 | nil=>intro a h;rfl
 | cons e es1 ih =>
   intro a h
   rw [List.cons_append,rg_cons] at h
   rw [rg_cons]
   exact ⟨h.1,ih e.2.1 h.2⟩
theorem take_split (l:List (Int × Int)) (p f q:Nat) (h1:p≤f) (h2:f≤q):(l.drop p).take (q - p)=(l.drop p).take (f - p) ++ (l.drop f).take (q - f):=by
 rw [show q - p=(f - p) + (q - f) by omega,List.take_add,List.drop_drop,show p + (f - p)=f by omega]
theorem ap_head (l:List (Int × Int)) (es:List Ed) (p f:Nat) (h1:p≤f) (hr:rg l.length f es=true):apE l p es=(l.drop p).take (f - p) ++ apE l f es:=by
 cases es with
 | nil =>
   rw [apE,apE]
   conv=>lhs;rw [← List.take_append_drop (f - p) (l.drop p),List.drop_drop,show p + (f - p)=f by omega]
 | cons e es =>
   rw [rg_cons] at hr
   rw [apE,apE,take_split l p f e.1.toNat h1 (by omega)]
   simp only [List.append_assoc]
theorem ap_cut (l:List (Int × Int)) (es:List Ed) (f:Nat) (h2:f≤l.length) (hr:rg l.length f es=true):(apE l 0 es).drop f=apE l f es∧(apE l 0 es).take f=l.take f:=by
 have e:=ap_head l es 0 f (Nat.zero_le _) hr
 rw [List.drop_zero,Nat.sub_zero] at e
 have hl:(l.take f).length=f:=by rw [List.length_take];omega
 rw [e]
 exact ⟨List.drop_left' hl,List.take_left' hl⟩
theorem ap_two (l:List (Int × Int)) (es2:List Ed):∀ (es1:List Ed) (p:Nat),p≤l.length→rg l.length p (es1 ++ es2)=true→apE (apE l 0 es2) p es1=apE l p (es1 ++ es2):=by
 intro es1
 induction es1 with
 | nil=>intro p hp hr;rw [apE,List.nil_append];exact (ap_cut l es2 p hp hr).1
 | cons e es1 ih =>
   intro p hp hr
   rw [List.cons_append,rg_cons] at hr
   obtain ⟨⟨r1,r2,r3⟩,r4⟩:=hr
   rw [List.cons_append,apE,apE,ih e.2.1.toNat (by omega) (by rw [Int.toNat_of_nonneg (by omega)];exact r4)]
   congr 2
   have k:=ap_cut l es2 e.1.toNat (by omega) (by rw [Int.toNat_of_nonneg (by omega)];exact rg_mono r2 (rg_tail es1 _ r4))
   have k2:((apE l 0 es2).take e.1.toNat).drop p=(l.take e.1.toNat).drop p:=by rw [k.2]
   rw [List.drop_take,List.drop_take] at k2
   exact k2
theorem ap_app (l b:List (Int × Int)):∀ (es:List Ed) (p:Nat),p≤l.length→rg l.length p es=true→apE (l ++ b) p es=apE l p es ++ b:=by
 intro es
 induction es with
 | nil=>intro p hp _;rw [apE,apE,List.drop_append_of_le_length hp]
 | cons e es ih =>
   intro p hp hr
   rw [rg_cons] at hr
   obtain ⟨⟨r1,r2,r3⟩,r4⟩:=hr
   rw [apE,apE,ih e.2.1.toNat (by omega) (by rw [Int.toNat_of_nonneg (by omega)];exact r4),List.drop_append_of_le_length hp,List.take_append_of_le_length (by rw [List.length_drop];omega)]
   simp only [List.append_assoc]
theorem ap_mid (a m b:List (Int × Int)) (es:List Ed) (h:rg (a ++ m).length a.length es=true):apE (a ++ m ++ b) 0 es=a ++ apE (a ++ m) a.length es ++ b:=by
 have hm:rg (a ++ m).length ((0:Nat):Int) es=true:=rg_mono (by omega) h
 rw [ap_app (a ++ m) b es 0 (Nat.zero_le _) hm,ap_head (a ++ m) es 0 a.length (Nat.zero_le _) h,List.drop_zero,Nat.sub_zero,List.take_left' rfl]
theorem key_len {enc:Int} {L:List Int} {w:World} {ps:List PG} (h:Pcs enc L w ps) (k:Nat):rA.key (rA.add Rs.zero (rA.su ((xsOf ps).take k))) 0=(sh enc (ps.take k)).length:=by
 have h':Pcs enc L w (ps.take k):=fun q hq=>h q (List.mem_of_mem_take hq)
 have e:(xsOf ps).take k=xsOf (ps.take k):=by simp [xsOf,List.map_take]
 have z:rA.add Rs.zero (rA.su (xsOf (ps.take k)))=rA.su (xsOf (ps.take k)):=rA.zadd _ (rA.ok _)
 rw [e,z,h'.su,sh_len]
 show (spn enc (asOf (ps.take k))).a=_
 rw [(spn_a enc _ h'.fit).1]
theorem find_span {enc:Int} {L:List Int} {w:World} {ps:List PG} (h:Pcs enc L w ps) (f t:Nat) (hft:f≤t) (ht:t≤(sh enc ps).length) :
  (sh enc (ps.take (rA.fnd 0 f Rs.zero (xsOf ps) - 1))).length≤f∧t≤(sh enc (ps.take (min (rA.fnd 0 ((t:Int) + 1) Rs.zero (xsOf ps)) ps.length))).length∧rA.fnd 0 f Rs.zero (xsOf ps) - 1≤min (rA.fnd 0 ((t:Int) + 1) Rs.zero (xsOf ps)) ps.length:=by
 have l1:=rA.fnd_le 0 f (xsOf ps) Rs.zero
 have l2:=rA.fnd_le 0 ((t:Int) + 1) (xsOf ps) Rs.zero
 rw [xsOf_len] at l1 l2
 have a1:(sh enc (ps.take (rA.fnd 0 f Rs.zero (xsOf ps) - 1))).length≤f:=by
  by_cases h0:rA.fnd 0 f Rs.zero (xsOf ps)=0
  ·rw [h0];simp [sh]
  ·have:=rA.fnd_less 0 f (xsOf ps) Rs.zero (rA.fnd 0 f Rs.zero (xsOf ps) - 1) Rs.ok_zero (by omega)
   rw [key_len h] at this
   omega
 have a2:rA.fnd 0 ((t:Int) + 1) Rs.zero (xsOf ps)≤ps.length→t + 1≤(sh enc (ps.take (rA.fnd 0 ((t:Int) + 1) Rs.zero (xsOf ps)))).length:=fun hle=>by
  have:=rA.fnd_hit 0 ((t:Int) + 1) (xsOf ps) Rs.zero Rs.ok_zero (by rw [xsOf_len];exact hle)
  rw [key_len h] at this
  omega
 refine ⟨a1,?_,?_⟩
 ·by_cases hle:rA.fnd 0 ((t:Int) + 1) Rs.zero (xsOf ps)≤ps.length
  ·rw [Nat.min_eq_left hle]
   have:=a2 hle
   omega
  ·rw [Nat.min_eq_right (by omega),List.take_length]
   exact ht
 ·by_cases hle:rA.fnd 0 ((t:Int) + 1) Rs.zero (xsOf ps)≤ps.length
  ·rw [Nat.min_eq_left hle]
   by_cases hlt:rA.fnd 0 ((t:Int) + 1) Rs.zero (xsOf ps) < rA.fnd 0 f Rs.zero (xsOf ps)
   ·have k1:=rA.fnd_less 0 f (xsOf ps) Rs.zero _ Rs.ok_zero hlt
    rw [key_len h] at k1
    have k2:=a2 hle
    omega
   ·omega
  ·rw [Nat.min_eq_right (by omega)]
   omega
end Go.Proofs.YtjomfbegghgbdaaGreat.P
