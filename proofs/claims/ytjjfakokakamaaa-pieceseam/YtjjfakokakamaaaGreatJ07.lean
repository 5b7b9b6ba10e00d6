import Derived.Test.YtjjfakokakamaaaGreatJ06
import Derived.LaidEqlPtr
import Derived.RangeFuncCalls
import Derived.RangeFuncLeaves
import Derived.Shelf.Abstract
import Derived.WalkKit
import Derived.OwnWalkIn
import Derived.TacticsInMore
import Derived.LoopNIn
import Derived.LoopIn
namespace Go.Proofs.YtjjfakokakamaaaGreat.P
open Go.RowKit
theorem encode_fit (enc:Int) (he:Cx.En enc) (v:Value) (l:List Int) (w:World) (h:Rd .i64 w v l) (hf:∀ a ∈ l,Cx.fits enc a=true) (hz:l.length≤1073741824) :
  Calls Tryz.prog 20 #[.int .i64 enc,v] w fun e w'=>∃ v',e=.returned (.tuple #[v',.int .i64 0,.int .i64 0])∧w'.ownsRow w.heap.size 5 1 v' (Cx.encB enc l).length ((Cx.encB enc l).map (Value.int .u8))∧Below w.heap.size w w':=by
 have hk:Cx.known enc=true:=by rcases he with rfl | rfl | rfl | rfl <;> rfl
 have e:=Cx.encR_all enc l hk (fun j hj=>hf _ (by rw [List.getElem?_eq_getElem hj];exact List.getElem_mem hj))
 have hz':l.length * 8 + 320≤140737488355328:=by omega
 rcases he with rfl | rfl | rfl | rfl
 ·have:=Encode_1 v l w h hz';rw [e] at this;exact this
 ·have:=Encode_2 v l w h hz';rw [e] at this;exact this
 ·have:=Encode_3 v l w h hz';rw [e] at this;exact this
 ·have:=Encode_4 v l w h hz';rw [e] at this;exact this
theorem own_u8 {w:World} {base:Nat} {v:Value} {zs:List Int} (h:w.ownsRow base 5 1 v zs.length (zs.map (Value.int .u8))) (hn:zs≠[]):∃ b c,v=.slice (some ⟨b,0,none⟩) zs.length c∧base≤b∧RwU w b 0 zs:=by
 rcases h.2 with ⟨_,e⟩ | ⟨b,cap,cur,hv,hb,hg,h3,h4,h5,h6⟩
 ·exact absurd (List.length_eq_zero_iff.1 e) hn
 ·exact ⟨b,cap,hv,hb,cur,hg,by rw [Nat.mul_one] at h6;rw [List.drop_zero];exact h6⟩
theorem mks_get (enc:Int) (b o:Nat):∀ (gs:List (List Int)) (pl j:Nat) (g:List Int),gs[j]?=some g→(mks enc b o pl gs)[j]?.getD It.zero=mkx enc b o (pl + ln enc (gs.take j).flatten) g:=by
 intro gs
 induction gs with
 | nil=>intro pl j g h;simp at h
 | cons h gs ih =>
   intro pl j g hj
   cases j with
   | zero=>simp only [List.getElem?_cons_zero,Option.some.injEq] at hj;subst hj;rfl
   | succ j =>
     rw [List.getElem?_cons_succ] at hj
     rw [mks,List.getElem?_cons_succ,ih _ j g hj,List.take_succ_cons,List.flatten_cons,ln_app,Nat.add_assoc]
set_option maxRecDepth 100000 in
set_option maxHeartbeats 4000000 in
theorem put_any (enc:Int) (he:Cx.En enc) (L:List Int) (hL:Byt L) (hLl:L.length≤1073741824) (g bo:Nat) (lv vo vm va:Value) (os ms:List PG) (al:List Int) (w:World) (hW:Wr enc L g bo w lv vo vm os ms) (hA:Rd .i64 w va al) (hf:∀ a ∈ al,Cx.fits enc a=true) (hl:ln enc (asOf ms) + ln enc al≤1073741824) :
  Calls Tryz.prog 93 #[.pointer (some ⟨g,0,none⟩),va] w fun e w'=>KpR enc L g bo w lv vm (sh enc ms ++ al.map fun a=>(a,-1)) (sh enc os) e w':=by
 have hal:=ln_ge enc al
 have EN:=hidIt (encode_fit enc he va al w hA hf (by omega))
 have HW:=hidIt hW
 have HEN:=hidIt he
 have HLB:=hidIt hL
 have HFI:=hidIt hf
 have HVA:=hidIt hA
 have CT:Hid (∀ w1 v1 bb,Below w.heap.size w w1→w1.ownsRow w.heap.size 5 1 v1 (Cx.encB enc al).length ((Cx.encB enc al).map (Value.int .u8))→(al≠[]→∃ c,v1=.slice (some ⟨bb,0,none⟩) (Cx.encB enc al).length c)→Calls Tryz.prog 75 #[.int .i64 enc,va,v1] w1 fun e w'=>∃ v gs,e=.returned v∧Hid (gs.flatten=al∧(∀ g ∈ gs,Gr enc g)∧OwnR w' w1.heap.size 122 v (mks enc bb 0 0 gs))∧Below w1.heap.size w1 w'):=fun w1 v1 bb hb ho hv =>
  cut_any enc he va v1 al bb 0 w1 (hA.ext hb) hf (Rd.of_own ho) (fun hn p n c e=>by obtain ⟨c',e'⟩:=hv hn;rw [e'] at e;cases e;rfl) (by omega)
 have hgl:=hW.lt
 obtain ⟨⟨cg,_⟩,_⟩:=hW.cells
 obtain ⟨ap,ac,rfl,_⟩:=hA
 clear hW he hL hf
 go_enter Tryz.func93,Tryz.ntmps93
 go_upto_region 1 with (go_at_call 20;refine EN.out.mono ?_;clear cg;rintro e w1 ⟨v1,rfl,ho1,hb1⟩;have HO1:=hidIt ho1;have HB1:=hidIt hb1;clear ho1 hb1;(try dsimp only))
 have cg:=(HW.out.ext HB1.out).cells.1.1
 obtain ⟨bb,HBB⟩:∃ bb,Hid (al≠[]→(∃ c,v1=.slice (some ⟨bb,0,none⟩) (Cx.encB enc al).length c)∧w.heap.size≤bb∧RwU w1 bb 0 (Cx.encB enc al)):=by
  by_cases hn:al=[]
  ·exact ⟨0,fun h=>absurd hn h⟩
  ·obtain ⟨b,c,h1,h2,h3⟩:=own_u8 HO1.out (fun e=>hn (by have:=congrArg List.length e;have h4:=ln_ge enc al;rw [List.length_nil] at this;unfold ln at h4;exact List.length_eq_zero_iff.1 (by omega)))
   exact ⟨b,fun _=>⟨⟨c,h1⟩,h2,h3⟩⟩
 have CT1:=hidIt (CT.out w1 v1 bb HB1.out HO1.out (fun h=>(HBB.out h).1))
 clear CT EN
 go_upto_block 0 with (go_at_call 75;refine CT1.out.mono ?_;clear cg;rintro e w2 ⟨v2,gs,rfl,HG,hb2⟩;have HB2:=hidIt hb2;clear hb2;obtain ⟨ap2,cp2,hv2⟩:=HG.out.2.2.form1;rw [mks_len] at hv2;subst hv2;(try dsimp only))
 clear CT1
 have hgsl:gs.length≤1073741824:=by
  have h1:∀ gs:List (List Int),(∀ g ∈ gs,Gr enc g)→gs.length≤gs.flatten.length:=by
   intro gs
   induction gs with
   | nil=>intro _;exact Nat.le_refl _
   | cons q gs ih =>
     intro k
     have:=(k q List.mem_cons_self).pos
     have:=ih fun x hx=>k x (List.mem_cons_of_mem _ hx)
     rw [List.flatten_cons,List.length_append,List.length_cons]
     omega
  have:=h1 gs HG.out.2.1
  rw [HG.out.1] at this
  omega
 have HW2:=hidIt ((HW.out.ext HB1.out).ext HB2.out)
 have hz2:w.heap.size≤w2.heap.size:=Nat.le_trans HB1.out.size HB2.out.size
 have HNO:Hid (∀ k,w.heap.size≤k→¬ ow g bo vm k):=fun k hk e=>by have:=HW.out.own_lt e;omega
 go_wp2_with fail
 go_loopg [27] gs.length (fun gk p wr=>∃ j:Nat,j + gk=gs.length∧p=.int .i64 (j:Nat)∧Hid (∃ vm1 ms1,Wr enc L g bo wr lv vo vm1 os ms1∧sh enc ms1=sh enc ms ++ (gs.take j).flatten.map (fun a=>(a,-1))∧Kps (ow g bo vm) w2 wr∧Nwr vm vm1 w2))
 case atStart=>exact ⟨0,by omega,rfl,vm,ms,HW2.out,by simp,Kps.refl _ _,.inl rfl⟩
 case round =>
  obtain ⟨j,hj,rfl,HI⟩:=hrel
  obtain ⟨vm1,ms1,HW3,hs3,hk3,hn3⟩:=HI.out
  by_cases hi':j < gs.length
  ·have hi2:(j:Int) < (gs.length:Int):=by omega
   obtain ⟨gj,hgj⟩:∃ gj,gs[j]?=some gj:=⟨_,List.getElem?_eq_getElem hi'⟩
   have hgm:gj ∈ gs:=List.mem_of_getElem? hgj
   have hGr:=HG.out.2.1 gj hgm
   have hne:al≠[]:=fun e=>by
    have e1:=HG.out.1
    rw [e] at e1
    exact hGr.ne (List.flatten_eq_nil_iff.1 e1 gj hgm)
   obtain ⟨_,hbb,hrw⟩:=HBB.out hne
   obtain ⟨kp,cq,hvq,hkp,hkl,hq1,hq2,hrow⟩:=HG.out.2.2.row (by rw [mks_len];omega)
   simp only [Value.slice.injEq] at hvq
   obtain ⟨hap,hx1,hcp⟩:=hvq
   subst hap
   subst hcp
   clear hx1
   have hkn:¬ ow g bo vm kp:=HNO.out kp (Nat.le_trans HB1.out.size hkp)
   have hrow':=hrow.same (hk3.same kp hkl hkn)
   have cl:=hrow'.cell j (by rw [mks_len];exact hi')
   rw [mks_get enc bb 0 gs 0 j gj hgj,Nat.zero_add,Nat.zero_add] at cl
   -- the bytes of the piece
   have e1:al=(gs.take j).flatten ++ (gj ++ (gs.drop (j + 1)).flatten):=by
    have e2:gs=gs.take j ++ gj :: gs.drop (j + 1):=by
     rw [List.getElem?_eq_getElem hi',Option.some.injEq] at hgj
     rw [← hgj,← List.drop_eq_getElem_cons hi',List.take_append_drop]
    conv=>lhs;rw [← HG.out.1,e2,List.flatten_append,List.flatten_cons]
   have e3:((Cx.encB enc al).drop (ln enc (gs.take j).flatten)).take (ln enc gj)=Cx.encB enc gj:=by
    rw [e1,Cx.encB_app,List.drop_left' (show (Cx.encB enc (gs.take j).flatten).length=ln enc (gs.take j).flatten from rfl),Cx.encB_app,List.take_left' (show (Cx.encB enc gj).length=ln enc gj from rfl)]
   have e4:ln enc al=ln enc (gs.take j).flatten + (ln enc gj + ln enc (gs.drop (j + 1)).flatten):=by rw [← ln_app,← ln_app,← e1]
   have hrb:=((hrw.ext HB2.out).same (hk3.same bb (hrw.ext HB2.out).lt (HNO.out bb hbb))).part (ln enc (gs.take j).flatten) (ln enc gj) (by show _≤ln enc al;omega)
   rw [e3,Nat.zero_add] at hrb
   have CP:Hid (∀ W,Below wr.heap.size wr W→Calls Tryz.prog 73 #[.slice (some ⟨bb,ln enc (gs.take j).flatten,none⟩) (ln enc gj) (ln enc gj)] W fun e W'=>e=.returned (.slice (some ⟨W.heap.size,0,none⟩) (ln enc gj) (ln enc gj))∧RwU W' W.heap.size 0 (Cx.encB enc gj)∧Below W.heap.size W W'):=fun W hb=>by
    exact (copyOf_any _ _ W ((hrb.ext hb).rd (ln enc gj) (Nat.le_refl _) (by omega)) (by show ln enc gj≤_;omega)).mono fun e W' ⟨h1,h2,h3⟩=>⟨h1,RwU.of h2,h3⟩
   have et:asOf ms1=asOf ms ++ (gs.take j).flatten:=by
    have:=congrArg (List.map Prod.fst) hs3
    rw [sh_fst,List.map_append,sh_fst,List.map_map] at this
    rw [this]
    congr 1
    exact List.map_id _
   have AD:Hid (∀ W b,Below wr.heap.size wr W→RwU W b 0 (Cx.encB enc gj)→Calls Tryz.prog 94 #[.pointer (some ⟨g,0,none⟩),.agg #[.slice (some ⟨b,0,none⟩) (ln enc gj) (ln enc gj),.int .i64 (-1),.int .i64 (spn enc gj).a,.int .i64 (spn enc gj).s,.int .i64 (spn enc gj).b,.bool (spn enc gj).lf,.bool (spn enc gj).cr]] W fun e W'=>∃ v vm2 ms2,e=.returned v∧Wr enc L g bo W' lv vo vm2 os ms2∧sh enc ms2=sh enc ms1 ++ ctn enc (-1) gj∧Kps (ow g bo vm1) W W'∧Nwr vm1 vm2 W):=fun W b hb hr=>by
    refine (add_any enc HEN.out L HLB.out hLl g bo lv vo vm1 ⟨some ⟨b,0,none⟩,ln enc gj,ln enc gj,-1,spn enc gj,spn_ok enc gj⟩ gj os ms1 W (HW3.ext hb) ⟨hGr,⟨b,0,rfl,hr⟩,rfl,rfl,rfl,.inl rfl⟩ (by rw [et,ln_app];omega)).mono fun e W' h=>?_
    obtain ⟨v,vm2,ms2,h1,h2,h3,_,h5,h6⟩:=h
    exact ⟨v,vm2,ms2,h1,h2,h3,h5,h6⟩
   have HNX:Hid (sh enc ms1 ++ ctn enc (-1) gj=sh enc ms ++ (gs.take (j + 1)).flatten.map (fun a=>(a,-1))):=by
    unfold Hid
    rw [hs3,ctn_new,List.append_assoc,← List.map_append,List.take_add_one,hgj,Option.toList_some,List.flatten_append]
    simp
   have HK:=hidIt (show Kps (ow g bo vm) w2 wr∧Nwr vm vm1 w2 from ⟨hk3,hn3⟩)
   have HOL:=hidIt (show ∀ k,ow g bo vm1 k→k < wr.heap.size from fun k=>HW3.own_lt)
   clear HI HW3 hs3 hk3 hn3 hrb hrow hrow' e1 e3 hrw et hGr
   simp only [mkx,Nat.zero_add] at cl
   obtain ⟨wb,hwb,kb,hbb2⟩:∃ wb,wb=wr.alloc (.cells #[.slice (some ⟨bb,ln enc (gs.take j).flatten,none⟩) (ln enc gj) (ln enc gj),.int .i64 (ln enc (gs.take j).flatten:Nat),.int .i64 (spn enc gj).a,.int .i64 (spn enc gj).s,.int .i64 (spn enc gj).b,.bool (spn enc gj).lf,.bool (spn enc gj).cr] 122)∧BlkI wb wr.heap.size (⟨some ⟨bb,ln enc (gs.take j).flatten,none⟩,ln enc gj,ln enc gj,(ln enc (gs.take j).flatten:Nat),spn enc gj,spn_ok enc gj⟩:It)∧Below wr.heap.size wr wb:=⟨_,rfl,heap_alloc_new _ _,ext_alloc (Below.refl _ _) _⟩
   have HBb:=hidIt hbb2
   have HKB:=hidIt kb
   have HP:Hid (∀ W,Below wb.heap.size wb W→(W.cell? ⟨wr.heap.size,0,none⟩=some (.slice (some ⟨bb,ln enc (gs.take j).flatten,none⟩) (ln enc gj) (ln enc gj))∧W.cell? ⟨wr.heap.size,1,none⟩=some (.int .i64 (ln enc (gs.take j).flatten:Nat))∧W.cell? ⟨wr.heap.size,2,none⟩=some (.int .i64 (spn enc gj).a)∧W.cell? ⟨wr.heap.size,3,none⟩=some (.int .i64 (spn enc gj).s)∧W.cell? ⟨wr.heap.size,4,none⟩=some (.int .i64 (spn enc gj).b)∧W.cell? ⟨wr.heap.size,5,none⟩=some (.bool (spn enc gj).lf)∧W.cell? ⟨wr.heap.size,6,none⟩=some (.bool (spn enc gj).cr))):=fun W hb=>(HKB.out.ext hb).cells.1
   have sgb:wr.heap.size≤wb.heap.size:=hbb2.size
   have hsl:ln enc (gs.take j).flatten≤1073741824∧ln enc gj≤1073741824:=by omega
   clear kb hbb2 e4
   generalize ln enc (gs.take j).flatten=st at *
   generalize ln enc gj=sn at *
   go_upto_region 4 with fail
   rw [← hwb]
   clear hwb cl
   have d0:=HP.out wb (Below.refl _ _)
   refine wp_region_held_drew (S:=fun w''=>(w''.cell? ⟨wr.heap.size,0,none⟩=some (.slice (some ⟨bb,st,none⟩) sn sn)∧w''.cell? ⟨wr.heap.size,1,none⟩=some (.int .i64 (st:Nat))∧w''.cell? ⟨wr.heap.size,2,none⟩=some (.int .i64 (spn enc gj).a)∧w''.cell? ⟨wr.heap.size,3,none⟩=some (.int .i64 (spn enc gj).s)∧w''.cell? ⟨wr.heap.size,4,none⟩=some (.int .i64 (spn enc gj).b)∧w''.cell? ⟨wr.heap.size,5,none⟩=some (.bool (spn enc gj).lf)∧w''.cell? ⟨wr.heap.size,6,none⟩=some (.bool (spn enc gj).cr))) (by kernel_rfl) (d0) (fun hHeld=>?_)
   refine tkH (v:=?_) 0 rfl ?_ ?_;rotate_left 1
   ·intro wq hSw;(try dsimp only at hSw);go_simp;try (with_reducible rfl)
   try simp only [Act.put,sA1,sA3,sA4,sA5,sA6]
   refine tkH (v:=?_) 1 rfl ?_ ?_;rotate_left 1
   ·intro wq hSw;(try dsimp only at hSw);go_simp;try (with_reducible rfl)
   try simp only [Act.put,sA1,sA2,sA3,sA4,sA5,sA6]
   refine tkH (v:=?_) 2 rfl ?_ ?_;rotate_left 1
   ·intro wq hSw;(try dsimp only at hSw);go_simp;try (with_reducible rfl)
   try simp only [Act.put,sA1,sA2,sA3,sA4,sA5,sA6]
   refine tkH (v:=?_) 4 rfl ?_ ?_;rotate_left 1
   ·intro wq hSw;(try dsimp only at hSw);go_simp;try (with_reducible rfl)
   try simp only [Act.put,sA1,sA2,sA3,sA4,sA5,sA6]
   refine tkH (v:=?_) 5 rfl ?_ ?_;rotate_left 1
   ·intro wq hSw;(try dsimp only at hSw);go_simp;try (with_reducible rfl)
   try simp only [Act.put,sA1,sA2,sA3,sA4,sA5,sA6]
   refine wpAnyH_ready (rs:=[3]) (by kernel_rfl) (by simp) ?_
   refine AllReadyH.cons (o:=_) rfl (fun K hK=>?_) AllReadyH.nil
   go_simp
   refine (CP.out _ (HBb.out.drew)).mono ?_;clear d0;rintro e v1 ⟨rfl,hr1,hb⟩;have HBc:Hid (Below wb.heap.size wb v1):=ext_trans (Below.drew (Below.refl _ _)) hb;have HR1:=hidIt hr1;clear hb hr1;have d0:=HP.out v1 HBc.out;try dsimp only
   refine hK.out _ _ ?_ (fun hHeld=>?_)
   ·(try simp only [World.cell?_drew]);exact d0
   clear hK K
   try simp only [Act.put,sA1,sA2,sA3,sA4,sA5,sA6]
   refine tkH (v:=?_) 6 rfl ?_ ?_;rotate_left 1
   ·intro wq hSw;(try dsimp only at hSw);go_simp;try (with_reducible rfl)
   try simp only [Act.put,sA1,sA2,sA3,sA4,sA5,sA6]
   refine wpAnyH_ready (rs:=[7]) (by kernel_rfl) (by simp) ?_
   refine AllReadyH.cons (o:=_) rfl (fun K hK=>?_) AllReadyH.nil
   go_simp
   refine (AD.out v1 _ (ext_trans HBb.out HBc.out) HR1.out).mono ?_;clear d0;rintro e v2 ⟨v,vm2,ms2,rfl,hW4,hs4,hk4,hn4⟩;have d2:=(HKB.out.ext HBc.out |>.same9 (hk4.same wr.heap.size (HKB.out.ext HBc.out).lt (fun e=>Nat.lt_irrefl _ (HOL.out _ e)))).cells.1;have HE4:Hid (∃ vm2 ms2,Wr enc L g bo v2 lv vo vm2 os ms2∧sh enc ms2=sh enc ms1 ++ ctn enc (-1) gj∧Kps (ow g bo vm1) wr v2∧Nwr vm1 vm2 wr):=⟨vm2,ms2,hW4,hs4,(Kps.of_below _ (ext_trans HBb.out HBc.out)).trans hk4 (fun _ _ e=>e),hn4.imp id (fun ⟨k,e1,e2⟩=>⟨k,e1,Nat.le_trans (ext_trans HBb.out HBc.out).size e2⟩)⟩;clear hW4 hs4 hk4 hn4;try dsimp only
   refine hK.out _ _ ?_ (fun hHeld=>?_)
   ·exact d2
   clear hK K
   try simp only [Act.put,sA1,sA2,sA3,sA4,sA5,sA6]
   refine wpAnyH_done (by kernel_rfl) ?_ _
   go_wp2_with fail
   go_roundg (gs.length - (j + 1))
   case rel =>
    obtain ⟨vm2,ms2,q1,q2,q3,q4⟩:=HE4.out
    refine ⟨j + 1,by omega,by go_num,vm2,ms2,?_,by rw [q2,HNX.out],?_,HK.out.2.trans q4 HK.out.1.size⟩
    ·first | exact q1 | exact q1.ext (Below.drew (Below.refl _ _))
    ·first | exact HK.out.1.trans q3 HK.out.2.ow | exact (HK.out.1.trans q3 HK.out.2.ow).trans (Kps.of_below _ (Below.drew (Below.refl _ _))) fun _ _ e=>e
   case measure=>omega
  ·have hi2:¬ (j:Int) < (gs.length:Int):=by omega
   obtain rfl:j=gs.length:=by omega
   rw [List.take_length,HG.out.1] at hs3
   have HF:=hidIt (show KpR enc L g bo w lv vm (sh enc ms ++ al.map fun a=>(a,-1)) (sh enc os) (.returned (.tuple #[])) wr from ⟨_,vo,vm1,os,ms1,rfl,HW3,hs3,rfl,(Kps.of_below _ (ext_trans HB1.out HB2.out)).trans hk3 fun _ _ e=>e,hn3.imp id fun ⟨k,e1,e2⟩=>⟨k,e1,Nat.le_trans hz2 e2⟩⟩)
   clear HI HW3 hs3 hk3 hn3
   go_wp2_with fail
   exact bodyPost_ret (v:=.tuple #[]) (by simp [results,Tryz.results93,go_sem]) rfl HF.out
end Go.Proofs.YtjjfakokakamaaaGreat.P

namespace Go.Proofs.YtjjfakokakamaaaGreat.P
open Go.RowKit
structure Tx (enc lim:Int) (L:List Int) (w:World) (t:Nat) (ps:List PG):Prop where
 ex:∃ lv u,w.heap[t]?=some (.cells #[.int .i64 enc,.int .i64 lim,lv,.pointer u] 116 (0,0))∧LdR w lv L∧TT w (.agg #[.pointer u]) (xsOf ps)
 pc:Pcs enc L w ps
 en:Cx.En enc
 by':Byt L
 ll:L.length≤65536
 l0:0≤lim
 lm:lim≤65536
 sz:ln enc (asOf ps)≤65536
theorem Tx.ext {enc lim:Int} {L:List Int} {w w':World} {t:Nat} {ps:List PG} (h:Tx enc lim L w t ps) (hb:Below w.heap.size w w'):Tx enc lim L w' t ps:=by
 obtain ⟨lv,u,h1,h2,h3⟩:=h.ex
 exact ⟨⟨lv,u,(hb.block t (Array.getElem?_eq_some_iff.1 h1).1).trans h1,h2.ext hb,h3.ext hb⟩,h.pc.ext hb,h.en,h.by',h.ll,h.l0,h.lm,h.sz⟩
theorem Tx.cells {enc lim:Int} {L:List Int} {w:World} {t:Nat} {ps:List PG} (h:Tx enc lim L w t ps):∃ lv u,(w.cell? ⟨t,0,none⟩=some (.int .i64 enc)∧w.cell? ⟨t,1,none⟩=some (.int .i64 lim)∧w.cell? ⟨t,2,none⟩=some lv∧w.cell? ⟨t,3,none⟩=some (.pointer u))∧LdR w lv L∧TT w (.agg #[.pointer u]) (xsOf ps)∧t < w.heap.size:=by
 obtain ⟨lv,u,h1,h2,h3⟩:=h.ex
 refine ⟨lv,u,⟨?_,?_,?_,?_⟩,h2,h3,(Array.getElem?_eq_some_iff.1 h1).1⟩ <;> (rw [cell_of_row w t _ _ _ _ h1];rfl)
theorem field_size (a s b:Int) (f r:Bool) (w:World):(Instr.field 119 (.agg #[.int .i64 a,.int .i64 s,.int .i64 b,.bool f,.bool r]) 1).run Tryz.prog w=.ok (.int .i64 s) w:=by kernel_rfl
theorem Tx.sum {enc lim:Int} {L:List Int} {w:World} {t:Nat} {ps:List PG} (h:Tx enc lim L w t ps):(rA.su (xsOf ps)).a=(sh enc ps).length∧(rA.su (xsOf ps)).s=ln enc (asOf ps)∧(sh enc ps).length≤65536:=by
 rw [h.pc.su,sh_len]
 obtain ⟨k1,k2⟩:=spn_a enc (asOf ps) h.pc.fit
 have:=ln_ge enc (asOf ps)
 have:=h.sz
 exact ⟨k1,k2,by omega⟩
theorem Len_any (enc lim:Int) (L:List Int) (w:World) (t:Nat) (ps:List PG) (h:Tx enc lim L w t ps):Calls Tryz.prog 34 #[.pointer (some ⟨t,0,none⟩)] w fun e w'=>e=.returned (.int .i64 (sh enc ps).length)∧Below w.heap.size w w':=by
 obtain ⟨lv,u,⟨_,_,_,c3⟩,_,ht,_⟩:=h.cells
 have SM:=hidIt (Sum_any u (xsOf ps) w ht)
 have HS:=hidIt h.sum.1
 have FA:=field_atoms
 clear h ht
 go_enter Tryz.func34,Tryz.ntmps34
 go_wp2_with (go_at_call 56;refine SM.out.mono ?_;rintro e w1 ⟨s,HE,rfl,hb⟩;have HB:=hidIt hb;clear hb;(try dsimp only))
 go_ret
 exact ⟨ret_int (by rw [HE.out];exact HS.out),HB.out⟩
theorem tSize_any (enc lim:Int) (L:List Int) (w:World) (t:Nat) (ps:List PG) (h:Tx enc lim L w t ps):Calls Tryz.prog 24 #[.pointer (some ⟨t,0,none⟩)] w fun e w'=>e=.returned (.int .i64 (ln enc (asOf ps)))∧Below w.heap.size w w':=by
 obtain ⟨lv,u,⟨_,_,_,c3⟩,_,ht,_⟩:=h.cells
 have SM:=hidIt (Sum_any u (xsOf ps) w ht)
 have HS:=hidIt h.sum.2.1
 have FA:=field_size
 clear h ht
 go_enter Tryz.func24,Tryz.ntmps24
 go_wp2_with (go_at_call 56;refine SM.out.mono ?_;rintro e w1 ⟨s,HE,rfl,hb⟩;have HB:=hidIt hb;clear hb;(try dsimp only))
 go_ret
 exact ⟨ret_int (by rw [HE.out];exact HS.out),HB.out⟩
theorem ret_two {x y x' y':Int} (h1:x=x') (h2:y=y'):Ending.returned (.tuple #[.int .i64 x,.int .i64 y])=.returned (.tuple #[.int .i64 x',.int .i64 y']):=by rw [h1,h2]
def clp (n:Nat) (a b:Int):Nat × Nat:=if max a 0 ≥ min b n then (0,0) else ((max a 0).toNat,(min b n).toNat)
theorem clp_le (n:Nat) (a b:Int):(clp n a b).1≤(clp n a b).2∧(clp n a b).2≤n:=by
 unfold clp
 split
 ·exact ⟨Nat.le_refl _,Nat.zero_le _⟩
 ·simp only;omega
set_option maxRecDepth 100000 in
theorem clip_any (enc lim:Int) (L:List Int) (w:World) (t:Nat) (ps:List PG) (a b:Int) (h:Tx enc lim L w t ps):Calls Tryz.prog 63 #[.pointer (some ⟨t,0,none⟩),.int .i64 a,.int .i64 b] w fun e w'=>e=.returned (.tuple #[.int .i64 (clp (sh enc ps).length a b).1,.int .i64 (clp (sh enc ps).length a b).2])∧Below w.heap.size w w':=by
 have LN:=hidIt (Len_any enc lim L w t ps h)
 clear h
 generalize (sh enc ps).length=n at *
 obtain ⟨a',ha⟩:∃ a',a'=max a 0:=⟨_,rfl⟩
 obtain ⟨b',hb⟩:∃ b',b'=min b (n:Int):=⟨_,rfl⟩
 by_cases hc:a' ≥ b'
 ·have HC:Hid (clp n a b=(0,0)):=by unfold Hid clp;rw [if_pos (by rw [← ha,← hb];exact hc)]
  rw [HC.out]
  have HA:=hidIt ha
  have HB:=hidIt hb
  go_enter Tryz.func63,Tryz.ntmps63
  go_wp2_with (go_at_call 34;refine LN.out.mono ?_;rintro e w1 ⟨rfl,hb1⟩;have HB1:=hidIt hb1;clear hb1;(try dsimp only))
  all_goals
   go_ret2
   exact ⟨rfl,HB1.out⟩
 ·have HC:Hid (clp n a b=(a'.toNat,b'.toNat)):=by unfold Hid clp;rw [if_neg (by rw [← ha,← hb];exact hc),ha,hb]
  rw [HC.out]
  go_enter Tryz.func63,Tryz.ntmps63
  go_wp2_with (go_at_call 34;refine LN.out.mono ?_;rintro e w1 ⟨rfl,hb1⟩;have HB1:=hidIt hb1;clear hb1;(try dsimp only))
  all_goals
   go_ret2
   exact ⟨ret_two (by omega) (by omega),HB1.out⟩
end Go.Proofs.YtjjfakokakamaaaGreat.P

namespace Go.Proofs.YtjjfakokakamaaaGreat.P
open Go.RowKit
abbrev Ed:=Int × Int × List Int
def EdR (w:World) (v:Value) (es:List Ed):Prop :=
 ∃ ao cap,v=.slice ao es.length cap∧es.length≤cap∧cap≤9223372036854775807 ∧
   (es≠[]→∃ b off,ao=some ⟨b,off,none⟩∧b < w.heap.size∧∀ i e,es[i]?=some e→w.cell? ⟨b,off + i * 3,none⟩=some (.int .i64 e.1)∧w.cell? ⟨b,off + i * 3 + 1,none⟩=some (.int .i64 e.2.1)∧∃ pv,w.cell? ⟨b,off + i * 3 + 2,none⟩=some pv∧Rd .i64 w pv e.2.2)
theorem EdR.ext {w w':World} {v:Value} {es:List Ed} (h:EdR w v es) (hb:Below w.heap.size w w'):EdR w' v es:=by
 obtain ⟨ao,cap,h1,h2,h3,h4⟩:=h
 refine ⟨ao,cap,h1,h2,h3,fun hn=>?_⟩
 obtain ⟨b,o,k1,k2,k3⟩:=h4 hn
 refine ⟨b,o,k1,Nat.lt_of_lt_of_le k2 hb.size,fun i e he=>?_⟩
 obtain ⟨c0,c1,pv,c2,c3⟩:=k3 i e he
 exact ⟨(hb.cell (p:=⟨b,_,none⟩) k2).trans c0,(hb.cell (p:=⟨b,_,none⟩) k2).trans c1,pv,(hb.cell (p:=⟨b,_,none⟩) k2).trans c2,c3.ext hb⟩
def puts (es:List Ed):List Int:=es.flatMap fun e=>e.2.2
theorem puts_succ (es:List Ed) (j:Nat) (e:Ed) (h:es[j]?=some e):puts (es.take (j + 1))=puts (es.take j) ++ e.2.2:=by
 rw [List.take_add_one,h,Option.toList_some]
 simp [puts]
theorem puts_len (es:List Ed) (j:Nat) (e:Ed) (h:es[j]?=some e) (i:Nat):(puts (es.take j) ++ e.2.2.take i).length≤(puts es).length:=by
 have h1:puts es=puts (es.take (j + 1)) ++ puts (es.drop (j + 1)):=by
  unfold puts
  rw [← List.flatMap_append,List.take_append_drop]
 rw [h1,puts_succ es j e h,List.length_append,List.length_append,List.length_append,List.length_take]
 omega
theorem ln_tk (enc:Int) (es:List Ed) (j:Nat) (e:Ed) (h:es[j]?=some e) (i:Nat):ln enc (puts (es.take j)) + ln enc (e.2.2.take i)≤4 * (puts es).length:=by
 have:=ln_le enc (puts (es.take j) ++ e.2.2.take i)
 rw [ln_app] at this
 have:=puts_len es j e h i
 omega
def cpA (enc lim:Int) (es:List Ed):Int:=if ∀ a ∈ puts es,Cx.fits enc a=true then (if (ln enc (puts es):Int) > lim then 50 else 0) else 11
set_option maxRecDepth 100000 in
set_option maxHeartbeats 4000000 in
theorem checkPuts_any (enc lim:Int) (L:List Int) (w:World) (t:Nat) (ps:List PG) (v:Value) (es:List Ed) (h:Tx enc lim L w t ps) (hE:EdR w v es) (hl:(puts es).length≤2305843009213693951) :
  Calls Tryz.prog 89 #[.pointer (some ⟨t,0,none⟩),v] w fun e w'=>e=.returned (.int .i64 (cpA enc lim es))∧Below w.heap.size w w':=by
 have HT:=hidIt h
 have HC:Hid (∀ w',Below w.heap.size w w'→(w'.cell? ⟨t,0,none⟩=some (.int .i64 enc)∧w'.cell? ⟨t,1,none⟩=some (.int .i64 lim))):=fun w' hb=>by
  obtain ⟨lv,u,⟨c0,c1,_,_⟩,_⟩:=(h.ext hb).cells
  exact ⟨c0,c1⟩
 obtain ⟨ao,cap,rfl,h1,h2,h3⟩:=id hE
 have HE:Hid (∀ w',Below w.heap.size w w'→∀ j e,es[j]?=some e→∃ b off,ao=some ⟨b,off,none⟩∧w'.cell? ⟨b,off + j * 3,none⟩=some (.int .i64 e.1)∧w'.cell? ⟨b,off + j * 3 + 1,none⟩=some (.int .i64 e.2.1)∧∃ pv,w'.cell? ⟨b,off + j * 3 + 2,none⟩=some pv∧Rd .i64 w' pv e.2.2):=fun w' hb j e he=>by
  obtain ⟨ao',cap',e1,_,_,e4⟩:=hE.ext hb
  cases e1
  obtain ⟨b,o,k1,_,k3⟩:=e4 (by intro hn;subst hn;simp at he)
  obtain ⟨c0,c1,c2⟩:=k3 j e he
  exact ⟨b,o,k1,c0,c1,c2⟩
 clear h hE h3
 go_enter Tryz.func89,Tryz.ntmps89
 go_wp2_with fail
 go_loopg [5,13] es.length (fun gk tv p wr=>∃ j:Nat,j + gk=es.length∧p=.int .i64 (j:Nat)∧tv=.int .i64 (ln enc (puts (es.take j)):Nat)∧Hid (∀ a ∈ puts (es.take j),Cx.fits enc a=true)∧Hid (Below w.heap.size w wr))
 case atStart=>exact ⟨0,by omega,rfl,rfl,(fun a ha=>by simp [puts] at ha),Below.refl _ _⟩
 case round =>
  obtain ⟨j,hj,rfl,rfl,HF,HB⟩:=hrel
  by_cases hi':j < es.length
  ·have hi2:(j:Int) < (es.length:Int):=by omega
   obtain ⟨e,hej⟩:∃ e,es[j]?=some e:=⟨_,List.getElem?_eq_getElem hi'⟩
   obtain ⟨b,o,rfl,c0,c1,pv,c2,hpv⟩:=HE.out wr HB.out j e hej
   obtain ⟨pa,pc,rfl,hp1,hp2,hp3⟩:=id hpv
   have HPV:=hidIt hpv
   obtain ⟨ef,et,ep⟩:=e
   simp only at *
   have hpl:=puts_len es j (ef,et,ep) hej ep.length
   rw [List.length_append,List.take_length] at hpl
   have hlt:=ln_tk enc es j (ef,et,ep) hej
   have HPS:=hidIt (puts_succ es j (ef,et,ep) hej)
   simp only at hlt HPS hpl
   have HBA:Hid (Below w.heap.size w (wr.alloc (.cells #[.int .i64 ef,.int .i64 et,.slice pa ep.length pc] 30))):=ext_alloc HB.out _
   have HPV2:Hid (Rd .i64 (wr.alloc (.cells #[.int .i64 ef,.int .i64 et,.slice pa ep.length pc] 30)) (.slice pa ep.length pc) ep):=HPV.out.ext (ext_alloc (Below.refl _ _) _)
   clear hpv hp3 HPV
   go_upto_block 2 with fail
   generalize wr.alloc _=wb at *
   clear c0 c1 c2
   go_wp2_with fail
   go_loopg [5,20] ep.length (fun gk2 tv p wr2=>∃ i:Nat,i + gk2=ep.length∧p=.int .i64 (i:Nat)∧tv=.int .i64 ((ln enc (puts (es.take j)):Nat) + (ln enc (ep.take i):Nat):Int)∧Hid (∀ a ∈ ep.take i,Cx.fits enc a=true)∧Hid (Below wb.heap.size wb wr2))
   case atStart=>exact ⟨0,by omega,rfl,vi (by rw [List.take_zero,ln_nil];omega),(fun a ha=>by simp at ha),Below.refl _ _⟩
   case round =>
    obtain ⟨i,hii,rfl,rfl,HF2,HB2⟩:=hrel
    by_cases hi3:i < ep.length
    ·have hi4:(i:Int) < (ep.length:Int):=by omega
     obtain ⟨a,hai⟩:∃ a,ep[i]?=some a:=⟨_,List.getElem?_eq_getElem hi3⟩
     obtain ⟨pa',pc',e1,_,_,e4⟩:=HPV2.out.ext HB2.out
     simp only [Value.slice.injEq] at e1
     obtain ⟨e5,_,_⟩:=e1
     subst e5
     obtain ⟨b2,o2,e6,_,e8⟩:=e4 (by intro hn;subst hn;simp at hi3)
     subst e6
     have ca:=e8 i hi3
     rw [hai,Option.getD_some] at ca
     have HBT:=hidIt (HBA.out.trans (HB2.out.mono HBA.out.size))
     obtain ⟨t0,t1⟩:=HC.out wr HBT.out
     have SZ:=hidIt (Go.Proofs.YtjjfakokakamaaaGreat.Size_any enc a wr)
     have et2:ep.take (i + 1)=ep.take i ++ [a]:=by rw [List.take_add_one,hai];rfl
     have hb1:=hlt (i + 1)
     rw [et2,ln_app] at hb1
     have HT2:=hidIt et2
     clear et2 e4 e8
     by_cases hfa:Cx.fits enc a=true
     ·have hsz:Cx.size enc a=(ln enc [a]:Nat):=by rw [ln_one];exact size_fit enc a hfa
      have hpos:0 < ln enc [a]:=by rw [ln_one];exact (Cx.put_len enc a).1
      have HNX:=hidIt (show ln enc (ep.take (i + 1))=ln enc (ep.take i) + ln enc [a] by rw [HT2.out,ln_app])
      have HF3:=hidIt (show ∀ x ∈ ep.take (i + 1),Cx.fits enc x=true by
       rw [HT2.out]
       intro x hx
       rcases List.mem_append.1 hx with hx | hx
       ·exact HF2.out x hx
       ·rw [List.mem_singleton] at hx;subst hx;exact hfa)
      rw [hsz] at SZ
      have hz:((ln enc [a]:Nat):Int)≠0:=by omega
      have hzb:(((ln enc [a]:Nat):Int) == 0)=false:=by simp;omega
      clear hsz hai
      generalize ln enc [a]=sa at *
      generalize ln enc (puts (es.take j))=tj at *
      generalize ln enc (ep.take i)=ti at *
      go_wp2_with (go_at_call 53;refine SZ.out.mono ?_;clear ca t0 t1;rintro e w3 ⟨rfl,hb3⟩;have HB3:=hidIt (ext_trans HB2.out hb3);clear hb3;(try dsimp only))
      go_roundg (ep.length - (i + 1))
      case rel=>exact ⟨i + 1,by omega,by go_num,vi (by rw [HNX.out];omega),HF3.out,HB3.out⟩
      case measure=>omega
     ·have hfa':Cx.fits enc a=false:=by simpa using hfa
      have hsz:Cx.size enc a=0:=by unfold Cx.size;rw [hfa'];rfl
      have hm:a ∈ puts es:=by
       unfold puts
       rw [List.mem_flatMap]
       exact ⟨(ef,et,ep),List.mem_of_getElem? hej,List.mem_of_getElem? hai⟩
      have HAN:Hid (cpA enc lim es=11):=by
       unfold Hid cpA
       rw [if_neg (fun hall=>hfa (hall a hm))]
      rw [hsz] at SZ
      clear hsz hai
      generalize ln enc (puts (es.take j))=tj at *
      generalize ln enc (ep.take i)=ti at *
      go_wp2_with (go_at_call 53;refine SZ.out.mono ?_;clear ca t0 t1;rintro e w3 ⟨rfl,hb3⟩;have HB3:=hidIt (ext_trans HB2.out hb3);clear hb3;(try dsimp only))
      go_ret
      exact ⟨ret_int HAN.out.symm,HBA.out.trans (HB3.out.mono HBA.out.size)⟩
    ·have hi4:¬ (i:Int) < (ep.length:Int):=by omega
     obtain rfl:i=ep.length:=by omega
     rw [List.take_length] at HF2
     have HBT:=hidIt (HBA.out.trans (HB2.out.mono HBA.out.size))
     have HNX:=hidIt (show ln enc (puts (es.take (j + 1)))=ln enc (puts (es.take j)) + ln enc (ep.take ep.length) by rw [HPS.out,ln_app,List.take_length])
     have HF3:=hidIt (show ∀ x ∈ puts (es.take (j + 1)),Cx.fits enc x=true by
      rw [HPS.out]
      intro x hx
      exact (List.mem_append.1 hx).elim (HF.out x) (HF2.out x))
     have hb1:=hlt ep.length
     generalize ln enc (puts (es.take j))=tj at *
     generalize ln enc (ep.take ep.length)=ti at *
     go_wp2_with fail
     go_roundg (es.length - (j + 1))
     case rel=>exact ⟨j + 1,by omega,by go_num,vi (by rw [HNX.out];omega),HF3.out,HBT.out⟩
     case measure=>omega
  ·have hi2:¬ (j:Int) < (es.length:Int):=by omega
   obtain rfl:j=es.length:=by omega
   rw [List.take_length] at HF ⊢
   obtain ⟨t0,t1⟩:=HC.out wr HB.out
   have HAN:=hidIt (show cpA enc lim es=if (ln enc (puts es):Int) > lim then 50 else 0 by unfold cpA;rw [if_pos HF.out])
   generalize ln enc (puts es)=tj at *
   by_cases hg:(tj:Int) > lim
   ·rw [if_pos hg] at HAN
    have hg':lim < (tj:Int):=hg
    go_wp2_with fail
    go_ret
    exact ⟨ret_int HAN.out.symm,HB.out⟩
   ·rw [if_neg hg] at HAN
    have hg':¬ lim < (tj:Int):=hg
    go_wp2_with fail
    go_ret
    exact ⟨ret_int HAN.out.symm,HB.out⟩
end Go.Proofs.YtjjfakokakamaaaGreat.P

namespace Go.Proofs.YtjjfakokakamaaaGreat.P
open Go.RowKit
def rg (n:Int):Int→List Ed→Bool
 | _,[]=>true
 | least,e :: es=>decide (least≤e.1∧e.1≤e.2.1∧e.2.1≤n) && rg n e.2.1 es
def ckA (enc lim:Int) (n:Nat) (es:List Ed):Int:=if 70000 < es.length then 3 else if rg n 0 es=true then cpA enc lim es else 2
set_option maxRecDepth 100000 in
set_option maxHeartbeats 4000000 in
theorem check_any (enc lim:Int) (L:List Int) (w:World) (t:Nat) (ps:List PG) (v:Value) (es:List Ed) (h:Tx enc lim L w t ps) (hE:EdR w v es) (hl:es.length≤70000→(puts es).length≤2305843009213693951) :
  Calls Tryz.prog 54 #[.pointer (some ⟨t,0,none⟩),v] w fun e w'=>e=.returned (.int .i64 (ckA enc lim (sh enc ps).length es))∧Below w.heap.size w w':=by
 have LN:Hid (∀ w',Below w.heap.size w w'→Calls Tryz.prog 34 #[.pointer (some ⟨t,0,none⟩)] w' fun e w''=>e=.returned (.int .i64 (sh enc ps).length)∧Below w'.heap.size w' w''):=fun w' hb=>Len_any enc lim L w' t ps (h.ext hb)
 have CP:Hid (es.length≤70000→∀ w',Below w.heap.size w w'→Calls Tryz.prog 89 #[.pointer (some ⟨t,0,none⟩),v] w' fun e w''=>e=.returned (.int .i64 (cpA enc lim es))∧Below w'.heap.size w' w''):=fun h70 w' hb=>checkPuts_any enc lim L w' t ps v es (h.ext hb) (hE.ext hb) (hl h70)
 obtain ⟨ao,cap,rfl,h1,h2,h3⟩:=id hE
 have HE:Hid (∀ w',Below w.heap.size w w'→∀ j e,es[j]?=some e→∃ b off,ao=some ⟨b,off,none⟩∧w'.cell? ⟨b,off + j * 3,none⟩=some (.int .i64 e.1)∧w'.cell? ⟨b,off + j * 3 + 1,none⟩=some (.int .i64 e.2.1)∧∃ pv,w'.cell? ⟨b,off + j * 3 + 2,none⟩=some pv∧Rd .i64 w' pv e.2.2):=fun w' hb j e he=>by
  obtain ⟨ao',cap',e1,_,_,e4⟩:=hE.ext hb
  cases e1
  obtain ⟨b,o,k1,_,k3⟩:=e4 (by intro hn;subst hn;simp at he)
  obtain ⟨c0,c1,c2⟩:=k3 j e he
  exact ⟨b,o,k1,c0,c1,c2⟩
 clear h hE h3
 generalize (sh enc ps).length=n at *
 by_cases hbig:70000 < es.length
 ·have hb':(70000:Int) < (es.length:Int):=by omega
  have HA:=hidIt (show ckA enc lim n es=3 by unfold ckA;rw [if_pos hbig])
  go_enter Tryz.func54,Tryz.ntmps54
  go_wp2_with fail
  go_ret
  exact ⟨ret_int HA.out.symm,Below.refl _ _⟩
 have hb':¬ (70000:Int) < (es.length:Int):=by omega
 have HA:=hidIt (show ckA enc lim n es=if rg n 0 es=true then cpA enc lim es else 2 by unfold ckA;rw [if_neg hbig])
 go_enter Tryz.func54,Tryz.ntmps54
 go_wp2_with fail
 go_loopg [5,13] es.length (fun gk lv p wr=>∃ (j:Nat) (least:Int),j + gk=es.length∧p=.int .i64 (j:Nat)∧lv=.int .i64 least∧Hid (rg n 0 es=rg n least (es.drop j))∧Hid (Below w.heap.size w wr))
 case atStart=>exact ⟨0,0,by omega,rfl,rfl,by rw [List.drop_zero];rfl,Below.refl _ _⟩
 case round =>
  obtain ⟨j,least,hj,rfl,rfl,HR,HB⟩:=hrel
  by_cases hi':j < es.length
  ·have hi2:(j:Int) < (es.length:Int):=by omega
   obtain ⟨e,hej⟩:∃ e,es[j]?=some e:=⟨_,List.getElem?_eq_getElem hi'⟩
   obtain ⟨b,o,rfl,c0,c1,pv,c2,hpv⟩:=HE.out wr HB.out j e hej
   obtain ⟨pa,pc,rfl,hp1,hp2,hp3⟩:=id hpv
   have hdr:es.drop j=e :: es.drop (j + 1):=by
    rw [List.drop_eq_getElem_cons hi']
    rw [List.getElem?_eq_getElem hi',Option.some.injEq] at hej
    rw [hej]
   obtain ⟨ef,et,ep⟩:=e
   simp only at *
   have HD:=hidIt hdr
   clear hpv hp3 hdr
   obtain ⟨wb,hwb,kb,hbb⟩:∃ wb,wb=wr.alloc (.cells #[.int .i64 ef,.int .i64 et,.slice pa ep.length pc] 30)∧wb.heap[wr.heap.size]?=some (.cells #[.int .i64 ef,.int .i64 et,.slice pa ep.length pc] 30 (0,0))∧Below wr.heap.size wr wb:=⟨_,rfl,heap_alloc_new _ _,ext_alloc (Below.refl _ _) _⟩
   have HP:Hid (∀ w',Below wb.heap.size wb w'→w'.cell? ⟨wr.heap.size,0,none⟩=some (.int .i64 ef)∧w'.cell? ⟨wr.heap.size,1,none⟩=some (.int .i64 et)):=fun w' hb=>by
    have hk:=(hb.block wr.heap.size (Array.getElem?_eq_some_iff.1 kb).1).trans kb
    exact ⟨by rw [cell_of_row w' _ _ _ _ _ hk];rfl,by rw [cell_of_row w' _ _ _ _ _ hk];rfl⟩
   have HBb:=hidIt (ext_trans HB.out hbb)
   clear kb hbb
   go_upto_region 7 with fail
   rw [← hwb]
   clear hwb c0 c1 c2
   obtain ⟨d0,d1⟩:=HP.out wb (Below.refl _ _)
   by_cases g1:ef < least
   ·have HAN:=hidIt (show ckA enc lim n es=2 by
     rw [HA.out,HR.out,HD.out,rg]
     simp only [Bool.and_eq_true,decide_eq_true_eq]
     rw [if_neg (by omega)])
    refine wp_region_held_drew (S:=fun w'=>w'.cell? ⟨wr.heap.size,0,none⟩=some (.int .i64 ef)∧w'.cell? ⟨wr.heap.size,1,none⟩=some (.int .i64 et)) (by kernel_rfl) (⟨d0,d1⟩) (fun hHeld=>?_)
    refine tkH (v:=?_) 0 rfl ?_ ?_;rotate_left 1
    ·intro wq hSw;(try dsimp only at hSw);go_simp;try (with_reducible rfl)
    try simp only [Act.put,sA1,sA3,sA4,sA5,sA6]
    refine tkH (v:=?_) 1 rfl ?_ ?_;rotate_left 1
    ·intro wq hSw;(try dsimp only at hSw);go_simp;try (with_reducible rfl)
    try simp only [Act.put,sA1,sA2,sA3,sA4,sA5,sA6]
    refine tkH (v:=?_) 2 rfl ?_ ?_;rotate_left 1
    ·intro wq hSw;(try dsimp only at hSw);go_simp;try (with_reducible rfl)
    try simp only [Act.put,sA1,sA2,sA3,sA4,sA5,sA6]
    refine tkH (v:=?_) 3 rfl ?_ ?_;rotate_left 1
    ·intro wq hSw;(try dsimp only at hSw);go_simp;try (with_reducible rfl)
    try simp only [Act.put,sA1,sA2,sA3,sA4,sA5,sA6]
    refine tkH (v:=?_) 4 rfl ?_ ?_;rotate_left 1
    ·intro wq hSw;(try dsimp only at hSw);go_simp;try (with_reducible rfl)
    try simp only [Act.put,sA1,sA2,sA3,sA4,sA5,sA6]
    refine wpAnyH_take (i:=5) (oi:=_) (v:=undef) rfl (by kernel_rfl) (by kernel_rfl) (by kernel_rfl) (fun _ _ _ h=>h) (Or.inr ⟨by rfl,rfl⟩) (by assumption) ?_
    try simp only [Act.put,sA1,sA2,sA3,sA4,sA5,sA6]
    refine wpAnyH_take (i:=6) (oi:=_) (v:=undef) rfl (by kernel_rfl) (by kernel_rfl) (by kernel_rfl) (fun _ _ _ h=>h) (Or.inr ⟨by rfl,rfl⟩) (by assumption) ?_
    try simp only [Act.put,sA1,sA2,sA3,sA4,sA5,sA6]
    refine wpAnyH_take (i:=7) (oi:=_) (v:=undef) rfl (by kernel_rfl) (by kernel_rfl) (by kernel_rfl) (fun _ _ _ h=>h) (Or.inr ⟨by rfl,rfl⟩) (by assumption) ?_
    try simp only [Act.put,sA1,sA2,sA3,sA4,sA5,sA6]
    refine wpAnyH_take (i:=8) (oi:=_) (v:=undef) rfl (by kernel_rfl) (by kernel_rfl) (by kernel_rfl) (fun _ _ _ h=>h) (Or.inr ⟨by rfl,rfl⟩) (by assumption) ?_
    try simp only [Act.put,sA1,sA2,sA3,sA4,sA5,sA6]
    refine wpAnyH_take (i:=9) (oi:=_) (v:=undef) rfl (by kernel_rfl) (by kernel_rfl) (by kernel_rfl) (fun _ _ _ h=>h) (Or.inr ⟨by rfl,rfl⟩) (by assumption) ?_
    try simp only [Act.put,sA1,sA2,sA3,sA4,sA5,sA6]
    refine tkH (v:=?_) 10 rfl ?_ ?_;rotate_left 1
    ·intro wq hSw;(try dsimp only at hSw);go_simp;try (with_reducible rfl)
    try simp only [Act.put,sA1,sA2,sA3,sA4,sA5,sA6]
    refine tkH (v:=?_) 11 rfl ?_ ?_;rotate_left 1
    ·intro wq hSw;(try dsimp only at hSw);go_simp;try (with_reducible rfl)
    try simp only [Act.put,sA1,sA2,sA3,sA4,sA5,sA6]
    refine wpAnyH_take (i:=12) (oi:=_) (v:=undef) rfl (by kernel_rfl) (by kernel_rfl) (by kernel_rfl) (fun _ _ _ h=>h) (Or.inr ⟨by rfl,rfl⟩) (by assumption) ?_
    try simp only [Act.put,sA1,sA2,sA3,sA4,sA5,sA6]
    refine wpAnyH_take (i:=13) (oi:=_) (v:=undef) rfl (by kernel_rfl) (by kernel_rfl) (by kernel_rfl) (fun _ _ _ h=>h) (Or.inr ⟨by rfl,rfl⟩) (by assumption) ?_
    try simp only [Act.put,sA1,sA2,sA3,sA4,sA5,sA6]
    refine wpAnyH_take (i:=14) (oi:=_) (v:=undef) rfl (by kernel_rfl) (by kernel_rfl) (by kernel_rfl) (fun _ _ _ h=>h) (Or.inr ⟨by rfl,rfl⟩) (by assumption) ?_
    try simp only [Act.put,sA1,sA2,sA3,sA4,sA5,sA6]
    refine wpAnyH_ready (rs:=[15]) (by kernel_rfl) (by simp) ?_
    refine AllReadyH.cons (o:=_) rfl (fun K hK=>?_) AllReadyH.nil
    go_simp
    refine hK.out _ _ ?_ (fun hHeld=>?_)
    ·(try simp only [World.cell?_drew]);exact ⟨d0,d1⟩
    clear hK K
    try simp only [Act.put,sA1,sA2,sA3,sA4,sA5,sA6]
    refine wpAnyH_take (i:=16) (oi:=_) (v:=undef) rfl (by kernel_rfl) (by kernel_rfl) (by kernel_rfl) (fun _ _ _ h=>h) (Or.inr ⟨by rfl,rfl⟩) (by assumption) ?_
    try simp only [Act.put,sA1,sA2,sA3,sA4,sA5,sA6]
    refine tkH (v:=?_) 17 rfl ?_ ?_;rotate_left 1
    ·intro wq hSw;(try dsimp only at hSw);go_simp;try (with_reducible rfl)
    try simp only [Act.put,sA1,sA2,sA3,sA4,sA5,sA6]
    refine wpAnyH_done (by kernel_rfl) ?_ _
    go_wp2_with fail
    go_ret
    exact ⟨ret_int HAN.out.symm,by first | exact HBb.out.drew | exact HBb.out⟩
   by_cases g2:et < ef
   ·have HAN:=hidIt (show ckA enc lim n es=2 by
     rw [HA.out,HR.out,HD.out,rg]
     simp only [Bool.and_eq_true,decide_eq_true_eq]
     rw [if_neg (by omega)])
    refine wp_region_held_drew (S:=fun w'=>w'.cell? ⟨wr.heap.size,0,none⟩=some (.int .i64 ef)∧w'.cell? ⟨wr.heap.size,1,none⟩=some (.int .i64 et)) (by kernel_rfl) (⟨d0,d1⟩) (fun hHeld=>?_)
    refine tkH (v:=?_) 0 rfl ?_ ?_;rotate_left 1
    ·intro wq hSw;(try dsimp only at hSw);go_simp;try (with_reducible rfl)
    try simp only [Act.put,sA1,sA3,sA4,sA5,sA6]
    refine tkH (v:=?_) 1 rfl ?_ ?_;rotate_left 1
    ·intro wq hSw;(try dsimp only at hSw);go_simp;try (with_reducible rfl)
    try simp only [Act.put,sA1,sA2,sA3,sA4,sA5,sA6]
    refine tkH (v:=?_) 2 rfl ?_ ?_;rotate_left 1
    ·intro wq hSw;(try dsimp only at hSw);go_simp;try (with_reducible rfl)
    try simp only [Act.put,sA1,sA2,sA3,sA4,sA5,sA6]
    refine tkH (v:=?_) 3 rfl ?_ ?_;rotate_left 1
    ·intro wq hSw;(try dsimp only at hSw);go_simp;try (with_reducible rfl)
    try simp only [Act.put,sA1,sA2,sA3,sA4,sA5,sA6]
    refine tkH (v:=?_) 4 rfl ?_ ?_;rotate_left 1
    ·intro wq hSw;(try dsimp only at hSw);go_simp;try (with_reducible rfl)
    try simp only [Act.put,sA1,sA2,sA3,sA4,sA5,sA6]
    refine tkH (v:=?_) 5 rfl ?_ ?_;rotate_left 1
    ·intro wq hSw;(try dsimp only at hSw);go_simp;try (with_reducible rfl)
    try simp only [Act.put,sA1,sA2,sA3,sA4,sA5,sA6]
    refine tkH (v:=?_) 6 rfl ?_ ?_;rotate_left 1
    ·intro wq hSw;(try dsimp only at hSw);go_simp;try (with_reducible rfl)
    try simp only [Act.put,sA1,sA2,sA3,sA4,sA5,sA6]
    refine tkH (v:=?_) 7 rfl ?_ ?_;rotate_left 1
    ·intro wq hSw;(try dsimp only at hSw);go_simp;try (with_reducible rfl)
    try simp only [Act.put,sA1,sA2,sA3,sA4,sA5,sA6]
    refine tkH (v:=?_) 8 rfl ?_ ?_;rotate_left 1
    ·intro wq hSw;(try dsimp only at hSw);go_simp;try (with_reducible rfl)
    try simp only [Act.put,sA1,sA2,sA3,sA4,sA5,sA6]
    refine tkH (v:=?_) 9 rfl ?_ ?_;rotate_left 1
    ·intro wq hSw;(try dsimp only at hSw);go_simp;try (with_reducible rfl)
    try simp only [Act.put,sA1,sA2,sA3,sA4,sA5,sA6]
    refine tkH (v:=?_) 10 rfl ?_ ?_;rotate_left 1
    ·intro wq hSw;(try dsimp only at hSw);go_simp;try (with_reducible rfl)
    try simp only [Act.put,sA1,sA2,sA3,sA4,sA5,sA6]
    refine tkH (v:=?_) 11 rfl ?_ ?_;rotate_left 1
    ·intro wq hSw;(try dsimp only at hSw);go_simp;try (with_reducible rfl)
    try simp only [Act.put,sA1,sA2,sA3,sA4,sA5,sA6]
    refine wpAnyH_take (i:=12) (oi:=_) (v:=undef) rfl (by kernel_rfl) (by kernel_rfl) (by kernel_rfl) (fun _ _ _ h=>h) (Or.inr ⟨by rfl,rfl⟩) (by assumption) ?_
    try simp only [Act.put,sA1,sA2,sA3,sA4,sA5,sA6]
    refine wpAnyH_take (i:=13) (oi:=_) (v:=undef) rfl (by kernel_rfl) (by kernel_rfl) (by kernel_rfl) (fun _ _ _ h=>h) (Or.inr ⟨by rfl,rfl⟩) (by assumption) ?_
    try simp only [Act.put,sA1,sA2,sA3,sA4,sA5,sA6]
    refine wpAnyH_take (i:=14) (oi:=_) (v:=undef) rfl (by kernel_rfl) (by kernel_rfl) (by kernel_rfl) (fun _ _ _ h=>h) (Or.inr ⟨by rfl,rfl⟩) (by assumption) ?_
    try simp only [Act.put,sA1,sA2,sA3,sA4,sA5,sA6]
    refine wpAnyH_ready (rs:=[15]) (by kernel_rfl) (by simp) ?_
    refine AllReadyH.cons (o:=_) rfl (fun K hK=>?_) AllReadyH.nil
    go_simp
    refine hK.out _ _ ?_ (fun hHeld=>?_)
    ·(try simp only [World.cell?_drew]);exact ⟨d0,d1⟩
    clear hK K
    try simp only [Act.put,sA1,sA2,sA3,sA4,sA5,sA6]
    refine wpAnyH_take (i:=16) (oi:=_) (v:=undef) rfl (by kernel_rfl) (by kernel_rfl) (by kernel_rfl) (fun _ _ _ h=>h) (Or.inr ⟨by rfl,rfl⟩) (by assumption) ?_
    try simp only [Act.put,sA1,sA2,sA3,sA4,sA5,sA6]
    refine tkH (v:=?_) 17 rfl ?_ ?_;rotate_left 1
    ·intro wq hSw;(try dsimp only at hSw);go_simp;try (with_reducible rfl)
    try simp only [Act.put,sA1,sA2,sA3,sA4,sA5,sA6]
    refine wpAnyH_done (by kernel_rfl) ?_ _
    go_wp2_with fail
    go_ret
    exact ⟨ret_int HAN.out.symm,by first | exact HBb.out.drew | exact HBb.out⟩
   by_cases g3:(n:Int) < et
   ·have HAN:=hidIt (show ckA enc lim n es=2 by
     rw [HA.out,HR.out,HD.out,rg]
     simp only [Bool.and_eq_true,decide_eq_true_eq]
     rw [if_neg (by omega)])
    refine wp_region_held_drew (S:=fun w'=>w'.cell? ⟨wr.heap.size,0,none⟩=some (.int .i64 ef)∧w'.cell? ⟨wr.heap.size,1,none⟩=some (.int .i64 et)) (by kernel_rfl) (⟨d0,d1⟩) (fun hHeld=>?_)
    refine tkH (v:=?_) 0 rfl ?_ ?_;rotate_left 1
    ·intro wq hSw;(try dsimp only at hSw);go_simp;try (with_reducible rfl)
    try simp only [Act.put,sA1,sA3,sA4,sA5,sA6]
    refine tkH (v:=?_) 1 rfl ?_ ?_;rotate_left 1
    ·intro wq hSw;(try dsimp only at hSw);go_simp;try (with_reducible rfl)
    try simp only [Act.put,sA1,sA2,sA3,sA4,sA5,sA6]
    refine tkH (v:=?_) 2 rfl ?_ ?_;rotate_left 1
    ·intro wq hSw;(try dsimp only at hSw);go_simp;try (with_reducible rfl)
    try simp only [Act.put,sA1,sA2,sA3,sA4,sA5,sA6]
    refine tkH (v:=?_) 3 rfl ?_ ?_;rotate_left 1
    ·intro wq hSw;(try dsimp only at hSw);go_simp;try (with_reducible rfl)
    try simp only [Act.put,sA1,sA2,sA3,sA4,sA5,sA6]
    refine tkH (v:=?_) 4 rfl ?_ ?_;rotate_left 1
    ·intro wq hSw;(try dsimp only at hSw);go_simp;try (with_reducible rfl)
    try simp only [Act.put,sA1,sA2,sA3,sA4,sA5,sA6]
    refine tkH (v:=?_) 5 rfl ?_ ?_;rotate_left 1
    ·intro wq hSw;(try dsimp only at hSw);go_simp;try (with_reducible rfl)
    try simp only [Act.put,sA1,sA2,sA3,sA4,sA5,sA6]
    refine tkH (v:=?_) 6 rfl ?_ ?_;rotate_left 1
    ·intro wq hSw;(try dsimp only at hSw);go_simp;try (with_reducible rfl)
    try simp only [Act.put,sA1,sA2,sA3,sA4,sA5,sA6]
    refine tkH (v:=?_) 7 rfl ?_ ?_;rotate_left 1
    ·intro wq hSw;(try dsimp only at hSw);go_simp;try (with_reducible rfl)
    try simp only [Act.put,sA1,sA2,sA3,sA4,sA5,sA6]
    refine tkH (v:=?_) 8 rfl ?_ ?_;rotate_left 1
    ·intro wq hSw;(try dsimp only at hSw);go_simp;try (with_reducible rfl)
    try simp only [Act.put,sA1,sA2,sA3,sA4,sA5,sA6]
    refine tkH (v:=?_) 9 rfl ?_ ?_;rotate_left 1
    ·intro wq hSw;(try dsimp only at hSw);go_simp;try (with_reducible rfl)
    try simp only [Act.put,sA1,sA2,sA3,sA4,sA5,sA6]
    refine tkH (v:=?_) 10 rfl ?_ ?_;rotate_left 1
    ·intro wq hSw;(try dsimp only at hSw);go_simp;try (with_reducible rfl)
    try simp only [Act.put,sA1,sA2,sA3,sA4,sA5,sA6]
    refine tkH (v:=?_) 11 rfl ?_ ?_;rotate_left 1
    ·intro wq hSw;(try dsimp only at hSw);go_simp;try (with_reducible rfl)
    try simp only [Act.put,sA1,sA2,sA3,sA4,sA5,sA6]
    refine tkH (v:=?_) 12 rfl ?_ ?_;rotate_left 1
    ·intro wq hSw;(try dsimp only at hSw);go_simp;try (with_reducible rfl)
    try simp only [Act.put,sA1,sA2,sA3,sA4,sA5,sA6]
    refine tkH (v:=?_) 13 rfl ?_ ?_;rotate_left 1
    ·intro wq hSw;(try dsimp only at hSw);go_simp;try (with_reducible rfl)
    try simp only [Act.put,sA1,sA2,sA3,sA4,sA5,sA6]
    refine tkH (v:=?_) 14 rfl ?_ ?_;rotate_left 1
    ·intro wq hSw;(try dsimp only at hSw);go_simp;try (with_reducible rfl)
    try simp only [Act.put,sA1,sA2,sA3,sA4,sA5,sA6]
    refine wpAnyH_ready (rs:=[15]) (by kernel_rfl) (by simp) ?_
    refine AllReadyH.cons (o:=_) rfl (fun K hK=>?_) AllReadyH.nil
    go_simp
    refine (LN.out _ HBb.out.drew).mono ?_;clear d0 d1;rintro e w3 ⟨rfl,hb3⟩;have HB3:=hidIt (ext_trans (Below.drew (Below.refl wb.heap.size wb)) hb3);clear hb3;obtain ⟨d0,d1⟩:=HP.out w3 HB3.out;try dsimp only
    refine hK.out _ _ ?_ (fun hHeld=>?_)
    ·(try simp only [World.cell?_drew]);exact ⟨d0,d1⟩
    clear hK K
    try simp only [Act.put,sA1,sA2,sA3,sA4,sA5,sA6]
    refine tkH (v:=?_) 16 rfl ?_ ?_;rotate_left 1
    ·intro wq hSw;(try dsimp only at hSw);go_simp;try (with_reducible rfl)
    try simp only [Act.put,sA1,sA2,sA3,sA4,sA5,sA6]
    refine tkH (v:=?_) 17 rfl ?_ ?_;rotate_left 1
    ·intro wq hSw;(try dsimp only at hSw);go_simp;try (with_reducible rfl)
    try simp only [Act.put,sA1,sA2,sA3,sA4,sA5,sA6]
    refine wpAnyH_done (by kernel_rfl) ?_ _
    go_wp2_with fail
    go_ret
    exact ⟨ret_int HAN.out.symm,HBb.out.trans (HB3.out.mono HBb.out.size)⟩
   ·have HNX:=hidIt (show rg n 0 es=rg n et (es.drop (j + 1)) by
     rw [HR.out,HD.out,rg]
     simp only
     rw [decide_eq_true (show least≤ef∧ef≤et∧et≤n by omega),Bool.true_and])
    refine wp_region_held_drew (S:=fun w'=>w'.cell? ⟨wr.heap.size,0,none⟩=some (.int .i64 ef)∧w'.cell? ⟨wr.heap.size,1,none⟩=some (.int .i64 et)) (by kernel_rfl) (⟨d0,d1⟩) (fun hHeld=>?_)
    refine tkH (v:=?_) 0 rfl ?_ ?_;rotate_left 1
    ·intro wq hSw;(try dsimp only at hSw);go_simp;try (with_reducible rfl)
    try simp only [Act.put,sA1,sA3,sA4,sA5,sA6]
    refine tkH (v:=?_) 1 rfl ?_ ?_;rotate_left 1
    ·intro wq hSw;(try dsimp only at hSw);go_simp;try (with_reducible rfl)
    try simp only [Act.put,sA1,sA2,sA3,sA4,sA5,sA6]
    refine tkH (v:=?_) 2 rfl ?_ ?_;rotate_left 1
    ·intro wq hSw;(try dsimp only at hSw);go_simp;try (with_reducible rfl)
    try simp only [Act.put,sA1,sA2,sA3,sA4,sA5,sA6]
    refine tkH (v:=?_) 3 rfl ?_ ?_;rotate_left 1
    ·intro wq hSw;(try dsimp only at hSw);go_simp;try (with_reducible rfl)
    try simp only [Act.put,sA1,sA2,sA3,sA4,sA5,sA6]
    refine tkH (v:=?_) 4 rfl ?_ ?_;rotate_left 1
    ·intro wq hSw;(try dsimp only at hSw);go_simp;try (with_reducible rfl)
    try simp only [Act.put,sA1,sA2,sA3,sA4,sA5,sA6]
    refine tkH (v:=?_) 5 rfl ?_ ?_;rotate_left 1
    ·intro wq hSw;(try dsimp only at hSw);go_simp;try (with_reducible rfl)
    try simp only [Act.put,sA1,sA2,sA3,sA4,sA5,sA6]
    refine tkH (v:=?_) 6 rfl ?_ ?_;rotate_left 1
    ·intro wq hSw;(try dsimp only at hSw);go_simp;try (with_reducible rfl)
    try simp only [Act.put,sA1,sA2,sA3,sA4,sA5,sA6]
    refine tkH (v:=?_) 7 rfl ?_ ?_;rotate_left 1
    ·intro wq hSw;(try dsimp only at hSw);go_simp;try (with_reducible rfl)
    try simp only [Act.put,sA1,sA2,sA3,sA4,sA5,sA6]
    refine tkH (v:=?_) 8 rfl ?_ ?_;rotate_left 1
    ·intro wq hSw;(try dsimp only at hSw);go_simp;try (with_reducible rfl)
    try simp only [Act.put,sA1,sA2,sA3,sA4,sA5,sA6]
    refine tkH (v:=?_) 9 rfl ?_ ?_;rotate_left 1
    ·intro wq hSw;(try dsimp only at hSw);go_simp;try (with_reducible rfl)
    try simp only [Act.put,sA1,sA2,sA3,sA4,sA5,sA6]
    refine tkH (v:=?_) 10 rfl ?_ ?_;rotate_left 1
    ·intro wq hSw;(try dsimp only at hSw);go_simp;try (with_reducible rfl)
    try simp only [Act.put,sA1,sA2,sA3,sA4,sA5,sA6]
    refine tkH (v:=?_) 11 rfl ?_ ?_;rotate_left 1
    ·intro wq hSw;(try dsimp only at hSw);go_simp;try (with_reducible rfl)
    try simp only [Act.put,sA1,sA2,sA3,sA4,sA5,sA6]
    refine tkH (v:=?_) 12 rfl ?_ ?_;rotate_left 1
    ·intro wq hSw;(try dsimp only at hSw);go_simp;try (with_reducible rfl)
    try simp only [Act.put,sA1,sA2,sA3,sA4,sA5,sA6]
    refine tkH (v:=?_) 13 rfl ?_ ?_;rotate_left 1
    ·intro wq hSw;(try dsimp only at hSw);go_simp;try (with_reducible rfl)
    try simp only [Act.put,sA1,sA2,sA3,sA4,sA5,sA6]
    refine tkH (v:=?_) 14 rfl ?_ ?_;rotate_left 1
    ·intro wq hSw;(try dsimp only at hSw);go_simp;try (with_reducible rfl)
    try simp only [Act.put,sA1,sA2,sA3,sA4,sA5,sA6]
    refine wpAnyH_ready (rs:=[15]) (by kernel_rfl) (by simp) ?_
    refine AllReadyH.cons (o:=_) rfl (fun K hK=>?_) AllReadyH.nil
    go_simp
    refine (LN.out _ HBb.out.drew).mono ?_;clear d0 d1;rintro e w3 ⟨rfl,hb3⟩;have HB3:=hidIt (ext_trans (Below.drew (Below.refl wb.heap.size wb)) hb3);clear hb3;obtain ⟨d0,d1⟩:=HP.out w3 HB3.out;try dsimp only
    refine hK.out _ _ ?_ (fun hHeld=>?_)
    ·(try simp only [World.cell?_drew]);exact ⟨d0,d1⟩
    clear hK K
    try simp only [Act.put,sA1,sA2,sA3,sA4,sA5,sA6]
    refine tkH (v:=?_) 16 rfl ?_ ?_;rotate_left 1
    ·intro wq hSw;(try dsimp only at hSw);go_simp;try (with_reducible rfl)
    try simp only [Act.put,sA1,sA2,sA3,sA4,sA5,sA6]
    refine tkH (v:=?_) 17 rfl ?_ ?_;rotate_left 1
    ·intro wq hSw;(try dsimp only at hSw);go_simp;try (with_reducible rfl)
    try simp only [Act.put,sA1,sA2,sA3,sA4,sA5,sA6]
    refine wpAnyH_done (by kernel_rfl) ?_ _
    go_wp2_with fail
    go_roundg (es.length - (j + 1))
    case rel=>exact ⟨j + 1,et,by omega,by go_num,rfl,HNX.out,HBb.out.trans (HB3.out.mono HBb.out.size)⟩
    case measure=>omega
  ·have hi2:¬ (j:Int) < (es.length:Int):=by omega
   obtain rfl:j=es.length:=by omega
   have HAN:=hidIt (show ckA enc lim n es=cpA enc lim es by rw [HA.out,HR.out,List.drop_length,rg];rfl)
   go_wp2_with (go_at_call 89;refine (CP.out (by omega) wr HB.out).mono ?_;rintro e w3 ⟨rfl,hb3⟩;have HB3:=hidIt (ext_trans HB.out hb3);clear hb3;(try dsimp only))
   go_ret
   exact ⟨ret_int HAN.out.symm,HB3.out⟩
end Go.Proofs.YtjjfakokakamaaaGreat.P

namespace Go.Proofs.YtjjfakokakamaaaGreat.P
open Go.RowKit
def apE (l:List (Int × Int)):Nat→List Ed→List (Int × Int)
 | p,[]=>l.drop p
 | p,e :: es=>(l.drop p).take (e.1.toNat - p) ++ (e.2.2.map fun a=>(a,-1)) ++ apE l e.2.1.toNat es
theorem rg_cons {n least:Int} {e:Ed} {es:List Ed}:rg n least (e :: es)=true ↔ (least≤e.1∧e.1≤e.2.1∧e.2.1≤n)∧rg n e.2.1 es=true:=by rw [rg,Bool.and_eq_true,decide_eq_true_eq]
theorem rg_mono {n a b:Int} (h:a≤b) {es:List Ed} (hr:rg n b es=true):rg n a es=true:=by
 cases es with
 | nil=>rfl
 | cons e es =>
   rw [rg_cons] at hr ⊢
   exact ⟨⟨by omega,hr.1.2⟩,hr.2⟩
theorem rg_tail {n:Int} {es2:List Ed}:∀ (es1:List Ed) (a:Int),rg n a (es1 ++ es2)=true→rg n a es2=true:=by
 intro es1
 induction es1 with
 | nil=>intro a h;exact h
 | cons e es1 ih =>
   intro a h
   rw [List.cons_append,rg_cons] at h
   exact rg_mono (by omega) (ih e.2.1 h.2)
theorem rg_left {n:Int} {es2:List Ed}:∀ (es1:List Ed) (a:Int),rg n a (es1 ++ es2)=true→rg n a es1=true:=by
 intro es1
 induction es1 with
 | nil=>intro a h;rfl
 | cons e es1 ih =>
   intro a h
   rw [List.cons_append,rg_cons] at h
   rw [rg_cons]
   exact ⟨h.1,ih e.2.1 h.2⟩
theorem take_split (l:List (Int × Int)) (p f q:Nat) (h1:p≤f) (h2:f≤q):(l.drop p).take (q - p)=(l.drop p).take (f - p) ++ (l.drop f).take (q - f):=by
 rw [show q - p=(f - p) + (q - f) by omega,List.take_add,List.drop_drop,show p + (f - p)=f by omega]
theorem ap_head (l:List (Int × Int)) (es:List Ed) (p f:Nat) (h1:p≤f) (hr:rg l.length f es=true):apE l p es=(l.drop p).take (f - p) ++ apE l f es:=by
 cases es with
 | nil =>
   rw [apE,apE]
   conv=>lhs;rw [← List.take_append_drop (f - p) (l.drop p),List.drop_drop,show p + (f - p)=f by omega]
 | cons e es =>
   rw [rg_cons] at hr
   rw [apE,apE,take_split l p f e.1.toNat h1 (by omega)]
   simp only [List.append_assoc]
theorem ap_cut (l:List (Int × Int)) (es:List Ed) (f:Nat) (h2:f≤l.length) (hr:rg l.length f es=true):(apE l 0 es).drop f=apE l f es∧(apE l 0 es).take f=l.take f:=by
 have e:=ap_head l es 0 f (Nat.zero_le _) hr
 rw [List.drop_zero,Nat.sub_zero] at e
 have hl:(l.take f).length=f:=by rw [List.length_take];omega
 rw [e]
 exact ⟨List.drop_left' hl,List.take_left' hl⟩
theorem ap_two (l:List (Int × Int)) (es2:List Ed):∀ (es1:List Ed) (p:Nat),p≤l.length→rg l.length p (es1 ++ es2)=true→apE (apE l 0 es2) p es1=apE l p (es1 ++ es2):=by
 intro es1
 induction es1 with
 | nil=>intro p hp hr;rw [apE,List.nil_append];exact (ap_cut l es2 p hp hr).1
 | cons e es1 ih =>
   intro p hp hr
   rw [List.cons_append,rg_cons] at hr
   obtain ⟨⟨r1,r2,r3⟩,r4⟩:=hr
   rw [List.cons_append,apE,apE,ih e.2.1.toNat (by omega) (by rw [Int.toNat_of_nonneg (by omega)];exact r4)]
   congr 2
   have k:=ap_cut l es2 e.1.toNat (by omega) (by rw [Int.toNat_of_nonneg (by omega)];exact rg_mono r2 (rg_tail es1 _ r4))
   have k2:((apE l 0 es2).take e.1.toNat).drop p=(l.take e.1.toNat).drop p:=by rw [k.2]
   rw [List.drop_take,List.drop_take] at k2
   exact k2
theorem ap_app (l b:List (Int × Int)):∀ (es:List Ed) (p:Nat),p≤l.length→rg l.length p es=true→apE (l ++ b) p es=apE l p es ++ b:=by
 intro es
 induction es with
 | nil=>intro p hp _;rw [apE,apE,List.drop_append_of_le_length hp]
 | cons e es ih =>
   intro p hp hr
   rw [rg_cons] at hr
   obtain ⟨⟨r1,r2,r3⟩,r4⟩:=hr
   rw [apE,apE,ih e.2.1.toNat (by omega) (by rw [Int.toNat_of_nonneg (by omega)];exact r4),List.drop_append_of_le_length hp,List.take_append_of_le_length (by rw [List.length_drop];omega)]
   simp only [List.append_assoc]
theorem ap_mid (a m b:List (Int × Int)) (es:List Ed) (h:rg (a ++ m).length a.length es=true):apE (a ++ m ++ b) 0 es=a ++ apE (a ++ m) a.length es ++ b:=by
 have hm:rg (a ++ m).length ((0:Nat):Int) es=true:=rg_mono (by omega) h
 rw [ap_app (a ++ m) b es 0 (Nat.zero_le _) hm,ap_head (a ++ m) es 0 a.length (Nat.zero_le _) h,List.drop_zero,Nat.sub_zero,List.take_left' rfl]
theorem key_len {enc:Int} {L:List Int} {w:World} {ps:List PG} (h:Pcs enc L w ps) (k:Nat):rA.key (rA.add Rs.zero (rA.su ((xsOf ps).take k))) 0=(sh enc (ps.take k)).length:=by
 have h':Pcs enc L w (ps.take k):=fun q hq=>h q (List.mem_of_mem_take hq)
 have e:(xsOf ps).take k=xsOf (ps.take k):=by simp [xsOf,List.map_take]
 have z:rA.add Rs.zero (rA.su (xsOf (ps.take k)))=rA.su (xsOf (ps.take k)):=rA.zadd _ (rA.ok _)
 rw [e,z,h'.su,sh_len]
 show (spn enc (asOf (ps.take k))).a=_
 rw [(spn_a enc _ h'.fit).1]
theorem find_span {enc:Int} {L:List Int} {w:World} {ps:List PG} (h:Pcs enc L w ps) (f t:Nat) (hft:f≤t) (ht:t≤(sh enc ps).length) :
  (sh enc (ps.take (rA.fnd 0 f Rs.zero (xsOf ps) - 1))).length≤f∧t≤(sh enc (ps.take (min (rA.fnd 0 ((t:Int) + 1) Rs.zero (xsOf ps)) ps.length))).length∧rA.fnd 0 f Rs.zero (xsOf ps) - 1≤min (rA.fnd 0 ((t:Int) + 1) Rs.zero (xsOf ps)) ps.length:=by
 have l1:=rA.fnd_le 0 f (xsOf ps) Rs.zero
 have l2:=rA.fnd_le 0 ((t:Int) + 1) (xsOf ps) Rs.zero
 rw [xsOf_len] at l1 l2
 have a1:(sh enc (ps.take (rA.fnd 0 f Rs.zero (xsOf ps) - 1))).length≤f:=by
  by_cases h0:rA.fnd 0 f Rs.zero (xsOf ps)=0
  ·rw [h0];simp [sh]
  ·have:=rA.fnd_less 0 f (xsOf ps) Rs.zero (rA.fnd 0 f Rs.zero (xsOf ps) - 1) Rs.ok_zero (by omega)
   rw [key_len h] at this
   omega
 have a2:rA.fnd 0 ((t:Int) + 1) Rs.zero (xsOf ps)≤ps.length→t + 1≤(sh enc (ps.take (rA.fnd 0 ((t:Int) + 1) Rs.zero (xsOf ps)))).length:=fun hle=>by
  have:=rA.fnd_hit 0 ((t:Int) + 1) (xsOf ps) Rs.zero Rs.ok_zero (by rw [xsOf_len];exact hle)
  rw [key_len h] at this
  omega
 refine ⟨a1,?_,?_⟩
 ·by_cases hle:rA.fnd 0 ((t:Int) + 1) Rs.zero (xsOf ps)≤ps.length
  ·rw [Nat.min_eq_left hle]
   have:=a2 hle
   omega
  ·rw [Nat.min_eq_right (by omega),List.take_length]
   exact ht
 ·by_cases hle:rA.fnd 0 ((t:Int) + 1) Rs.zero (xsOf ps)≤ps.length
  ·rw [Nat.min_eq_left hle]
   by_cases hlt:rA.fnd 0 ((t:Int) + 1) Rs.zero (xsOf ps) < rA.fnd 0 f Rs.zero (xsOf ps)
   ·have k1:=rA.fnd_less 0 f (xsOf ps) Rs.zero _ Rs.ok_zero hlt
    rw [key_len h] at k1
    have k2:=a2 hle
    omega
   ·omega
  ·rw [Nat.min_eq_right (by omega)]
   omega
end Go.Proofs.YtjjfakokakamaaaGreat.P

namespace Go.Proofs.YtjjfakokakamaaaGreat.P
open Go.RowKit
theorem drop_of {α:Type} {l:List α} {j:Nat} {e:α} (h:l[j]?=some e):l.drop j=e :: l.drop (j + 1):=by
 obtain ⟨hj,rfl⟩:=List.getElem?_eq_some_iff.1 h
 exact List.drop_eq_getElem_cons hj
theorem rw_step {l:List (Int × Int)} {es:List Ed} {j p:Nat} {e:Ed} (h:es[j]?=some e) (hr:rg l.length p (es.drop j)=true) :
  ∃ f t:Nat,e.1=f∧e.2.1=t∧p≤f∧f≤t∧t≤l.length∧rg l.length t (es.drop (j + 1))=true∧apE l p (es.drop j)=(l.drop p).take (f - p) ++ (e.2.2.map fun a=>(a,-1)) ++ apE l t (es.drop (j + 1)):=by
 rw [drop_of h,rg_cons] at hr
 obtain ⟨⟨h1,h2,h3⟩,h4⟩:=hr
 refine ⟨e.1.toNat,e.2.1.toNat,by omega,by omega,by omega,by omega,by omega,?_,?_⟩
 ·rw [show ((e.2.1.toNat:Nat):Int)=e.2.1 by omega];exact h4
 ·rw [drop_of h,apE]
structure RwJ (enc:Int) (l:List (Int × Int)) (base:Nat) (es:List Ed) (j p:Nat) (A B:List (Int × Int)):Prop where
 left:B=l.drop p
 le:p≤l.length
 rg':rg l.length p (es.drop j)=true
 all:A ++ apE l p (es.drop j)=apE l base es
 bd:ln enc (A.map Prod.fst) + ln enc (B.map Prod.fst)≤ln enc (l.map Prod.fst) + ln enc (puts (es.take j))
theorem puts_take_le (enc:Int) (es:List Ed) (j:Nat):ln enc (puts (es.take j))≤ln enc (puts es):=by
 have e:puts es=puts (es.take j) ++ puts (es.drop j):=by unfold puts;rw [← List.flatMap_append,List.take_append_drop]
 rw [e,ln_app];omega
theorem ln_take_drop (enc:Int) (l:List Int) (k:Nat):ln enc (l.take k) + ln enc (l.drop k)=ln enc l:=by rw [← ln_app,List.take_append_drop]
theorem RwJ.zero {enc:Int} {l:List (Int × Int)} {base:Nat} {es:List Ed} (hb:base≤l.length) (hr:rg l.length base es=true):RwJ enc l base es 0 base [] (l.drop base) :=
 ⟨rfl,hb,hr,rfl,by have:=ln_take_drop enc (l.map Prod.fst) base;rw [List.map_drop];simp [ln,puts];unfold ln at this;omega⟩
theorem RwJ.step {enc:Int} {l:List (Int × Int)} {base:Nat} {es:List Ed} {j p:Nat} {A B:List (Int × Int)} {e:Ed} (h:RwJ enc l base es j p A B) (he:es[j]?=some e) :
  ∃ f t:Nat,e.1=f∧e.2.1=t∧p≤f∧f≤t∧t≤l.length∧f - p≤B.length∧t - f≤(B.drop (f - p)).length ∧
    ln enc ((A ++ B.take (f - p)).map Prod.fst) + ln enc ((B.drop (f - p)).map Prod.fst)≤ln enc (l.map Prod.fst) + ln enc (puts es) ∧
    ln enc ((A ++ B.take (f - p)).map Prod.fst) + ln enc e.2.2≤ln enc (l.map Prod.fst) + ln enc (puts es) ∧
    RwJ enc l base es (j + 1) t (A ++ B.take (f - p) ++ e.2.2.map fun a=>(a,-1)) ((B.drop (f - p)).drop (t - f)):=by
 obtain ⟨f,t,h1,h2,h3,h4,h5,h6,h7⟩:=rw_step he h.rg'
 have hB:=h.left
 have hps:=puts_succ es j e he
 have hle:=puts_take_le enc es (j + 1)
 rw [hps,ln_app] at hle
 have hbd:=h.bd
 have k1:=ln_take_drop enc (B.map Prod.fst) (f - p)
 have k2:=ln_take_drop enc ((B.map Prod.fst).drop (f - p)) (t - f)
 refine ⟨f,t,h1,h2,h3,h4,h5,?_,?_,?_,?_,?_,h5,h6,?_,?_⟩
 ·rw [hB,List.length_drop];omega
 ·rw [hB,List.drop_drop,List.length_drop];omega
 ·rw [List.map_append,ln_app,List.map_take,List.map_drop];omega
 ·rw [List.map_append,ln_app,List.map_take];omega
 ·rw [hB,List.drop_drop,List.drop_drop];congr 1;omega
 ·rw [← h.all,h7,hB];simp only [List.append_assoc]
 ·rw [hps,ln_app,List.map_append,List.map_append,ln_app,ln_app,List.map_take,List.map_drop,List.map_drop,List.map_map]
  have e2:e.2.2.map (Prod.fst ∘ fun a=>((a,-1):Int × Int))=e.2.2:=by rw [show (Prod.fst ∘ fun a=>((a,-1):Int × Int))=id from rfl];simp
  rw [e2]
  omega
theorem RwJ.fin {enc:Int} {l:List (Int × Int)} {base:Nat} {es:List Ed} {p:Nat} {A B:List (Int × Int)} (h:RwJ enc l base es es.length p A B):A ++ B=apE l base es∧ln enc (A.map Prod.fst) + ln enc (B.map Prod.fst)≤ln enc (l.map Prod.fst) + ln enc (puts es):=by
 have h1:=h.all
 rw [List.drop_length,apE,← h.left] at h1
 refine ⟨h1,?_⟩
 have:=h.bd
 rwa [List.take_length] at this
theorem ln_fst (enc:Int) (ps:List PG):ln enc ((sh enc ps).map Prod.fst)=ln enc (asOf ps):=by rw [sh_fst]
theorem rg_last {n:Int}:∀ (es:List Ed) (a:Int) (m:Int),rg n a es=true→(∀ e,es.getLast?=some e→e.2.1≤m)→rg m a es=true:=by
 intro es
 induction es with
 | nil=>intro a m _ _;rfl
 | cons e es ih =>
   intro a m h hl
   rw [rg_cons] at h ⊢
   obtain ⟨⟨h1,h2,h3⟩,h4⟩:=h
   cases es with
   | nil=>exact ⟨⟨h1,h2,hl e rfl⟩,rfl⟩
   | cons e2 es2 =>
     have k:=ih e.2.1 m h4 (fun e' h'=>hl e' (by rw [List.getLast?_cons_cons];exact h'))
     have k':=k
     rw [rg_cons] at k'
     exact ⟨⟨h1,h2,by omega⟩,k⟩
theorem rg_head {n:Int} {es:List Ed} {e:Ed} {a b:Int} (h:rg n a es=true) (h0:es[0]?=some e) (hb:b≤e.1):rg n b es=true:=by
 cases es with
 | nil=>rfl
 | cons e2 es =>
   simp only [List.getElem?_cons_zero,Option.some.injEq] at h0
   subst h0
   rw [rg_cons] at h ⊢
   exact ⟨⟨hb,h.1.2⟩,h.2⟩
theorem rg_two (l:List (Int × Int)) (es1 es2:List Ed) (h:rg l.length 0 (es1 ++ es2)=true):rg (apE l 0 es2).length 0 es1=true:=by
 refine rg_last es1 0 _ (rg_left es1 0 h) fun e he=>?_
 obtain ⟨pre,rfl⟩:=List.getLast?_eq_some_iff.1 he
 rw [List.append_assoc] at h
 have h2:=rg_tail pre 0 h
 rw [List.cons_append,List.nil_append,rg_cons] at h2
 obtain ⟨⟨h3,h4,h5⟩,h6⟩:=h2
 have hf:((e.2.1.toNat:Nat):Int)=e.2.1:=by omega
 have k:=(ap_cut l es2 e.2.1.toNat (by omega) (by rw [hf];exact h6)).2
 have k2:=congrArg List.length k
 rw [List.length_take,List.length_take] at k2
 omega
theorem ap_ln (enc:Int) (l:List (Int × Int)):∀ (es:List Ed) (p:Nat),rg l.length p es=true→ln enc ((apE l p es).map Prod.fst)≤ln enc ((l.drop p).map Prod.fst) + ln enc (puts es):=by
 intro es
 induction es with
 | nil=>intro p _;rw [apE];omega
 | cons e es ih =>
   intro p h
   rw [rg_cons] at h
   obtain ⟨⟨h1,h2,h3⟩,h4⟩:=h
   have hf:((e.2.1.toNat:Nat):Int)=e.2.1:=by omega
   have k:=ih e.2.1.toNat (by rw [hf];exact h4)
   have hp:puts (e :: es)=e.2.2 ++ puts es:=by unfold puts;simp
   have e2:(e.2.2.map (fun a=>((a,-1):Int × Int))).map Prod.fst=e.2.2:=by rw [List.map_map,show (Prod.fst ∘ fun a=>((a,-1):Int × Int))=id from rfl];simp
   rw [apE,hp,List.map_append,List.map_append,ln_app,ln_app,ln_app,e2,List.map_take]
   have k1:=ln_take_drop enc ((l.drop p).map Prod.fst) (e.1.toNat - p)
   have k2:=ln_take_drop enc (((l.drop p).map Prod.fst).drop (e.1.toNat - p)) (e.2.1.toNat - e.1.toNat)
   have e3:(((l.drop p).map Prod.fst).drop (e.1.toNat - p)).drop (e.2.1.toNat - e.1.toNat)=(l.drop e.2.1.toNat).map Prod.fst:=by
    rw [← List.map_drop,← List.map_drop,List.drop_drop,List.drop_drop];congr 2;omega
   rw [e3] at k2
   omega
theorem ap_ln0 (enc:Int) (l:List (Int × Int)) (es:List Ed) (h:rg l.length 0 es=true):ln enc ((apE l 0 es).map Prod.fst)≤ln enc (l.map Prod.fst) + ln enc (puts es):=by
 have:=ap_ln enc l es 0 h
 rwa [List.drop_zero] at this
def RwR (enc:Int) (L:List Int) (T0:List (Int × Int)) (w:World) (e:Ending) (w':World):Prop :=
 ∃ u ps',e=.returned (.agg #[.pointer u])∧TT w' (.agg #[.pointer u]) (xsOf ps')∧Pcs enc L w' ps'∧sh enc ps'=T0∧Below w.heap.size w w'
def RwOk (enc lim:Int) (L:List Int) (t:Nat) (ps0:List PG):Prop:=∀ (w:World) (u:Option Addr) (v:Value) (es:List Ed) (qs:List PG),Tx enc lim L w t ps0→TT w (.agg #[.pointer u]) (xsOf qs)→Pcs enc L w qs→EdR w v es→es≠[]→rg (sh enc qs).length 0 es=true→(∀ a ∈ puts es,Cx.fits enc a=true)→ln enc (asOf qs) + ln enc (puts es)≤1000000→es.length≤1000000 →
    Calls Tryz.prog 55 #[.pointer (some ⟨t,0,none⟩),.agg #[.pointer u],v] w fun e w'=>RwR enc L (apE (sh enc qs) 0 es) w e w'
theorem EdR.part {w:World} {ao:Option Addr} {cap:Nat} {es:List Ed} (h:EdR w (.slice ao es.length cap) es) (s k:Nat) (hs:s < k) (hk:k≤es.length) :
  ∃ b off,ao=some ⟨b,off,none⟩∧EdR w (.slice (some ⟨b,off + s * 3,none⟩) (k - s) (cap - s)) ((es.drop s).take (k - s)):=by
 obtain ⟨ao',cap',e1,h1,h2,h3⟩:=h
 simp only [Value.slice.injEq,true_and] at e1
 obtain ⟨rfl,rfl⟩:=e1
 obtain ⟨b,o,rfl,hb,h4⟩:=h3 (by intro e;subst e;simp at hk;omega)
 have hl:((es.drop s).take (k - s)).length=k - s:=by rw [List.length_take,List.length_drop];omega
 refine ⟨b,o,rfl,some ⟨b,o + s * 3,none⟩,cap - s,by rw [hl],by omega,by omega,fun _=>⟨b,o + s * 3,rfl,hb,fun i e he=>?_⟩⟩
 have hi:i < k - s:=by
  have:=(List.getElem?_eq_some_iff.1 he).1
  omega
 have he':es[s + i]?=some e:=by rw [List.getElem?_take_of_lt hi,List.getElem?_drop] at he;exact he
 have:=h4 (s + i) e he'
 rw [show o + s * 3 + i * 3=o + (s + i) * 3 by omega]
 exact this
theorem rg_ends {n:Nat}:∀ (es:List Ed) (a:Int),0≤a→rg n a es=true→∀ e0 e1,es[0]?=some e0→es[es.length - 1]?=some e1→∃ f t:Nat,e0.1=(f:Int)∧e1.2.1=(t:Int)∧f≤t∧t≤n∧a≤(f:Int):=by
 intro es
 induction es with
 | nil=>intro a _ _ e0 e1 h;simp at h
 | cons e es ih =>
   intro a ha h e0 e1 h0 h1
   simp only [List.getElem?_cons_zero,Option.some.injEq] at h0
   subst h0
   rw [rg_cons] at h
   obtain ⟨⟨k1,k2,k3⟩,k4⟩:=h
   cases es with
   | nil =>
     simp at h1
     subst h1
     exact ⟨e.1.toNat,e.2.1.toNat,by omega,by omega,by omega,by omega,by omega⟩
   | cons e2 es2 =>
     have h1':(e2 :: es2)[(e2 :: es2).length - 1]?=some e1:=by simpa using h1
     obtain ⟨f,t,q1,q2,q3,q4,q5⟩:=ih e.2.1 (by omega) k4 e2 e1 rfl h1'
     exact ⟨e.1.toNat,t,by omega,q2,by omega,q4,by omega⟩
theorem sh_three (enc:Int) (qs:List PG) (a b:Nat) (h:a≤b):sh enc qs=sh enc (qs.take a) ++ sh enc ((qs.drop a).take (b - a)) ++ sh enc (qs.drop b):=by
 rw [← sh_app,← sh_app]
 congr 1
 rw [List.append_assoc]
 conv=>lhs;rw [← List.take_append_drop a qs,← List.take_append_drop (b - a) (qs.drop a)]
 rw [List.drop_drop,Nat.add_sub_cancel' h]
theorem sh_two (enc:Int) (qs:List PG) (a b:Nat) (h:a≤b):sh enc (qs.take b)=sh enc (qs.take a) ++ sh enc ((qs.drop a).take (b - a)):=by
 rw [← sh_app]
 congr 1
 rw [← List.drop_take]
 conv=>lhs;rw [← List.take_append_drop a (qs.take b)]
 rw [List.take_take,Nat.min_eq_left h]
end Go.Proofs.YtjjfakokakamaaaGreat.P

namespace Go.Proofs.YtjjfakokakamaaaGreat.P
open Go.RowKit
section
variable {P:Program} (w:World)
end
theorem Tin.same {w w':World} (hb:∀ b,Typ 182 w b→w'.heap[b]?=w.heap[b]?):∀ {t:Tr It} {u:Option Addr},Tin w t u→Tin w' t u
 | ⟨none⟩,_,h=>h
 | ⟨some (_,_,_)⟩,_,⟨g,lv,rv,hu,hg,hl,hr⟩=>⟨g,lv,rv,hu,by rw [hb g ⟨_,hg⟩];exact hg,Tin.same hb hl,Tin.same hb hr⟩
theorem TT.same {w w':World} {v:Value} {xs:List It} (h:TT w v xs) (hb:∀ b,Typ 182 w b→w'.heap[b]?=w.heap[b]?):TT w' v xs:=by
 obtain ⟨u,t,h1,h2,h3,h4⟩:=h
 exact ⟨u,t,h1,Tin.same hb h2,h3,h4⟩
structure Sn (enc:Int) (L:List Int) (w:World) (s t:Nat) (ps:List PG):Prop where
 ex:∃ u,w.heap[s]?=some (.cells #[.pointer (some ⟨t,0,none⟩),.pointer u] 150 (0,0))∧TT w (.agg #[.pointer u]) (xsOf ps)
 pc:Pcs enc L w ps
 sz:ln enc (asOf ps)≤65536
theorem Sn.ext {enc:Int} {L:List Int} {w w':World} {s t:Nat} {ps:List PG} (h:Sn enc L w s t ps) (hb:Below w.heap.size w w'):Sn enc L w' s t ps:=by
 obtain ⟨u,h1,h2⟩:=h.ex
 exact ⟨⟨u,(hb.block s (Array.getElem?_eq_some_iff.1 h1).1).trans h1,h2.ext hb⟩,h.pc.ext hb,h.sz⟩
end Go.Proofs.YtjjfakokakamaaaGreat.P

namespace Go.Proofs.YtjjfakokakamaaaGreat.P
open Go.RowKit
def chA (enc lim:Int) (l:List (Int × Int)) (es:List Ed):Int:=if ckA enc lim l.length es=0 then (if lim < (ln enc ((apE l 0 es).map Prod.fst):Int) then 50 else 0) else ckA enc lim l.length es
def chT (enc lim:Int) (l:List (Int × Int)) (es:List Ed):List (Int × Int):=if chA enc lim l es=0 then apE l 0 es else l
def ChR (enc lim:Int) (L:List Int) (t:Nat) (ps:List PG) (es:List Ed) (w:World) (e:Ending) (w':World):Prop :=
 e=.returned (.int .i64 (chA enc lim (sh enc ps) es))∧∃ ps',Tx enc lim L w' t ps'∧sh enc ps'=chT enc lim (sh enc ps) es∧Kps (fun k=>k=t) w w'
theorem ck_zero {enc lim:Int} {n:Nat} {es:List Ed} (h:ckA enc lim n es=0):es.length≤70000∧rg n 0 es=true∧(∀ a ∈ puts es,Cx.fits enc a=true)∧(ln enc (puts es):Int)≤lim:=by
 unfold ckA at h
 split at h
 ·cases h
 ·split at h
  ·unfold cpA at h
   split at h
   ·split at h
    ·cases h
    ·exact ⟨by omega,by assumption,by assumption,by omega⟩
   ·cases h
  ·cases h
def ChJ (enc:Int) (L:List Int) (l:List (Int × Int)) (es:List Ed) (b:Nat) (w:World) (k:Nat) (wr:World):Prop :=
 ∃ u qs,wr.heap[b]?=some (.cells #[.pointer u] 114 (0,0))∧TT wr (.agg #[.pointer u]) (xsOf qs)∧Pcs enc L wr qs∧sh enc qs=apE l 0 (es.drop k)∧Below w.heap.size w wr
theorem ChJ.bd {enc:Int} {l:List (Int × Int)} {es:List Ed} {k:Nat} {qs:List PG} (h:sh enc qs=apE l 0 (es.drop k)) (hr:rg l.length 0 es=true):ln enc (asOf qs)≤ln enc (l.map Prod.fst) + ln enc (puts (es.drop k)):=by
 have hr':rg l.length 0 (es.drop k)=true:=rg_tail (es.take k) 0 (by rw [List.take_append_drop];exact hr)
 have:=ap_ln0 enc l (es.drop k) hr'
 rw [← h,sh_fst] at this
 exact this
theorem puts_drop (enc:Int) (es:List Ed) (s k:Nat) (h:s≤k):ln enc (puts ((es.drop s).take (k - s))) + ln enc (puts (es.drop k))≤ln enc (puts es)∧es.drop s=(es.drop s).take (k - s) ++ es.drop k:=by
 have e1:es.drop s=(es.drop s).take (k - s) ++ es.drop k:=by
  conv=>lhs;rw [← List.take_append_drop (k - s) (es.drop s)]
  rw [List.drop_drop,Nat.add_sub_cancel' h]
 refine ⟨?_,e1⟩
 have e:puts es=puts (es.take s) ++ (puts ((es.drop s).take (k - s)) ++ puts (es.drop k)):=by
  unfold puts
  rw [← List.flatMap_append,← List.flatMap_append,← e1,List.take_append_drop]
 rw [e,ln_app,ln_app]
 omega
theorem ChJ.next {enc:Int} {l:List (Int × Int)} {es:List Ed} {s k:Nat} {qs:List PG} (h:sh enc qs=apE l 0 (es.drop k)) (hr:rg l.length 0 es=true) (hsk:s≤k) :
  rg (sh enc qs).length 0 ((es.drop s).take (k - s))=true∧apE (sh enc qs) 0 ((es.drop s).take (k - s))=apE l 0 (es.drop s):=by
 have e1:=(puts_drop enc es s k hsk).2
 have hr':rg l.length 0 (es.drop s)=true:=rg_tail (es.take s) 0 (by rw [List.take_append_drop];exact hr)
 rw [e1] at hr'
 rw [h]
 exact ⟨rg_two l _ _ hr',by rw [ap_two l (es.drop k) ((es.drop s).take (k - s)) 0 (Nat.zero_le _) hr',← e1]⟩
set_option maxRecDepth 100000 in
set_option maxHeartbeats 4000000 in
theorem Change_of (enc lim:Int) (L:List Int) (w:World) (t:Nat) (ps:List PG) (v:Value) (es:List Ed) (h:Tx enc lim L w t ps) (hE:EdR w v es) (hl:es.length≤70000→(puts es).length≤2305843009213693951) (RW:RwOk enc lim L t ps) :
  Calls Tryz.prog 19 #[.pointer (some ⟨t,0,none⟩),v] w fun e w'=>ChR enc lim L t ps es w e w':=by
 have CK:=hidIt (check_any enc lim L w t ps v es h hE hl)
 have HT:=hidIt h
 obtain ⟨ao,cap,rfl,h1,h2,h3⟩:=id hE
 have HE:=hidIt hE
 have HRW:=hidIt RW
 clear RW hE h3 h
 obtain ⟨c,hc⟩:∃ c,c=ckA enc lim (sh enc ps).length es:=⟨_,rfl⟩
 rw [← hc] at CK
 by_cases hc0:c=0
 ·subst hc0
  have HCK:=hidIt (ck_zero hc.symm)
  have HC:=hidIt hc.symm
  clear hc
  go_enter Tryz.func19,Tryz.ntmps19
  go_upto_block 0 with (go_at_call 54;refine CK.out.mono ?_;rintro e w1 ⟨rfl,hb1⟩;have HB1:=hidIt hb1;clear hb1;obtain ⟨lv,u,⟨_,_,_,c3⟩,_,htt,htl⟩:=(HT.out.ext HB1.out).cells;have HTT:=hidIt htt;clear htt;(try dsimp only))
  obtain ⟨w2,hw2,kb,hb2⟩:∃ w2,w2=w1.alloc (.cells #[.pointer u] 114)∧w2.heap[w1.heap.size]?=some (.cells #[.pointer u] 114 (0,0))∧Below w1.heap.size w1 w2:=⟨_,rfl,heap_alloc_new _ _,ext_alloc (Below.refl _ _) _⟩
  rw [← hw2]
  clear hw2 c3
  have HB2:=hidIt (ext_trans HB1.out hb2)
  have hlen:es.length≤70000:=HCK.out.1
  have HRG:=hidIt HCK.out.2.1
  obtain ⟨b,hb⟩:∃ b,b=w1.heap.size:=⟨_,rfl⟩
  have HWB:=hidIt (show w.heap.size≤b by rw [hb];exact HB1.out.size)
  rw [← hb] at kb ⊢
  have HJ0:Hid (ChJ enc L (sh enc ps) es b w es.length w2):=⟨u,ps,kb,HTT.out.ext hb2,HT.out.pc.ext HB2.out,by rw [List.drop_length,apE,List.drop_zero],HB2.out⟩
  clear kb hb2 hb HTT HB1
  go_wp2_with fail
  go_loopg [7] es.length (fun gk p wr=>p=.int .i64 (gk:Nat)∧gk≤es.length∧Hid (ChJ enc L (sh enc ps) es b w gk wr))
  case atStart=>exact ⟨rfl,Nat.le_refl _,HJ0.out⟩
  case round =>
   obtain ⟨rfl,hgn,HI⟩:=hrel
   obtain ⟨wo,rfl⟩:∃ wo,wo=wr:=⟨_,rfl⟩
   obtain ⟨u1,qs,kb,htt,hpc,hsh,hbw⟩:=HI.out
   have HKB:=hidIt kb
   have HTQ:=hidIt htt
   have HPQ:=hidIt hpc
   have HSQ:=hidIt hsh
   have HBW:=hidIt hbw
   have HCB:Hid (∀ w',Below wo.heap.size wo w'→w'.cell? ⟨b,0,none⟩=some (.pointer u1)∧(∀ i,w'.frozen? ⟨b,i,none⟩=false)∧w'.heap[b]?=some (.cells #[.pointer u1] 114 (0,0))):=fun w' hb=>by
    have e:=(hb.block b (Array.getElem?_eq_some_iff.1 HKB.out).1).trans HKB.out
    exact ⟨by rw [cell_of_row w' _ _ _ _ _ e];rfl,fun i=>by simp [World.frozen?,e],e⟩
   clear kb htt hpc hsh hbw HI
   by_cases h0:0 < gk
   ·have h0':(0:Int) < (gk:Int):=by omega
    obtain ⟨k,rfl⟩:∃ k,gk=k + 1:=⟨gk - 1,by omega⟩
    have hwk:IntKind.i64.wrap (k:Int)=(k:Int):=by rw [IntKind.wrap_i64];omega
    obtain ⟨eb,eo,rfl,HEP⟩:∃ eb eo,ao=some ⟨eb,eo,none⟩∧Hid (∀ s,s < k + 1→EdR w (.slice (some ⟨eb,eo + s * 3,none⟩) (k + 1 - s) (cap - s)) ((es.drop s).take (k + 1 - s))):=by
     obtain ⟨eb,eo,e1,_⟩:=HE.out.part k (k + 1) (by omega) hgn
     refine ⟨eb,eo,e1,fun s hs=>?_⟩
     obtain ⟨eb',eo',e2,e3⟩:=HE.out.part s (k + 1) hs hgn
     rw [e1] at e2
     cases e2
     exact e3
    go_upto_block 2 with fail
    go_cut [8] from 25 to 43 (fun p wF=>∃ s:Nat,p=.int .i64 (s:Nat)∧s≤k∧Hid (Below wo.heap.size wo wF))
    case first =>
     go_wp2_with fail
     go_loopg [8] k (fun s p wr2=>p=.int .i64 (s:Nat)∧s≤k∧Hid (Below wo.heap.size wo wr2))
     case atStart=>exact ⟨rfl,Nat.le_refl _,Below.refl _ _⟩
     case round =>
      obtain ⟨rfl,hs,HBi⟩:=hrel
      by_cases hs0:0 < gk
      ·obtain ⟨m,rfl⟩:∃ m,gk=m + 1:=⟨gk - 1,by omega⟩
       obtain ⟨e0,he0⟩:∃ e,es[m + 1]?=some e:=⟨_,List.getElem?_eq_getElem (by omega)⟩
       obtain ⟨e1,he1⟩:∃ e,es[m]?=some e:=⟨_,List.getElem?_eq_getElem (by omega)⟩
       have hBw:=ext_trans HBW.out HBi.out
       obtain ⟨d0,d1⟩:wr.cell? ⟨eb,eo + (m + 1) * 3,none⟩=some (.int .i64 e0.1)∧wr.cell? ⟨eb,eo + m * 3 + 1,none⟩=some (.int .i64 e1.2.1):=by
        obtain ⟨ao',cap',q1,_,_,q5⟩:=HE.out
        simp only [Value.slice.injEq] at q1
        obtain ⟨rfl,_,_⟩:=q1
        obtain ⟨b',o',k1,k2,k3⟩:=q5 (by intro hn;subst hn;simp at he0)
        cases k1
        exact ⟨(hBw.cell (p:=⟨eb,_,none⟩) k2).trans (k3 _ _ he0).1,(hBw.cell (p:=⟨eb,_,none⟩) k2).trans (k3 _ _ he1).2.1⟩
       obtain ⟨a,ha⟩:∃ a,a=e0.1:=⟨_,rfl⟩
       obtain ⟨c,hc⟩:∃ c,c=e1.2.1:=⟨_,rfl⟩
       rw [← ha] at d0
       rw [← hc] at d1
       clear ha hc he0 he1 hBw
       have hwm:IntKind.i64.wrap (m:Int)=(m:Int):=by rw [IntKind.wrap_i64];omega
       have hm1:(m:Int) < (es.length:Int):=by omega
       have hm2:(m:Int) + 1 < (es.length:Int):=by omega
       have hm3:(0:Int) < (m:Int) + 1:=by omega
       have hm4:(0:Int)≤(m:Int) + 1:=by omega
       go_upto_region 8 with fail
       by_cases hfar:IntKind.i64.wrap (a - c)≤1024
       ·skip
        refine wp_region_held_drew (S:=fun w''=>w''.cell? ⟨eb,eo + (m + 1) * 3,none⟩=some (.int .i64 a)∧w''.cell? ⟨eb,eo + m * 3 + 1,none⟩=some (.int .i64 c)) (by kernel_rfl) (⟨d0,d1⟩) (fun hHeld=>?_)
        refine tkH (v:=?_) 0 rfl ?_ ?_;rotate_left 1
        ·intro wq hSw;(try dsimp only at hSw);go_simp;try (with_reducible rfl)
        try simp only [Act.put,sA1,sA3,sA4,sA5,sA6]
        refine tkH (v:=?_) 1 rfl ?_ ?_;rotate_left 1
        ·intro wq hSw;(try dsimp only at hSw);go_simp;try (with_reducible rfl)
        try simp only [Act.put,sA1,sA2,sA3,sA4,sA5,sA6]
        refine tkH (v:=?_) 2 rfl ?_ ?_;rotate_left 1
        ·intro wq hSw;(try dsimp only at hSw);go_simp;try (with_reducible rfl)
        try simp only [Act.put,sA1,sA2,sA3,sA4,sA5,sA6]
        refine tkH (v:=?_) 3 rfl ?_ ?_;rotate_left 1
        ·intro wq hSw;(try dsimp only at hSw);go_simp;try (with_reducible rfl)
        try simp only [Act.put,sA1,sA2,sA3,sA4,sA5,sA6]
        refine tkH (v:=?_) 4 rfl ?_ ?_;rotate_left 1
        ·intro wq hSw;(try dsimp only at hSw);go_simp;try (with_reducible rfl)
        try simp only [Act.put,sA1,sA2,sA3,sA4,sA5,sA6]
        refine tkH (v:=?_) 5 rfl ?_ ?_;rotate_left 1
        ·intro wq hSw;(try dsimp only at hSw);go_simp;try (with_reducible rfl)
        try simp only [Act.put,sA1,sA2,sA3,sA4,sA5,sA6]
        refine tkH (v:=?_) 6 rfl ?_ ?_;rotate_left 1
        ·intro wq hSw;(try dsimp only at hSw);go_simp;try (with_reducible rfl)
        try simp only [Act.put,sA1,sA2,sA3,sA4,sA5,sA6]
        refine tkH (v:=?_) 7 rfl ?_ ?_;rotate_left 1
        ·intro wq hSw;(try dsimp only at hSw);go_simp;try (with_reducible rfl)
        try simp only [Act.put,sA1,sA2,sA3,sA4,sA5,sA6]
        refine tkH (v:=?_) 8 rfl ?_ ?_;rotate_left 1
        ·intro wq hSw;(try dsimp only at hSw);go_simp;try (with_reducible rfl)
        try simp only [Act.put,sA1,sA2,sA3,sA4,sA5,sA6]
        refine tkH (v:=?_) 9 rfl ?_ ?_;rotate_left 1
        ·intro wq hSw;(try dsimp only at hSw);go_simp;try (with_reducible rfl)
        try simp only [Act.put,sA1,sA2,sA3,sA4,sA5,sA6]
        refine tkH (v:=?_) 10 rfl ?_ ?_;rotate_left 1
        ·intro wq hSw;(try dsimp only at hSw);go_simp;try (with_reducible rfl)
        try simp only [Act.put,sA1,sA2,sA3,sA4,sA5,sA6]
        refine tkH (v:=?_) 11 rfl ?_ ?_;rotate_left 1
        ·intro wq hSw;(try dsimp only at hSw);go_simp;try (with_reducible rfl)
        try simp only [Act.put,sA1,sA2,sA3,sA4,sA5,sA6]
        refine tkH (v:=?_) 12 rfl ?_ ?_;rotate_left 1
        ·intro wq hSw;(try dsimp only at hSw);go_simp;try (with_reducible rfl)
        try simp only [Act.put,sA1,sA2,sA3,sA4,sA5,sA6]
        refine tkH (v:=?_) 13 rfl ?_ ?_;rotate_left 1
        ·intro wq hSw;(try dsimp only at hSw);go_simp;try (with_reducible rfl)
        try simp only [Act.put,sA1,sA2,sA3,sA4,sA5,sA6]
        refine tkH (v:=?_) 14 rfl ?_ ?_;rotate_left 1
        ·intro wq hSw;(try dsimp only at hSw);go_simp;try (with_reducible rfl)
        try simp only [Act.put,sA1,sA2,sA3,sA4,sA5,sA6]
        refine tkH (v:=?_) 15 rfl ?_ ?_;rotate_left 1
        ·intro wq hSw;(try dsimp only at hSw);go_simp;try (with_reducible rfl)
        try simp only [Act.put,sA1,sA2,sA3,sA4,sA5,sA6]
        refine tkH (v:=?_) 16 rfl ?_ ?_;rotate_left 1
        ·intro wq hSw;(try dsimp only at hSw);go_simp;try (with_reducible rfl)
        try simp only [Act.put,sA1,sA2,sA3,sA4,sA5,sA6]
        refine wpAnyH_done (by kernel_rfl) ?_ _
        go_wp2_with fail
        go_roundg m
        case rel=>exact ⟨by go_num,by omega,HBi.out.drew⟩
        case measure=>omega
       ·skip
        refine wp_region_held_drew (S:=fun w''=>w''.cell? ⟨eb,eo + (m + 1) * 3,none⟩=some (.int .i64 a)∧w''.cell? ⟨eb,eo + m * 3 + 1,none⟩=some (.int .i64 c)) (by kernel_rfl) (⟨d0,d1⟩) (fun hHeld=>?_)
        refine tkH (v:=?_) 0 rfl ?_ ?_;rotate_left 1
        ·intro wq hSw;(try dsimp only at hSw);go_simp;try (with_reducible rfl)
        try simp only [Act.put,sA1,sA3,sA4,sA5,sA6]
        refine tkH (v:=?_) 1 rfl ?_ ?_;rotate_left 1
        ·intro wq hSw;(try dsimp only at hSw);go_simp;try (with_reducible rfl)
        try simp only [Act.put,sA1,sA2,sA3,sA4,sA5,sA6]
        refine tkH (v:=?_) 2 rfl ?_ ?_;rotate_left 1
        ·intro wq hSw;(try dsimp only at hSw);go_simp;try (with_reducible rfl)
        try simp only [Act.put,sA1,sA2,sA3,sA4,sA5,sA6]
        refine tkH (v:=?_) 3 rfl ?_ ?_;rotate_left 1
        ·intro wq hSw;(try dsimp only at hSw);go_simp;try (with_reducible rfl)
        try simp only [Act.put,sA1,sA2,sA3,sA4,sA5,sA6]
        refine tkH (v:=?_) 4 rfl ?_ ?_;rotate_left 1
        ·intro wq hSw;(try dsimp only at hSw);go_simp;try (with_reducible rfl)
        try simp only [Act.put,sA1,sA2,sA3,sA4,sA5,sA6]
        refine tkH (v:=?_) 5 rfl ?_ ?_;rotate_left 1
        ·intro wq hSw;(try dsimp only at hSw);go_simp;try (with_reducible rfl)
        try simp only [Act.put,sA1,sA2,sA3,sA4,sA5,sA6]
        refine tkH (v:=?_) 6 rfl ?_ ?_;rotate_left 1
        ·intro wq hSw;(try dsimp only at hSw);go_simp;try (with_reducible rfl)
        try simp only [Act.put,sA1,sA2,sA3,sA4,sA5,sA6]
        refine tkH (v:=?_) 7 rfl ?_ ?_;rotate_left 1
        ·intro wq hSw;(try dsimp only at hSw);go_simp;try (with_reducible rfl)
        try simp only [Act.put,sA1,sA2,sA3,sA4,sA5,sA6]
        refine tkH (v:=?_) 8 rfl ?_ ?_;rotate_left 1
        ·intro wq hSw;(try dsimp only at hSw);go_simp;try (with_reducible rfl)
        try simp only [Act.put,sA1,sA2,sA3,sA4,sA5,sA6]
        refine tkH (v:=?_) 9 rfl ?_ ?_;rotate_left 1
        ·intro wq hSw;(try dsimp only at hSw);go_simp;try (with_reducible rfl)
        try simp only [Act.put,sA1,sA2,sA3,sA4,sA5,sA6]
        refine tkH (v:=?_) 10 rfl ?_ ?_;rotate_left 1
        ·intro wq hSw;(try dsimp only at hSw);go_simp;try (with_reducible rfl)
        try simp only [Act.put,sA1,sA2,sA3,sA4,sA5,sA6]
        refine tkH (v:=?_) 11 rfl ?_ ?_;rotate_left 1
        ·intro wq hSw;(try dsimp only at hSw);go_simp;try (with_reducible rfl)
        try simp only [Act.put,sA1,sA2,sA3,sA4,sA5,sA6]
        refine tkH (v:=?_) 12 rfl ?_ ?_;rotate_left 1
        ·intro wq hSw;(try dsimp only at hSw);go_simp;try (with_reducible rfl)
        try simp only [Act.put,sA1,sA2,sA3,sA4,sA5,sA6]
        refine tkH (v:=?_) 13 rfl ?_ ?_;rotate_left 1
        ·intro wq hSw;(try dsimp only at hSw);go_simp;try (with_reducible rfl)
        try simp only [Act.put,sA1,sA2,sA3,sA4,sA5,sA6]
        refine tkH (v:=?_) 14 rfl ?_ ?_;rotate_left 1
        ·intro wq hSw;(try dsimp only at hSw);go_simp;try (with_reducible rfl)
        try simp only [Act.put,sA1,sA2,sA3,sA4,sA5,sA6]
        refine tkH (v:=?_) 15 rfl ?_ ?_;rotate_left 1
        ·intro wq hSw;(try dsimp only at hSw);go_simp;try (with_reducible rfl)
        try simp only [Act.put,sA1,sA2,sA3,sA4,sA5,sA6]
        refine tkH (v:=?_) 16 rfl ?_ ?_;rotate_left 1
        ·intro wq hSw;(try dsimp only at hSw);go_simp;try (with_reducible rfl)
        try simp only [Act.put,sA1,sA2,sA3,sA4,sA5,sA6]
        refine wpAnyH_done (by kernel_rfl) ?_ _
        go_wp2_with fail
        go_meet
        case rel=>exact ⟨m + 1,by first | rfl | go_num,by omega,HBi.out.drew⟩
      ·obtain rfl:gk=0:=by omega
       go_upto_region 8 with fail
       refine wp_region_held_drew (S:=fun _=>True) (by kernel_rfl) (trivial) (fun hHeld=>?_)
       refine tkH (v:=?_) 0 rfl ?_ ?_;rotate_left 1
       ·intro wq hSw;(try dsimp only at hSw);go_simp;try (with_reducible rfl)
       try simp only [Act.put,sA1,sA3,sA4,sA5,sA6]
       refine tkH (v:=?_) 1 rfl ?_ ?_;rotate_left 1
       ·intro wq hSw;(try dsimp only at hSw);go_simp;try (with_reducible rfl)
       try simp only [Act.put,sA1,sA2,sA3,sA4,sA5,sA6]
       refine tkH (v:=?_) 2 rfl ?_ ?_;rotate_left 1
       ·intro wq hSw;(try dsimp only at hSw);go_simp;try (with_reducible rfl)
       try simp only [Act.put,sA1,sA2,sA3,sA4,sA5,sA6]
       refine wpAnyH_take (i:=3) (oi:=_) (v:=undef) rfl (by kernel_rfl) (by kernel_rfl) (by kernel_rfl) (fun _ _ _ h=>h) (Or.inr ⟨by rfl,rfl⟩) (by assumption) ?_
       try simp only [Act.put,sA1,sA2,sA3,sA4,sA5,sA6]
       refine wpAnyH_take (i:=4) (oi:=_) (v:=undef) rfl (by kernel_rfl) (by kernel_rfl) (by kernel_rfl) (fun _ _ _ h=>h) (Or.inr ⟨by rfl,rfl⟩) (by assumption) ?_
       try simp only [Act.put,sA1,sA2,sA3,sA4,sA5,sA6]
       refine wpAnyH_take (i:=5) (oi:=_) (v:=undef) rfl (by kernel_rfl) (by kernel_rfl) (by kernel_rfl) (fun _ _ _ h=>h) (Or.inr ⟨by rfl,rfl⟩) (by assumption) ?_
       try simp only [Act.put,sA1,sA2,sA3,sA4,sA5,sA6]
       refine wpAnyH_take (i:=6) (oi:=_) (v:=undef) rfl (by kernel_rfl) (by kernel_rfl) (by kernel_rfl) (fun _ _ _ h=>h) (Or.inr ⟨by rfl,rfl⟩) (by assumption) ?_
       try simp only [Act.put,sA1,sA2,sA3,sA4,sA5,sA6]
       refine wpAnyH_take (i:=7) (oi:=_) (v:=undef) rfl (by kernel_rfl) (by kernel_rfl) (by kernel_rfl) (fun _ _ _ h=>h) (Or.inr ⟨by rfl,rfl⟩) (by assumption) ?_
       try simp only [Act.put,sA1,sA2,sA3,sA4,sA5,sA6]
       refine wpAnyH_take (i:=8) (oi:=_) (v:=undef) rfl (by kernel_rfl) (by kernel_rfl) (by kernel_rfl) (fun _ _ _ h=>h) (Or.inr ⟨by rfl,rfl⟩) (by assumption) ?_
       try simp only [Act.put,sA1,sA2,sA3,sA4,sA5,sA6]
       refine wpAnyH_take (i:=9) (oi:=_) (v:=undef) rfl (by kernel_rfl) (by kernel_rfl) (by kernel_rfl) (fun _ _ _ h=>h) (Or.inr ⟨by rfl,rfl⟩) (by assumption) ?_
       try simp only [Act.put,sA1,sA2,sA3,sA4,sA5,sA6]
       refine wpAnyH_take (i:=10) (oi:=_) (v:=undef) rfl (by kernel_rfl) (by kernel_rfl) (by kernel_rfl) (fun _ _ _ h=>h) (Or.inr ⟨by rfl,rfl⟩) (by assumption) ?_
       try simp only [Act.put,sA1,sA2,sA3,sA4,sA5,sA6]
       refine wpAnyH_take (i:=11) (oi:=_) (v:=undef) rfl (by kernel_rfl) (by kernel_rfl) (by kernel_rfl) (fun _ _ _ h=>h) (Or.inr ⟨by rfl,rfl⟩) (by assumption) ?_
       try simp only [Act.put,sA1,sA2,sA3,sA4,sA5,sA6]
       refine wpAnyH_take (i:=12) (oi:=_) (v:=undef) rfl (by kernel_rfl) (by kernel_rfl) (by kernel_rfl) (fun _ _ _ h=>h) (Or.inr ⟨by rfl,rfl⟩) (by assumption) ?_
       try simp only [Act.put,sA1,sA2,sA3,sA4,sA5,sA6]
       refine wpAnyH_take (i:=13) (oi:=_) (v:=undef) rfl (by kernel_rfl) (by kernel_rfl) (by kernel_rfl) (fun _ _ _ h=>h) (Or.inr ⟨by rfl,rfl⟩) (by assumption) ?_
       try simp only [Act.put,sA1,sA2,sA3,sA4,sA5,sA6]
       refine wpAnyH_take (i:=14) (oi:=_) (v:=undef) rfl (by kernel_rfl) (by kernel_rfl) (by kernel_rfl) (fun _ _ _ h=>h) (Or.inr ⟨by rfl,rfl⟩) (by assumption) ?_
       try simp only [Act.put,sA1,sA2,sA3,sA4,sA5,sA6]
       refine wpAnyH_take (i:=15) (oi:=_) (v:=undef) rfl (by kernel_rfl) (by kernel_rfl) (by kernel_rfl) (fun _ _ _ h=>h) (Or.inr ⟨by rfl,rfl⟩) (by assumption) ?_
       try simp only [Act.put,sA1,sA2,sA3,sA4,sA5,sA6]
       refine tkH (v:=?_) 16 rfl ?_ ?_;rotate_left 1
       ·intro wq hSw;(try dsimp only at hSw);go_simp;try (with_reducible rfl)
       try simp only [Act.put,sA1,sA2,sA3,sA4,sA5,sA6]
       refine wpAnyH_done (by kernel_rfl) ?_ _
       go_wp2_with fail
       go_meet
       case rel=>exact ⟨0,by first | rfl | go_num,by omega,HBi.out.drew⟩
    obtain ⟨s,rfl,hsk,HBc⟩:=hcut
    obtain ⟨v1,rfl⟩:∃ v1,v1=wc:=⟨_,rfl⟩
    have hNX:=ChJ.next HSQ.out HRG.out (show s≤k + 1 by omega)
    have hpd:=(puts_drop enc es s (k + 1) (by omega)).1
    have hfit:∀ a ∈ puts ((es.drop s).take (k + 1 - s)),Cx.fits enc a=true:=fun a ha=>HCK.out.2.2.1 a (by
     unfold puts at ha ⊢
     rw [List.mem_flatMap] at ha ⊢
     obtain ⟨e,he,h2⟩:=ha
     exact ⟨e,List.mem_of_mem_drop (List.mem_of_mem_take he),h2⟩)
    have hlq:ln enc (asOf qs) + ln enc (puts ((es.drop s).take (k + 1 - s)))≤1000000:=by
     have h1:=ChJ.bd HSQ.out HRG.out
     have h2:=HT.out.sz
     have h3:=HT.out.lm
     have h4:=HCK.out.2.2.2
     rw [ln_fst] at h1
     omega
    have RWC:Hid (∀ w',Below wo.heap.size wo w'→Calls Tryz.prog 55 #[.pointer (some ⟨t,0,none⟩),.agg #[.pointer u1],.slice (some ⟨eb,eo + s * 3,none⟩) (k + 1 - s) (cap - s)] w' fun e w''=>RwR enc L (apE (sh enc ps) 0 (es.drop s)) w' e w''):=fun w' hb=>by
     rw [← hNX.2]
     exact HRW.out w' u1 _ _ qs (HT.out.ext (ext_trans HBW.out hb)) (HTQ.out.ext hb) (HPQ.out.ext hb) ((HEP.out s (by omega)).ext (ext_trans HBW.out hb)) (by intro e;have:=congrArg List.length e;rw [List.length_take,List.length_drop] at this;simp at this;omega) hNX.1 hfit hlq (by rw [List.length_take];omega)
    clear hNX hpd hfit hlq
    go_upto_region 10 with fail
    obtain ⟨cb,cf,_⟩:=HCB.out v1 HBc.out
    have hsl1:s≤k + 1:=by omega
    have hsl2:k + 1≤cap:=by omega
    have hsl3:¬ cap=s:=by omega
    have hsl4:(0:Int)≤(k:Int) + 1:=by omega
    have hsl5:(k:Int) + 1≤(cap:Int):=by omega
    refine wp_region_held_drew (S:=fun _=>True) (by kernel_rfl) (trivial) (fun hHeld=>?_)
    refine tkH (v:=?_) 0 rfl ?_ ?_;rotate_left 1
    ·intro wq hSw;(try dsimp only at hSw);go_simp;try (with_reducible rfl)
    try simp only [Act.put,sA1,sA3,sA4,sA5,sA6]
    refine tkH (v:=?_) 2 rfl ?_ ?_;rotate_left 1
    ·intro wq hSw;(try dsimp only at hSw);go_simp;try (with_reducible rfl)
    try simp only [Act.put,sA1,sA2,sA3,sA4,sA5,sA6]
    refine tkH (v:=?_) 3 rfl ?_ ?_;rotate_left 1
    ·intro wq hSw;(try dsimp only at hSw);go_simp;try (with_reducible rfl)
    try simp only [Act.put,sA1,sA2,sA3,sA4,sA5,sA6]
    refine tkH (v:=?_) 4 rfl ?_ ?_;rotate_left 1
    ·intro wq hSw;(try dsimp only at hSw);go_simp;try (with_reducible rfl)
    try simp only [Act.put,sA1,sA2,sA3,sA4,sA5,sA6]
    refine tkH (v:=?_) 5 rfl ?_ ?_;rotate_left 1
    ·intro wq hSw;(try dsimp only at hSw);go_simp;try (with_reducible rfl)
    try simp only [Act.put,sA1,sA2,sA3,sA4,sA5,sA6]
    refine wpAnyH_ready (rs:=[1]) (by kernel_rfl) (by simp) ?_
    refine AllReadyH.cons (o:=_) rfl (fun K hK=>?_) AllReadyH.nil
    go_simp
    refine hK.out _ _ ?_ (fun hHeld=>?_)
    ·trivial
    clear hK K
    try simp only [Act.put,sA1,sA2,sA3,sA4,sA5,sA6]
    refine wpAnyH_ready (rs:=[6]) (by kernel_rfl) (by simp) ?_
    refine AllReadyH.cons (o:=_) rfl (fun K hK=>?_) AllReadyH.nil
    go_simp
    refine (RWC.out _ HBc.out.drew).mono ?_;clear cb cf;rintro e x1 ⟨u2,qs2,rfl,ht2,hp2,hs2,hb2⟩;have HX:=hidIt (And.intro ht2 (And.intro hp2 hs2));have HBx:=hidIt (ext_trans HBc.out.drew hb2);clear ht2 hp2 hs2 hb2;obtain ⟨cb,cf,_⟩:=HCB.out x1 HBx.out;try dsimp only
    refine hK.out _ _ ?_ (fun hHeld=>?_)
    ·trivial
    clear hK K
    try simp only [Act.put,sA1,sA2,sA3,sA4,sA5,sA6]
    refine wpAnyH_ready (rs:=[7]) (by kernel_rfl) (by simp) ?_
    refine AllReadyH.cons (o:=_) rfl (fun K hK=>?_) AllReadyH.nil
    go_simp
    generalize hwN:World.setCell _ _ _=x2;obtain ⟨p1,p2⟩:=set1 (HCB.out x1 HBx.out).2.2 0 (.pointer u2);rw [hwN] at p1 p2;have HP1:=hidIt p1;have HP2:=hidIt p2;clear p1 p2 hwN
    refine hK.out _ _ ?_ (fun hHeld=>?_)
    ·trivial
    clear hK K
    try simp only [Act.put,sA1,sA2,sA3,sA4,sA5,sA6]
    refine wpAnyH_done (by kernel_rfl) ?_ _
    go_wp2_with fail
    go_roundg s
    case rel =>
     refine ⟨by first | rfl | go_num,by omega,u2,qs2,HP1.out,?_,?_,HX.out.2.2,?_⟩
     ·exact TT.same HX.out.1 (fun k hk=>HP2.out.block k hk.lt (fun e=>by cases e;exact absurd (hk.uniq ⟨_,(HCB.out x1 HBx.out).2.2⟩) (by decide)))
     ·exact HX.out.2.1.same (fun k hk=>HP2.out.block k hk.lt (fun e=>by cases e;exact absurd (hk.uniq ⟨_,(HCB.out x1 HBx.out).2.2⟩) (by decide)))
     ·exact below_put (ext_trans HBW.out HBx.out) (ext_trans HBW.out HBx.out).size HP2.out HWB.out
    case measure=>omega
   ·have h0':¬ (0:Int) < (gk:Int):=by omega
    obtain rfl:gk=0:=by omega
    rw [List.drop_zero] at HSQ
    obtain ⟨cb,cf,_⟩:=HCB.out wo (Below.refl _ _)
    have HTW:=hidIt (HT.out.ext HBW.out)
    obtain ⟨lv2,u2,⟨_,cl,_,c3⟩,_,_,htl2⟩:=HTW.out.cells
    have HCT:Hid (∀ w',Below wo.heap.size wo w'→w'.cell? ⟨t,1,none⟩=some (.int .i64 lim)∧w'.cell? ⟨b,0,none⟩=some (.pointer u1)):=fun w' hb=>by
     obtain ⟨_,_,⟨_,k1,_,_⟩,_⟩:=(HTW.out.ext hb).cells
     exact ⟨k1,(HCB.out w' hb).1⟩
    have SU:Hid (∀ w',Below wo.heap.size wo w'→Calls Tryz.prog 56 #[.agg #[.pointer u1]] w' fun e w''=>∃ s,Hid (s=rA.su (xsOf qs))∧e=.returned (.agg #[.int .i64 s.a,.int .i64 s.s,.int .i64 s.b,.bool s.lf,.bool s.cr])∧Below w'.heap.size w' w''):=fun w' hb=>Sum_any u1 (xsOf qs) w' (HTQ.out.ext hb)
    obtain ⟨z,hz⟩:∃ z,z=ln enc (asOf qs):=⟨_,rfl⟩
    have HSS:Hid ((rA.su (xsOf qs)).s=(z:Int)):=by
     unfold Hid
     rw [HPQ.out.su,hz]
     exact (spn_a enc _ HPQ.out.fit).2
    have HZ:=hidIt hz
    have HZA:Hid (ln enc ((apE (sh enc ps) 0 es).map Prod.fst)=z):=by unfold Hid;rw [← HSQ.out,hz,sh_fst]
    have fs:=field_size
    clear hz
    go_upto_region 12 with fail
    by_cases hbig:lim < (z:Int)
    ·have HAN:=hidIt (show chA enc lim (sh enc ps) es=50 by unfold chA;rw [HC.out,if_pos rfl,HZA.out,if_pos hbig])
     refine wp_region_held_drew (S:=fun w''=>w''.cell? ⟨t,1,none⟩=some (.int .i64 lim)∧w''.cell? ⟨b,0,none⟩=some (.pointer u1)) (by kernel_rfl) (⟨cl,cb⟩) (fun hHeld=>?_)
     refine tkH (v:=?_) 0 rfl ?_ ?_;rotate_left 1
     ·intro wq hSw;(try dsimp only at hSw);go_simp;try (with_reducible rfl)
     try simp only [Act.put,sA1,sA3,sA4,sA5,sA6]
     refine tkH (v:=?_) 3 rfl ?_ ?_;rotate_left 1
     ·intro wq hSw;(try dsimp only at hSw);go_simp;try (with_reducible rfl)
     try simp only [Act.put,sA1,sA2,sA3,sA4,sA5,sA6]
     refine tkH (v:=?_) 4 rfl ?_ ?_;rotate_left 1
     ·intro wq hSw;(try dsimp only at hSw);go_simp;try (with_reducible rfl)
     try simp only [Act.put,sA1,sA2,sA3,sA4,sA5,sA6]
     refine tkH (v:=?_) 5 rfl ?_ ?_;rotate_left 1
     ·intro wq hSw;(try dsimp only at hSw);go_simp;try (with_reducible rfl)
     try simp only [Act.put,sA1,sA2,sA3,sA4,sA5,sA6]
     refine tkH (v:=?_) 6 rfl ?_ ?_;rotate_left 1
     ·intro wq hSw;(try dsimp only at hSw);go_simp;try (with_reducible rfl)
     try simp only [Act.put,sA1,sA2,sA3,sA4,sA5,sA6]
     refine wpAnyH_ready (rs:=[1]) (by kernel_rfl) (by simp) ?_
     refine AllReadyH.cons (o:=_) rfl (fun K hK=>?_) AllReadyH.nil
     go_simp
     refine (SU.out _ (Below.drew (Below.refl _ _))).mono ?_;clear cb cf cl c3;rintro e x1 ⟨⟨sa,ss,sb,sf,sc⟩,hs,rfl,hb2⟩;obtain rfl:ss=(z:Int):=(congrArg Rs.s hs.out).trans HSS.out;have HBx:Hid (Below wo.heap.size wo x1):=ext_trans (Below.drew (Below.refl _ _)) hb2;clear hs hb2;obtain ⟨cl,cb⟩:=HCT.out x1 HBx.out;try dsimp only
     refine hK.out _ _ ?_ (fun hHeld=>?_)
     ·(try simp only [World.cell?_drew]);exact ⟨cl,cb⟩
     clear hK K
     try simp only [Act.put,sA1,sA2,sA3,sA4,sA5,sA6]
     refine tkH (v:=?_) 2 rfl ?_ ?_;rotate_left 1
     ·intro wq hSw;(try dsimp only at hSw);go_simp;try (with_reducible rfl)
     try simp only [Act.put,sA1,sA2,sA3,sA4,sA5,sA6]
     refine tkH (v:=?_) 7 rfl ?_ ?_;rotate_left 1
     ·intro wq hSw;(try dsimp only at hSw);go_simp;try (with_reducible rfl)
     try simp only [Act.put,sA1,sA2,sA3,sA4,sA5,sA6]
     refine wpAnyH_done (by kernel_rfl) ?_ _
     go_wp2_with fail
     go_ret
     exact ⟨ret_int HAN.out.symm,ps,HTW.out.ext HBx.out,by unfold chT;rw [HAN.out];rfl,Kps.of_below _ (ext_trans HBW.out HBx.out)⟩
    ·have HAN:=hidIt (show chA enc lim (sh enc ps) es=0 by unfold chA;rw [HC.out,if_pos rfl,HZA.out,if_neg hbig])
     refine wp_region_held_drew (S:=fun w''=>w''.cell? ⟨t,1,none⟩=some (.int .i64 lim)∧w''.cell? ⟨b,0,none⟩=some (.pointer u1)) (by kernel_rfl) (⟨cl,cb⟩) (fun hHeld=>?_)
     refine tkH (v:=?_) 0 rfl ?_ ?_;rotate_left 1
     ·intro wq hSw;(try dsimp only at hSw);go_simp;try (with_reducible rfl)
     try simp only [Act.put,sA1,sA3,sA4,sA5,sA6]
     refine tkH (v:=?_) 3 rfl ?_ ?_;rotate_left 1
     ·intro wq hSw;(try dsimp only at hSw);go_simp;try (with_reducible rfl)
     try simp only [Act.put,sA1,sA2,sA3,sA4,sA5,sA6]
     refine tkH (v:=?_) 4 rfl ?_ ?_;rotate_left 1
     ·intro wq hSw;(try dsimp only at hSw);go_simp;try (with_reducible rfl)
     try simp only [Act.put,sA1,sA2,sA3,sA4,sA5,sA6]
     refine tkH (v:=?_) 5 rfl ?_ ?_;rotate_left 1
     ·intro wq hSw;(try dsimp only at hSw);go_simp;try (with_reducible rfl)
     try simp only [Act.put,sA1,sA2,sA3,sA4,sA5,sA6]
     refine tkH (v:=?_) 6 rfl ?_ ?_;rotate_left 1
     ·intro wq hSw;(try dsimp only at hSw);go_simp;try (with_reducible rfl)
     try simp only [Act.put,sA1,sA2,sA3,sA4,sA5,sA6]
     refine wpAnyH_ready (rs:=[1]) (by kernel_rfl) (by simp) ?_
     refine AllReadyH.cons (o:=_) rfl (fun K hK=>?_) AllReadyH.nil
     go_simp
     refine (SU.out _ (Below.drew (Below.refl _ _))).mono ?_;clear cb cf cl c3;rintro e x1 ⟨⟨sa,ss,sb,sf,sc⟩,hs,rfl,hb2⟩;obtain rfl:ss=(z:Int):=(congrArg Rs.s hs.out).trans HSS.out;have HBx:Hid (Below wo.heap.size wo x1):=ext_trans (Below.drew (Below.refl _ _)) hb2;clear hs hb2;obtain ⟨cl,cb⟩:=HCT.out x1 HBx.out;try dsimp only
     refine hK.out _ _ ?_ (fun hHeld=>?_)
     ·(try simp only [World.cell?_drew]);exact ⟨cl,cb⟩
     clear hK K
     try simp only [Act.put,sA1,sA2,sA3,sA4,sA5,sA6]
     refine tkH (v:=?_) 2 rfl ?_ ?_;rotate_left 1
     ·intro wq hSw;(try dsimp only at hSw);go_simp;try (with_reducible rfl)
     try simp only [Act.put,sA1,sA2,sA3,sA4,sA5,sA6]
     refine tkH (v:=?_) 7 rfl ?_ ?_;rotate_left 1
     ·intro wq hSw;(try dsimp only at hSw);go_simp;try (with_reducible rfl)
     try simp only [Act.put,sA1,sA2,sA3,sA4,sA5,sA6]
     refine wpAnyH_done (by kernel_rfl) ?_ _
     obtain ⟨lv3,u3,hblk,hld3,_⟩:=(HTW.out.ext HBx.out).ex
     have HBK:=hidIt hblk
     have HLD3:=hidIt hld3
     have cf3:∀ i,x1.frozen? ⟨t,i,none⟩=false:=fun i=>by simp [World.frozen?,hblk]
     have cc3:x1.cell? ⟨t,3,none⟩=some (.pointer u3):=by rw [cell_of_row x1 _ _ _ _ _ hblk];rfl
     clear hblk hld3
     go_wp2_with fail
     go_ret
     generalize hwz:World.setCell _ _ _=zz
     obtain ⟨p1,p2⟩:=set1 HBK.out 3 (.pointer u1)
     rw [hwz] at p1 p2
     have ez:∀ T,T≠116→∀ k,Typ T x1 k→zz.heap[k]?=x1.heap[k]?:=fun T hT k hk=>p2.block k hk.lt (fun e=>by cases e;exact hT (hk.uniq ⟨_,HBK.out⟩))
     refine ⟨ret_int HAN.out.symm,qs,⟨⟨lv3,u1,p1,HLD3.out.same (ez _ (by decide)),(HTQ.out.ext HBx.out).same (ez _ (by decide))⟩,(HPQ.out.ext HBx.out).same (ez _ (by decide)),HT.out.en,HT.out.by',HT.out.ll,HT.out.l0,HT.out.lm,?_⟩,?_,?_⟩
     ·have:=HT.out.lm;have:=HZ.out;omega
     ·unfold chT;rw [HAN.out,if_pos rfl];exact HSQ.out
     ·exact (Kps.of_below (fun k=>k=t) (ext_trans HBW.out HBx.out)).trans (Kps.grown p2 fun j e _=>(Option.some.inj e).symm) fun _ _ e=>e
 ·have HF:Hid (Ending.returned (.int .i64 c)=.returned (.int .i64 (chA enc lim (sh enc ps) es))∧sh enc ps=chT enc lim (sh enc ps) es):=by
   have e:chA enc lim (sh enc ps) es=c:=by unfold chA;rw [← hc,if_neg hc0]
   exact ⟨by rw [e],by unfold chT;rw [e,if_neg hc0]⟩
  have hcb:(c == 0)=false:=by simpa using hc0
  clear hc
  go_enter Tryz.func19,Tryz.ntmps19
  go_wp2_with (go_at_call 54;refine CK.out.mono ?_;rintro e w1 ⟨rfl,hb1⟩;have HB1:=hidIt hb1;clear hb1;(try dsimp only))
  go_ret
  exact ⟨HF.out.1,ps,HT.out.ext HB1.out,HF.out.2,Kps.of_below _ HB1.out⟩
end Go.Proofs.YtjjfakokakamaaaGreat.P

namespace Go.Proofs.YtjjfakokakamaaaGreat.P
open Go.RowKit
theorem sh_succ {enc:Int} {ps:List PG} {k:Nat} {x:It} {g:List Int} (h:ps[k]?=some (x,g)):sh enc (ps.take (k + 1))=sh enc (ps.take k) ++ ctn enc x.pl g:=by
 rw [List.take_add_one,h,Option.toList_some,sh_app,sh_one]
theorem sh_part (enc:Int) (ps:List PG) (k:Nat):sh enc (ps.take k) <+: sh enc ps:=by
 conv=>rhs;rw [← List.take_append_drop k ps,sh_app]
 exact List.prefix_append _ _
def btw (enc:Int) (ps:List PG) (f t:Nat):List (Int × Int):=((sh enc ps).drop f).take (t - f)
theorem btw_len {enc:Int} {ps:List PG} {f t:Nat} (h:t≤(sh enc ps).length):(btw enc ps f t).length=t - f:=by
 unfold btw;rw [List.length_take,List.length_drop];omega
def told (enc:Int) (ps:List PG) (f k m:Nat):List (Int × Int):=((sh enc ps).take ((sh enc (ps.take k)).length + m)).drop f
theorem told_pre {enc:Int} {ps:List PG} {f t k m:Nat} (h:(sh enc (ps.take k)).length + m≤t):told enc ps f k m <+: btw enc ps f t:=by
 unfold told btw
 rw [List.drop_take]
 exact List.take_prefix_take_left (by omega)
theorem told_all {enc:Int} {ps:List PG} {f t k m:Nat} (h:(sh enc (ps.take k)).length + m=t):told enc ps f k m=btw enc ps f t:=by
 unfold told btw
 rw [List.drop_take,h]
theorem told_next {enc:Int} {ps:List PG} {f k:Nat} {x:It} {g:List Int} (h:ps[k]?=some (x,g)):told enc ps f k g.length=told enc ps f (k + 1) 0:=by
 unfold told
 rw [sh_succ h,List.length_append,ctn_len,Nat.add_zero]
theorem sh_get {enc:Int} {ps:List PG} {k m:Nat} {x:It} {g:List Int} (h:ps[k]?=some (x,g)) (hm:m < g.length):(sh enc ps)[(sh enc (ps.take k)).length + m]?=(ctn enc x.pl g)[m]?:=by
 obtain ⟨z,hz⟩:=sh_part enc ps (k + 1)
 rw [← hz,sh_succ h,List.getElem?_append_left (by rw [List.length_append,ctn_len];omega),List.getElem?_append_right (by omega)]
 congr 1;omega
theorem ctn_get {enc:Int} {g:List Int} {pl:Int} (h:-1≤pl) {m:Nat} {a:Int} (ha:g[m]?=some a):(ctn enc pl g)[m]?=some (a,tg pl (ln enc (g.take m):Nat)):=by
 have e:=(ctn_take enc g pl h m).2
 have k:(ctn enc pl g)[m]?=((ctn enc pl g).drop m)[0]?:=by rw [List.getElem?_drop,Nat.add_zero]
 rw [k,e,drop_of ha]
 rfl
theorem told_snoc {enc:Int} {ps:List PG} {f k m:Nat} {x:It} {g:List Int} {a:Int} (h:ps[k]?=some (x,g)) (hl:-1≤x.pl) (ha:g[m]?=some a) (hf:f≤(sh enc (ps.take k)).length + m):told enc ps f k (m + 1)=told enc ps f k m ++ [(a,tg x.pl (ln enc (g.take m):Nat))]:=by
 have hm:m < g.length:=(List.getElem?_eq_some_iff.1 ha).1
 have e:=sh_get (enc:=enc) h hm
 rw [ctn_get hl ha] at e
 unfold told
 have hlt:=(List.getElem?_eq_some_iff.1 e).1
 rw [← Nat.add_assoc,List.take_add_one,e,Option.toList_some,List.drop_append_of_le_length (by rw [List.length_take];omega)]
theorem find_from {enc:Int} {L:List Int} {w:World} {ps:List PG} (h:Pcs enc L w ps) (f:Nat) :
  ∃ i,rA.fnd 0 ((f:Int) + 1) Rs.zero (xsOf ps)=i + 1∧i≤ps.length∧(sh enc (ps.take i)).length≤f∧∀ x g,ps[i]?=some (x,g)→f - (sh enc (ps.take i)).length < g.length:=by
 have l2:=rA.fnd_le 0 ((f:Int) + 1) (xsOf ps) Rs.zero
 rw [xsOf_len] at l2
 have h0:rA.fnd 0 ((f:Int) + 1) Rs.zero (xsOf ps)≠0:=by
  intro e
  have:=rA.fnd_hit 0 ((f:Int) + 1) (xsOf ps) Rs.zero Rs.ok_zero (by rw [e];exact Nat.zero_le _)
  rw [e,key_len h] at this
  simp [sh] at this
  omega
 obtain ⟨i,hi⟩:∃ i,rA.fnd 0 ((f:Int) + 1) Rs.zero (xsOf ps)=i + 1:=⟨_,(Nat.succ_pred_eq_of_ne_zero h0).symm⟩
 have hle:(sh enc (ps.take i)).length≤f:=by
  have:=rA.fnd_less 0 ((f:Int) + 1) (xsOf ps) Rs.zero i Rs.ok_zero (by omega)
  rw [key_len h] at this
  omega
 refine ⟨i,hi,by omega,hle,?_⟩
 ·intro x g hg
  have hlt:=(List.getElem?_eq_some_iff.1 hg).1
  have:=rA.fnd_hit 0 ((f:Int) + 1) (xsOf ps) Rs.zero Rs.ok_zero (by rw [hi,xsOf_len];omega)
  rw [hi,key_len h,sh_succ hg,List.length_append,ctn_len] at this
  omega
end Go.Proofs.YtjjfakokakamaaaGreat.P

namespace Go.Proofs.YtjjfakokakamaaaGreat.P
open Go.RowKit Go.Shelf
attribute [local go_sem] Oper.semAt_some
theorem hdd (k:Nat):Fence.wide.depth.isSome=true→1≤k:=fun h=>by cases h
theorem round_any {m m':Nat} {P:Program} {l:Nat} {f:FuncId} {tmps:Array Value} {assign body:Code} {w:World} {R:Ending→World→Prop} (h:RoundIn Fence.wide m P l f tmps assign body w R):RoundIn Fence.wide m' P l f tmps assign body w R:=⟨h.1,fun c cs _=>h.2 c cs (fun d h=>by cases h)⟩
theorem yield_any {m:Nat} (m':Nat) {P:Program} {l:Nat} {args:Array Value} {W:World} {R:Ending→World→Prop} (h:YieldAt Fence.wide m P l args W R):YieldAt Fence.wide m' P l args W R:=by
 obtain ⟨fn,tmps,assign,body,hy,hR⟩:=h
 exact ⟨fn,tmps,assign,body,hy,round_any hR⟩
def OnX {σ:Type} (G:Guest σ It) (s:σ) (pre xs:List It) (W:World) (e:Ending) (W':World):Prop :=
 (e=.returned (.bool true)∧∃ s',G.J s' (pre ++ xs) W'∧Kps (G.own s) W W'∧Newer G.own s s' W)∨(e=.returned (.bool false)∧∃ s' q,q <+: xs∧G.Jx s' (pre ++ q) W'∧Kps (G.own s) W W'∧Newer G.own s s' W)
theorem Newer.trans {σ:Type} {own:σ→Nat→Prop} {s s' s'':σ} {W W':World} (h:Newer own s s' W) (h':Newer own s' s'' W') (hz:W.heap.size≤W'.heap.size):Newer own s s'' W:=fun k hk=>by
 rcases h' k hk with h1 | h1
 ·exact h k h1
 ·exact .inr (by omega)
theorem Kps.next {σ:Type} {own:σ→Nat→Prop} {s s':σ} {A B C:World} (h:Kps (own s) A B) (hn:Newer own s s' A) (k:Kps (own s') B C):Kps (own s) A C :=
 h.trans k (fun i hi hp=>by rcases hn i hp with h1 | h1;exact h1;omega)
theorem OnX.next {σ:Type} {G:Guest σ It} {s s':σ} {pre xs ys:List It} {W W' W'':World} {e:Ending} (k:Kps (G.own s) W W') (hn:Newer G.own s s' W) (h:OnX G s' (pre ++ xs) ys W' e W''):OnX G s pre (xs ++ ys) W e W'':=by
 rcases h with ⟨rfl,t,h1,h2,h3⟩ | ⟨rfl,t,q,h0,h1,h2,h3⟩
 ·exact .inl ⟨rfl,t,by rw [← List.append_assoc];exact h1,k.next hn h2,hn.trans h3 k.size⟩
 ·refine .inr ⟨rfl,t,xs ++ q,?_,by rw [← List.append_assoc];exact h1,k.next hn h2,hn.trans h3 k.size⟩
  obtain ⟨z,hz⟩:=h0
  exact ⟨z,by rw [List.append_assoc,hz]⟩
def RdX {σ α:Type} (G:Guest σ α) (s:σ) (pre:List α) (x:α) (W:World) (e:Ending) (W':World):Prop :=
 (e=.returned (.bool true)∧∃ s',G.J s' (pre ++ [x]) W'∧Kps (G.own s) W W'∧Newer G.own s s' W)∨(e=.returned (.bool false)∧∃ s',G.Jx s' (pre ++ [x]) W'∧Kps (G.own s) W W'∧Newer G.own s s' W)
theorem own_on {σ α:Type} {G:Guest σ α} {s s':σ} {w0 W W':World} (hB:Below w0.heap.size w0 W) (ho:∀ k,G.own s k→w0.heap.size≤k) (k:Kps (G.own s) W W') (hn:Newer G.own s s' W):Below w0.heap.size w0 W'∧∀ k,G.own s' k→w0.heap.size≤k:=by
 have h1:=hB.size
 refine ⟨hB.trans (k.below h1 ho),fun i hi=>?_⟩
 rcases hn i hi with h | h
 ·exact ho i h
 ·omega
set_option maxRecDepth 100000 in
set_option maxHeartbeats 4000000 in
theorem walk_in {σ:Type} (G:Guest σ It) (l:Nat) (full:List It) (w0:World)
  (hY:∀ m s pre x W1,G.J s pre W1→pre ++ [x] <+: full→YieldAt Fence.wide m Tryz.prog l #[.agg #[.slice x.p x.n x.c,.int .i64 x.pl,.int .i64 x.sp.a,.int .i64 x.sp.s,.int .i64 x.sp.b,.bool x.sp.lf,.bool x.sp.cr]] W1 (RdX G s pre x W1)) (t:Tr It) :
  ∀ (n:Nat) (u:Option Addr) (fr:Nat) (s:σ) (pre:List It) (W:World),Tin w0 t u→Below w0.heap.size w0 W→(∀ k,G.own s k→w0.heap.size≤k)→t.list.length≤4611686018427387904→fr≤9223372036854775807→G.J s pre W→pre ++ t.list.drop fr <+: full →
    CallsIn Fence.wide n Tryz.prog 98 #[.pointer u,.int .i64 fr,.func (.yield l) #[] #[]] W (OnX G s pre (t.list.drop fr) W):=by
 induction t using Tr.ind with
 | nil =>
   intro n u fr s pre W hT hB ho hl hf hJ hN
   have CN:CallsIn Fence.wide (n - 1) Tryz.prog 102 #[.pointer u] W fun e w'=>e=.returned (.int .i64 0)∧w'=W:=callsIn_wide.2 (count_any .nil u W (hT.ext hB))
   have HE:Hid (OnX G s pre ((Tr.nil:Tr It).list.drop fr) W (.returned (.bool true)) W):=.inl ⟨rfl,s,by simpa [Tr.list] using hJ,Kps.refl _ _,fun k h=>.inl h⟩
   have h00:(0:Int)≤(fr:Int):=by omega
   clear hT hY
   refine callsIn_of_wp Tryz.func98 rfl trivial ?_ rfl
   simp only [Tryz.ntmps98,List.size_toArray,List.length_cons,List.length_nil,Nat.reduceAdd,Nat.reduceSub,Array.replicate_succ,Array.replicate_zero,List.push_toArray,List.append_toArray,List.nil_append,List.cons_append]
   gi_wp2_with (refine ⟨trivial,hdd _,?_⟩;gi_at_call 102;refine CN.mono ?_;clear CN;rintro e W1 ⟨rfl,hw1⟩;obtain rfl:W=W1:=hw1.symm)
   go_ret
   exact HE.out
 | node tl x tr ihl ihr =>
   intro n u fr s pre W hT hB ho hl hf hJ hN
   have CN:=hidIt (callsIn_wide (n:=n - 1) |>.2 (count_any (.node tl x tr) u W (hT.ext hB)))
   have HLEN:Hid ((Tr.node tl x tr).list.length=tl.list.length + 1 + tr.list.length):=by unfold Hid;simp only [Tr.list,List.length_append,List.length_cons];omega
   by_cases hge:(Tr.node tl x tr).list.length≤fr
   ·have HE:Hid (OnX G s pre ((Tr.node tl x tr).list.drop fr) W (.returned (.bool true)) W):=.inl ⟨rfl,s,by rw [List.drop_of_length_le hge,List.append_nil];exact hJ,Kps.refl _ _,fun k h=>.inl h⟩
    generalize (Tr.node tl x tr).list.length=nn at *
    have hge':(nn:Int)≤(fr:Int):=by omega
    clear hT hY ihl ihr
    refine callsIn_of_wp Tryz.func98 rfl trivial ?_ rfl
    simp only [Tryz.ntmps98,List.size_toArray,List.length_cons,List.length_nil,Nat.reduceAdd,Nat.reduceSub,Array.replicate_succ,Array.replicate_zero,List.push_toArray,List.append_toArray,List.nil_append,List.cons_append]
    gi_wp2_with (refine ⟨trivial,hdd _,?_⟩;gi_at_call 102;refine CN.out.mono ?_;clear CN;rintro e W1 ⟨rfl,hw1⟩;obtain rfl:W=W1:=hw1.symm)
    go_ret
    exact HE.out
   ·obtain ⟨g,lv,rv,rfl,hb,hlt,hrt⟩:=hT
    have hgw:g < w0.heap.size:=(Array.getElem?_eq_some_iff.1 hb).1
    have HN:Hid (∀ W',Below w0.heap.size w0 W'→(W'.cell? ⟨g,0,none⟩=some (.slice x.p x.n x.c)∧W'.cell? ⟨g,1,none⟩=some (.int .i64 x.pl)∧W'.cell? ⟨g,2,none⟩=some (.int .i64 x.sp.a)∧W'.cell? ⟨g,3,none⟩=some (.int .i64 x.sp.s)∧W'.cell? ⟨g,4,none⟩=some (.int .i64 x.sp.b)∧W'.cell? ⟨g,5,none⟩=some (.bool x.sp.lf)∧W'.cell? ⟨g,6,none⟩=some (.bool x.sp.cr))∧W'.cell? ⟨g,7,none⟩=some (.pointer lv)∧W'.cell? ⟨g,8,none⟩=some (.pointer rv)∧g < W'.heap.size):=fun W' hB'=>by
     have hb':=hB'.block g hgw
     rw [hb] at hb'
     refine ⟨?_,?_,?_,(Array.getElem?_eq_some_iff.1 hb').1⟩
     ·refine ⟨?_,?_,?_,?_,?_,?_,?_⟩ <;> (rw [cell_of_row W' g _ _ _ _ hb'];rfl)
     ·rw [cell_of_row W' g _ _ _ _ hb'];rfl
     ·rw [cell_of_row W' g _ _ _ _ hb'];rfl
    have CL:=hidIt (callsIn_wide (n:=n - 1) |>.2 (count_any tl lv W (hlt.ext hB)))
    have e1:(Tr.node tl x tr).list.drop fr=tl.list.drop fr ++ (x :: tr.list).drop (fr - tl.list.length):=by simp only [Tr.list];rw [List.drop_append]
    rw [e1] at hN
    rw [e1]
    have hlen:=HLEN.out
    have WL:=hidIt (ihl (n - 1) lv fr s pre W hlt hB ho (by omega) hf hJ (by rw [← List.append_assoc] at hN;exact (List.prefix_append _ _).trans hN))
    obtain ⟨c0,c1,c2,hgl⟩:=HN.out W hB
    have hlt':¬ ((Tr.node tl x tr).list.length:Int)≤(fr:Int):=by omega
    have HB:=hidIt hB
    have HO:=hidIt ho
    have HRT:=hidIt hrt
    have HNN:=hidIt hN
    have HLL:=hidIt hl
    clear hb e1 hB ho hrt hlt hN hJ ihl hl
    generalize hnn:(Tr.node tl x tr).list.length=nn at *
    refine callsIn_of_wp Tryz.func98 rfl trivial ?_ rfl
    simp only [Tryz.ntmps98,List.size_toArray,List.length_cons,List.length_nil,Nat.reduceAdd,Nat.reduceSub,Array.replicate_succ,Array.replicate_zero,List.push_toArray,List.append_toArray,List.nil_append,List.cons_append]
    gi_wp2_with fail
    refine ⟨trivial,hdd _,?_⟩
    refine CN.out.mono ?_
    rintro e W1 ⟨rfl,hw1⟩
    obtain rfl:W=W1:=hw1.symm
    gi_wp2_with fail
    refine ⟨trivial,hdd _,?_⟩
    refine CL.out.mono ?_
    rintro e W1 ⟨rfl,hw1⟩
    obtain rfl:W=W1:=hw1.symm
    clear CN CL
    gi_wp2_with fail
    refine ⟨trivial,hdd _,?_⟩
    refine WL.out.mono ?_
    clear WL c0 c1 c2 hgl
    rintro e W1 (⟨rfl,s1,hJ1,k1,n1⟩ | ⟨rfl,s1,q,hq,hx1,k1,n1⟩)
    case inr =>
     have HE:Hid (OnX G s pre (tl.list.drop fr ++ (x :: tr.list).drop (fr - tl.list.length)) W (.returned (.bool false)) W1):=.inr ⟨rfl,s1,q,hq.trans (List.prefix_append _ _),hx1,k1,n1⟩
     clear hY ihr
     gi_wp2_with fail
     go_ret
     exact HE.out
    obtain ⟨hB1,ho1⟩:=own_on HB.out HO.out k1 n1
    obtain ⟨c0,c1,c2,hgl⟩:=HN.out W1 hB1
    have K1:=hidIt k1
    have N1:=hidIt n1
    by_cases hle:fr≤tl.list.length
    ·have e2:(x :: tr.list).drop (fr - tl.list.length)=[x] ++ tr.list.drop 0:=by rw [show fr - tl.list.length=0 by omega];rfl
     have HNN2:Hid (pre ++ tl.list.drop fr ++ [x] ++ tr.list <+: full):=by have h:=HNN.out;rw [e2,List.drop_zero,← List.append_assoc,← List.append_assoc] at h;exact h
     have E2:=hidIt e2
     obtain ⟨fn,tmps,assign,body,hy,hR⟩:=hY (n - 1) s1 (pre ++ tl.list.drop fr) x W1 hJ1 ((List.prefix_append _ _).trans HNN2.out)
     have HR:=hidIt hR
     have hle':(fr:Int)≤(tl.list.length:Int):=by omega
     have hmx:(fr:Int) - tl.list.length - 1 < 0:=by omega
     have hmx':¬ 0≤(fr:Int) - tl.list.length - 1:=by omega
     have HB1:=hidIt hB1
     have HO1:=hidIt ho1
     have hl1:tl.list.length≤4611686018427387904:=by have:=HLL.out;have:=HLEN.out;omega
     clear hR e2 hB1 ho1 hJ1 k1 n1
     generalize hnl:tl.list.length=nl at *
     gi_wp2_with fail
     refine ⟨hdd _,?_⟩
     refine HR.out.mono ?_
     clear hy HR c0 c1 c2 hgl
     rintro e W2 (⟨rfl,s2,hJ2,k2,n2⟩ | ⟨rfl,s2,hx2,k2,n2⟩)
     case inr =>
      have HE:Hid (OnX G s pre (tl.list.drop fr ++ (x :: tr.list).drop (fr - nl)) W (.returned (.bool false)) W2):=by rw [E2.out];exact OnX.next K1.out N1.out (.inr ⟨rfl,s2,[x],List.prefix_append _ _,hx2,k2,n2⟩)
      clear ihr hY
      gi_wp2_with fail
      go_ret
      exact HE.out
     obtain ⟨hB2,ho2⟩:=own_on HB1.out HO1.out k2 n2
     obtain ⟨c0,c1,c2,hgl⟩:=HN.out W2 hB2
     have WR:=hidIt (ihr (n - 1) rv 0 s2 (pre ++ tl.list.drop fr ++ [x]) W2 HRT.out hB2 ho2 (by have:=HLL.out;have:=HLEN.out;omega) (by omega) hJ2 (by rw [List.drop_zero];exact HNN2.out))
     have K2:=hidIt k2
     have N2:=hidIt n2
     clear hB2 ho2 hJ2 k2 n2 ihr hY
     gi_wp2_with fail
     refine ⟨trivial,hdd _,?_⟩
     refine WR.out.mono ?_
     clear WR c0 c1 c2 hgl
     intro e W3 h3
     have HE:Hid (OnX G s pre (tl.list.drop fr ++ (x :: tr.list).drop (fr - nl)) W e W3):=by rw [E2.out];exact OnX.next K1.out N1.out (OnX.next K2.out N2.out h3)
     rcases h3 with ⟨rfl,_⟩ | ⟨rfl,_⟩
     ·gi_wp2_with fail
      go_ret
      exact HE.out
     ·gi_wp2_with fail
      go_ret
      exact HE.out
    ·have e2:(x :: tr.list).drop (fr - tl.list.length)=tr.list.drop (fr - tl.list.length - 1):=by
      obtain ⟨m,hm⟩:∃ m,fr - tl.list.length=m + 1:=⟨fr - tl.list.length - 1,by omega⟩
      rw [hm];rfl
     have HNN2:Hid (pre ++ tl.list.drop fr ++ tr.list.drop (fr - tl.list.length - 1) <+: full):=by have h:=HNN.out;rw [e2,← List.append_assoc] at h;exact h
     have E2:=hidIt e2
     obtain ⟨q,hq⟩:∃ q:Nat,q=fr - tl.list.length - 1:=⟨_,rfl⟩
     rw [← hq] at HNN2 E2
     have hle':¬ (fr:Int)≤(tl.list.length:Int):=by omega
     have hled:decide ((fr:Int)≤(tl.list.length:Int))=false:=by simpa using hle'
     have hsb:(fr:Int) - tl.list.length - 1=(q:Int):=by omega
     have hq0:¬ (q:Int) < 0:=by omega
     have hfr:(fr:Int)≤9223372036854775807:=by omega
     have WR:=hidIt (ihr (n - 1) rv q s1 (pre ++ tl.list.drop fr) W1 HRT.out hB1 ho1 (by have:=HLL.out;have:=HLEN.out;omega) (by omega) hJ1 HNN2.out)
     have hl1:tl.list.length≤4611686018427387904:=by have:=HLL.out;have:=HLEN.out;omega
     clear e2 hB1 ho1 hJ1 k1 n1 ihr hY hq
     generalize hnl:tl.list.length=nl at *
     gi_wp2_with fail
     refine ⟨fun _ h=>(by cases h),?_⟩
     gi_wp2_with fail
     refine ⟨trivial,hdd _,?_⟩
     refine WR.out.mono ?_
     clear WR c0 c1 c2 hgl
     intro e W3 h3
     have HE:Hid (OnX G s pre (tl.list.drop fr ++ (x :: tr.list).drop (fr - nl)) W e W3):=by rw [E2.out];exact OnX.next K1.out N1.out h3
     rcases h3 with ⟨rfl,_⟩ | ⟨rfl,_⟩
     ·gi_wp2_with fail
      go_ret
      exact HE.out
     ·gi_wp2_with fail
      go_ret
      exact HE.out
theorem Items_any (u:Option Addr) (fr:Int) (m:Nat) (w:World) (hm:(m:Int)=max fr 0) :
  Calls Tryz.prog 60 #[.agg #[.pointer u],.int .i64 fr] w fun e w'=>e=.returned (.func (.func 97) #[] #[.pointer (some ⟨w.heap.size,0,none⟩),.pointer (some ⟨w.heap.size + 1,0,none⟩)]) ∧
   w'=(w.alloc (.cells #[.pointer u] 114)).alloc (.cells #[.int .i64 m] 3):=by
 by_cases h:fr < 0
 ·obtain rfl:m=0:=by omega
  clear hm
  go_enter Tryz.func60,Tryz.ntmps60
  go_wp2_with fail
  go_ret
  exact ⟨rfl,rfl⟩
 ·have hfm:fr=(m:Int):=by omega
  have hnn:¬ (m:Int) < 0:=by omega
  clear hm h
  subst hfm
  go_enter Tryz.func60,Tryz.ntmps60
  go_wp2_with fail
  go_ret
  exact ⟨rfl,rfl⟩
theorem items_stops (n:Nat) (t:Tr It) (u:Option Addr) (m:Nat) (w:World) (a b n₀:Nat) (hn:n₀≤w.heap.size) (ha:a < w.heap.size) (hb:b < w.heap.size) (wT:World) (hwT:wT.heap.size=n₀) (hBT:Below n₀ wT w) (hT:Tin wT t u) (hl:t.list.length≤4611686018427387904) (hm:m≤9223372036854775807)
  (hA:w.heap[a]?=some (.cells #[.pointer u] 114 (0,0))) (hB:w.heap[b]?=some (.cells #[.int .i64 m] 3 (0,0))) :
  SeqX Fence.wide n Tryz.prog 97 #[.pointer (some ⟨a,0,none⟩),.pointer (some ⟨b,0,none⟩)] (fun x:It=>#[.agg #[.slice x.p x.n x.c,.int .i64 x.pl,.int .i64 x.sp.a,.int .i64 x.sp.s,.int .i64 x.sp.b,.bool x.sp.lf,.bool x.sp.cr]]) (fun k=>k < n₀∨k=a∨k=b) (fun xs=>xs=t.list.drop m) (fun pre=>pre <+: t.list.drop m) w:=by
 intro l σ G s W hK hrel _ hY h0
 have hbW:Below wT.heap.size wT W:=by
  rw [hwT]
  exact ⟨hK.os.trans hBT.os,hK.tape.trans hBT.tape,hK.output.trans hBT.output,by have:=hK.size;omega,fun k hk=>(hK.same k (by omega) (fun e=>e (.inl hk))).trans (hBT.block k hk)⟩
 have hA':W.heap[a]?=some (.cells #[.pointer u] 114 (0,0)):=(hK.same a ha (fun e=>e (.inr (.inl rfl)))).trans hA
 have hB':W.heap[b]?=some (.cells #[.int .i64 m] 3 (0,0)):=(hK.same b hb (fun e=>e (.inr (.inr rfl)))).trans hB
 have c0:W.cell? ⟨a,0,none⟩=some (.pointer u):=by rw [cell_of_row W a _ _ _ _ hA'];rfl
 have c1:W.cell? ⟨b,0,none⟩=some (.int .i64 m):=by rw [cell_of_row W b _ _ _ _ hB'];rfl
 have hw:=hidIt (walk_in G l (t.list.drop m) wT (fun k s pre x W1 hj hlen=>yield_any k (hY s pre x W1 hj hlen)) t (n - 1) u m s [] W hT hbW (fun k ho=>by
  rw [hwT]
  by_cases hk:k < n₀
  ·exact absurd ho (hrel k (.inl hk)).2
  ·omega) hl hm h0 (List.prefix_refl _))
 clear hY hA' hB' hA hB hT hbW
 generalize t.list.drop m=xs at *
 refine callsIn_of_wp Tryz.func97 rfl trivial ?_ rfl
 simp only [Tryz.ntmps97,List.size_toArray,List.length_cons,List.length_nil,Nat.reduceAdd,Nat.reduceSub,Array.replicate_succ,Array.replicate_zero,List.push_toArray,List.append_toArray,List.nil_append,List.cons_append]
 gi_wp2_with fail
 refine ⟨trivial,hdd _,?_⟩
 refine hw.out.mono ?_
 rintro e W1 (⟨rfl,s1,hJ1,k1,n1⟩ | ⟨rfl,s1,q,hq,hx1,k1,n1⟩)
 ·have HE:=hidIt (show ∃ s',Kps (G.own s) W W1∧Newer G.own s s' W∧((∃ ys,ys=xs∧G.J s' ys W1)∨(∃ pre,pre <+: xs∧G.Jx s' pre W1)) from ⟨s1,k1,n1,.inl ⟨xs,rfl,by simpa using hJ1⟩⟩)
  clear hw hJ1
  gi_wp2_with fail
  go_end0
  exact ⟨⟨_,rfl⟩,HE.out⟩
 ·have HE:=hidIt (show ∃ s',Kps (G.own s) W W1∧Newer G.own s s' W∧((∃ ys,ys=xs∧G.J s' ys W1)∨(∃ pre,pre <+: xs∧G.Jx s' pre W1)) from ⟨s1,k1,n1,.inr ⟨q,hq,by simpa using hx1⟩⟩)
  clear hw hx1
  gi_wp2_with fail
  go_end0
  exact ⟨⟨_,rfl⟩,HE.out⟩
end Go.Proofs.YtjjfakokakamaaaGreat.P
