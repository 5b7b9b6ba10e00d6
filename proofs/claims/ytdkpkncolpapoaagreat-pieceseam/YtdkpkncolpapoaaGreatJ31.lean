import Derived.Test.YtdkpkncolpapoaaGreatJ00
import Derived.Test.YtdkpkncolpapoaaGreatJ30
import Derived.Test.YtdkpkncolpapoaaGreatJ29
import Derived.Test.YtdkpkncolpapoaaGreatJ27
import Derived.Test.YtdkpkncolpapoaaGreatJ22
import Derived.Deep.RegionHeld3
namespace Go.Proofs.YtdkpkncolpapoaaGreat.P
open Go.RowKit
def tgd (l:List (Int × Int)):List (Int × Int):=l.filter fun x=>x.2 != -1
theorem tgd_app (a b:List (Int × Int)):tgd (a ++ b)=tgd a ++ tgd b:=by unfold tgd;exact List.filter_append ..
theorem tgd_new (p:List Int):tgd (p.map fun a=>(a,(-1:Int)))=[]:=by
 induction p with
 | nil=>rfl
 | cons a p ih=>unfold tgd at *;rw [List.map_cons,List.filter_cons_of_neg (by simp)];exact ih
theorem tgd_ap (l:List (Int × Int)):∀ (es:List Ed) (p:Nat),rg l.length p es=true→(tgd (apE l p es)).Sublist (tgd (l.drop p)):=by
 intro es
 induction es with
 | nil=>intro p _;exact List.Sublist.refl _
 | cons e es ih =>
   intro p h
   rw [rg_cons] at h
   obtain ⟨⟨h1,h2,h3⟩,h4⟩:=h
   have k:=ih e.2.1.toNat (by rwa [Int.toNat_of_nonneg (by omega)])
   have e1:tgd (l.drop p)=tgd ((l.drop p).take (e.1.toNat - p)) ++ tgd (l.drop e.1.toNat):=by
    rw [← tgd_app]
    have:l.drop e.1.toNat=(l.drop p).drop (e.1.toNat - p):=by rw [List.drop_drop];congr 1;omega
    rw [this,List.take_append_drop]
   have e2:l.drop e.2.1.toNat=(l.drop e.1.toNat).drop (e.2.1.toNat - e.1.toNat):=by rw [List.drop_drop];congr 1;omega
   rw [apE,tgd_app,tgd_app,tgd_new,List.append_nil,e1]
   refine List.Sublist.append (List.Sublist.refl _) (k.trans ?_)
   rw [e2]
   exact (List.drop_sublist _ _).filter _
theorem tgd_ch (enc lim:Int) (l:List (Int × Int)) (es:List Ed):(tgd (chT enc lim l es)).Sublist (tgd l):=by
 unfold chT
 split
 ·rename_i h
  have hc:ckA enc lim l.length es=0:=by
   unfold chA at h
   split at h
   ·assumption
   ·exact h
  have:=tgd_ap l es 0 (ck_zero hc).2.1
  rwa [List.drop_zero] at this
 ·exact List.Sublist.refl _
theorem ctn_mem (enc:Int):∀ (g:List Int) (pl:Int),0≤pl→∀ x ∈ ctn enc pl g,∃ a b:List Int,g=a ++ x.1 :: b∧x.2=pl + (ln enc a:Nat):=by
 intro g
 induction g with
 | nil=>intro pl _ x hx;simp [ctn] at hx
 | cons a0 g ih =>
   intro pl h x hx
   rw [ctn,List.mem_cons] at hx
   rcases hx with rfl | hx
   ·exact ⟨[],g,rfl,by rw [ln_nil];simp⟩
   ·have ht:tg pl ((Cx.put enc a0).length:Nat)=pl + ((Cx.put enc a0).length:Nat):=by unfold tg;rw [if_neg (by omega)]
    rw [ht] at hx
    obtain ⟨a,b,h1,h2⟩:=ih _ (by omega) x hx
    refine ⟨a0 :: a,b,by rw [h1];rfl,?_⟩
    rw [h2,ln_cons]
    omega
theorem ctn_rise (enc:Int):∀ (g:List Int) (pl:Int),0≤pl→(ctn enc pl g).Pairwise (fun x y=>x.2 < y.2):=by
 intro g
 induction g with
 | nil=>intro pl _;exact List.Pairwise.nil
 | cons a0 g ih =>
   intro pl h
   have ht:tg pl ((Cx.put enc a0).length:Nat)=pl + ((Cx.put enc a0).length:Nat):=by unfold tg;rw [if_neg (by omega)]
   rw [ctn,ht]
   refine List.Pairwise.cons (fun y hy=>?_) (ih _ (by omega))
   obtain ⟨a,b,_,h2⟩:=ctn_mem enc g _ (by omega) y hy
   have:=(Cx.put_len enc a0).1
   rw [h2]
   show pl < _
   omega
def Fai (enc:Int) (L:List Int) (l:List (Int × Int)):Prop:=(tgd l).Sublist (ctn enc 0 (Cx.dec enc L))
theorem Fai.first (enc:Int) (L:List Int):Fai enc L (ctn enc 0 (Cx.dec enc L)):=List.filter_sublist
theorem Fai.ch {enc:Int} {L:List Int} {l:List (Int × Int)} (h:Fai enc L l) (lim:Int) (es:List Ed):Fai enc L (chT enc lim l es):=(tgd_ch enc lim l es).trans h
theorem Fai.at {enc:Int} (he:Cx.En enc) {L:List Int} (hB:Byt L) {l:List (Int × Int)} (h:Fai enc L l) (x:Int × Int) (hx:x ∈ l) (hn:x.2≠-1):∃ k:Nat,x.2=(k:Int)∧k + (Cx.put enc x.1).length≤L.length∧(L.drop k).take (Cx.put enc x.1).length=Cx.put enc x.1:=by
 have hm:x ∈ ctn enc 0 (Cx.dec enc L):=h.subset (by unfold tgd;rw [List.mem_filter];exact ⟨hx,by simpa using hn⟩)
 obtain ⟨a,b,h1,h2⟩:=ctn_mem enc _ 0 (Int.le_refl _) x hm
 have hb:=(Cx.back_all enc he L.length L (Nat.le_refl _) hB).1
 rw [h1,Cx.encB_app,Cx.encB_cons] at hb
 refine ⟨ln enc a,by rw [h2];omega,?_,?_⟩
 ·have:=congrArg List.length hb
  rw [List.length_append,List.length_append] at this
  show (Cx.encB enc a).length + _≤_
  omega
 ·rw [← hb,show ln enc a=(Cx.encB enc a).length from rfl,List.drop_left,List.take_left]
theorem Fai.rise {enc:Int} {L:List Int} {l:List (Int × Int)} (h:Fai enc L l) (i:Nat) (x:Int × Int) (hx:l[i]?=some x) (hn:x.2≠-1):∀ y ∈ l.drop (i + 1),y.2≠-1→x.2 < y.2:=by
 have hp:(tgd l).Pairwise (fun x y=>x.2 < y.2):=(ctn_rise enc _ 0 (Int.le_refl _)).sublist h
 have hi:=(List.getElem?_eq_some_iff.1 hx).1
 have hl:l=l.take i ++ x :: l.drop (i + 1):=by
  have e:l.drop i=x :: l.drop (i + 1):=by
   rw [List.drop_eq_getElem_cons hi]
   congr 1
   exact (List.getElem?_eq_some_iff.1 hx).2
  rw [← e,List.take_append_drop]
 intro y hy hyn
 rw [hl,tgd_app,List.pairwise_append] at hp
 have h2:=hp.2.1
 have e2:tgd (x :: l.drop (i + 1))=x :: tgd (l.drop (i + 1)):=by unfold tgd;rw [List.filter_cons_of_pos (by simpa using hn)]
 rw [e2,List.pairwise_cons] at h2
 exact h2.1 y (by unfold tgd;rw [List.mem_filter];exact ⟨hy,by simpa using hyn⟩)
theorem Fai.nonneg {enc:Int} {L:List Int} {l:List (Int × Int)} (h:Fai enc L l) (x:Int × Int) (hx:x ∈ l) (hn:x.2≠-1):-1 < x.2:=by
 have hm:x ∈ ctn enc 0 (Cx.dec enc L):=h.subset (by unfold tgd;rw [List.mem_filter];exact ⟨hx,by simpa using hn⟩)
 obtain ⟨a,b,_,h2⟩:=ctn_mem enc _ 0 (Int.le_refl _) x hm
 omega
end Go.Proofs.YtdkpkncolpapoaaGreat.P

namespace Go.Proofs.YtdkpkncolpapoaaGreat.P
open Go.RowKit
theorem rd_at {k:IntKind} {w:World} {ao:Option Addr} {n c:Nat} {zs:List Int} (h:Rd k w (.slice ao n c) zs) (i:Nat) (hi:i < zs.length):∃ b o,ao=some ⟨b,o,none⟩∧b < w.heap.size∧w.cell? ⟨b,o + i,none⟩=some (.int k (zs[i]?.getD 0))∧n≤c:=by
 obtain ⟨ao',c',e1,h1,_,h3⟩:=h
 simp only [Value.slice.injEq] at e1
 obtain ⟨rfl,rfl,rfl⟩:=e1
 obtain ⟨b,o,rfl,hb,hc⟩:=h3 (by intro e;subst e;simp at hi)
 exact ⟨b,o,rfl,hb,hc i hi,h1⟩
theorem rd_part {k:IntKind} {w:World} {b o n c:Nat} {zs:List Int} (h:Rd k w (.slice (some ⟨b,o,none⟩) n c) zs) (q m:Nat) (hq:q + m≤zs.length) (hm:0 < m) (c':Nat) (hc:m≤c') (hc2:c'≤9223372036854775807):Rd k w (.slice (some ⟨b,o + q,none⟩) m c') ((zs.drop q).take m):=by
 have el:((zs.drop q).take m).length=m:=by rw [List.length_take,List.length_drop];omega
 obtain ⟨ao',c'',e1,h1,_,h3⟩:=h
 simp only [Value.slice.injEq] at e1
 obtain ⟨rfl,rfl,rfl⟩:=e1
 obtain ⟨b',o',e2,hb,hcl⟩:=h3 (by intro e;subst e;simp at hq;omega)
 cases e2
 refine ⟨_,c',by rw [el],by rw [el];exact hc,by unfold maxLen;exact hc2,fun _=>⟨b,o + q,rfl,hb,fun i hi=>?_⟩⟩
 rw [el] at hi
 rw [Nat.add_assoc,hcl (q + i) (by omega),List.getElem?_take,if_pos hi,List.getElem?_drop]
set_option maxRecDepth 100000 in
set_option maxHeartbeats 8000000 in
theorem faithful_any (enc:Int) (he:Cx.En enc) (L:List Int) (hB:Byt L) (hLl:L.length≤65536) (l:List (Int × Int)) (hF:Fai enc L l) (hfit:∀ x ∈ l,Cx.fits enc x.1=true) (hln:ln enc (l.map Prod.fst)≤65536) (w:World) (lv va vt vb:Value) (hL:Rd .u8 w lv L) (hS:SnR w va vt vb (l.map Prod.fst) (l.map Prod.snd) (Cx.encB enc (l.map Prod.fst))) :
  Calls Tryz.prog 42 #[.int .i64 enc,lv,.agg #[va,vt,vb]] w fun e w'=>e=.returned (.bool true)∧Below w.heap.size w w':=by
 obtain ⟨la,lc,rfl,hl1,hl2,_⟩:=id hL
 obtain ⟨a0,c0,e0,_⟩:=id hS.1
 obtain ⟨a1,c1,e1,_⟩:=id hS.2.1
 obtain ⟨a2,c2,e2,_⟩:=id hS.2.2
 rw [List.length_map] at e0 e1
 subst e0 e1 e2
 have hlen:l.length≤65536:=by have:=ln_ge enc (l.map Prod.fst);rw [List.length_map] at this;omega
 obtain ⟨nb,hnb⟩:∃ nb,nb=(Cx.encB enc (l.map Prod.fst)).length:=⟨_,rfl⟩
 have hnl:nb≤65536:=by rw [hnb];exact hln
 rw [← hnb] at hS ⊢
 obtain ⟨w0,hw0,k2,hb0⟩:∃ w0,w0=w.alloc (.cells #[.slice a0 l.length c0,.slice a1 l.length c1,.slice a2 nb c2] 36)∧w0.heap[w.heap.size]?=some (.cells #[.slice a0 l.length c0,.slice a1 l.length c1,.slice a2 nb c2] 36 (0,0))∧Below w.heap.size w w0:=⟨_,rfl,heap_alloc_new _ _,ext_alloc (Below.refl _ _) _⟩
 have HC:Hid (∀ w',Below w0.heap.size w0 w'→w'.cell? ⟨w.heap.size,0,none⟩=some (.slice a0 l.length c0)∧w'.cell? ⟨w.heap.size,1,none⟩=some (.slice a1 l.length c1)∧w'.cell? ⟨w.heap.size,2,none⟩=some (.slice a2 nb c2)):=fun w' hb=>by
  have e:=(hb.block _ (Array.getElem?_eq_some_iff.1 k2).1).trans k2
  refine ⟨?_,?_,?_⟩ <;> (rw [cell_of_row w' _ _ _ _ _ e];rfl)
 have HR:Hid (∀ w',Below w0.heap.size w0 w'→Rd .u8 w' (.slice la L.length lc) L∧Rd .i64 w' (.slice a0 l.length c0) (l.map Prod.fst)∧Rd .i64 w' (.slice a1 l.length c1) (l.map Prod.snd)∧Rd .u8 w' (.slice a2 nb c2) (Cx.encB enc (l.map Prod.fst))):=fun w' hb=>by
  have h':=hS.ext (ext_trans hb0 hb)
  exact ⟨hL.ext (ext_trans hb0 hb),h'.1,h'.2.1,h'.2.2⟩
 have HNB:=hidIt hnb
 have HFA:=hidIt hF
 have HFI:=hidIt hfit
 have HB0:=hidIt hb0
 have hq:((l.length:Int) != (l.length:Int))=false:=by simp
 obtain ⟨d0,d1,d2⟩:=HC.out w0 (Below.refl _ _)
 clear hL hS k2 hb0 hnb hF hfit hln
 go_enter Tryz.func42,Tryz.ntmps42
 go_upto_region 1 with fail
 rw [← hw0]
 clear hw0
 go_wp2_with fail
 go_loopg [7,8,9] l.length (fun gk pa pl pi wr=>∃ (i A:Nat) (last:Int),i + gk=l.length∧pa=.int .i64 (A:Nat)∧pl=.int .i64 last∧pi=.int .i64 (i:Nat)∧Hid (A=ln enc ((l.map Prod.fst).take i)∧∀ y ∈ l.drop i,y.2≠-1→last < y.2)∧Hid (Below w0.heap.size w0 wr))
 case atStart=>exact ⟨0,0,-1,by omega,rfl,rfl,rfl,⟨rfl,fun y hy hn=>HFA.out.nonneg y (List.mem_of_mem_drop hy) hn⟩,Below.refl _ _⟩
 case round =>
  obtain ⟨i,A,last,hi,rfl,rfl,rfl,HI,HB⟩:=hrel
  clear d0 d1 d2
  obtain ⟨d0,d1,d2⟩:=HC.out wr HB.out
  by_cases hil:i < l.length
  ·have hil2:(i:Int) < (l.length:Int):=by omega
   obtain ⟨x,hx⟩:∃ x,l[i]?=some x:=⟨_,List.getElem?_eq_getElem hil⟩
   obtain ⟨a,tg⟩:=x
   have hfa:=HFI.out _ (List.mem_of_getElem? hx)
   obtain ⟨r0,r1,r2,r3⟩:=HR.out wr HB.out
   obtain ⟨ba,oa,rfl,hba,ca,_⟩:=rd_at r1 i (by rw [List.length_map];exact hil)
   obtain ⟨bt,ot,rfl,hbt,ct,_⟩:=rd_at r2 i (by rw [List.length_map];exact hil)
   rw [List.getElem?_map,hx,Option.map_some,Option.getD_some] at ca ct
   simp only at ca ct hfa
   obtain ⟨K,hK⟩:∃ K,K=(Cx.put enc a).length:=⟨_,rfl⟩
   have hK1:1≤K:=by rw [hK];exact (Cx.put_len enc a).1
   have hK4:K≤4:=by have:=ln_le enc [a];rw [ln_one] at this;simp at this;omega
   have hcut:Cx.encB enc (l.map Prod.fst)=Cx.encB enc ((l.map Prod.fst).take i) ++ (Cx.put enc a ++ Cx.encB enc ((l.map Prod.fst).drop (i + 1))):=by
    have e:(l.map Prod.fst)=(l.map Prod.fst).take i ++ a :: (l.map Prod.fst).drop (i + 1):=by
     have hi':i < (l.map Prod.fst).length:=by rw [List.length_map];exact hil
     have e2:(l.map Prod.fst).drop i=a :: (l.map Prod.fst).drop (i + 1):=by
      rw [List.drop_eq_getElem_cons hi']
      congr 1
      have:=List.getElem?_eq_getElem hi'
      rw [List.getElem?_map,hx] at this
      simpa using this.symm
     rw [← e2,List.take_append_drop]
    conv=>lhs;rw [e,Cx.encB_app,Cx.encB_cons]
   have hAe:A=(Cx.encB enc ((l.map Prod.fst).take i)).length:=HI.out.1
   have hAK:A + K≤nb:=by
    have:=congrArg List.length hcut
    rw [← HNB.out,List.length_append,List.length_append] at this
    omega
   have hpart:((Cx.encB enc (l.map Prod.fst)).drop A).take K=Cx.put enc a:=by rw [hcut,hAe,hK,List.drop_left,List.take_left]
   obtain ⟨bb,ob,rfl,hbb,_,hcb⟩:=rd_at r3 A (by rw [← HNB.out];omega)
   have HPP:=hidIt hpart
   have HXX:=hidIt hx
   have HKK:=hidIt hK
   have hbyt:Byt (Cx.put enc a):=Cx.put_byt enc a hfa
   have hAK2:¬ (nb:Int) < (A:Int) + (K:Int):=by omega
   have EN:Hid (∀ w',Below w0.heap.size w0 w'→Calls Tryz.prog 20 #[.int .i64 enc,.slice (some ⟨w'.heap.size,0,none⟩) 1 1] (w'.alloc (.cells #[.int .i64 a] 3)) fun e w4=>∃ (ab:Option Addr) (cb:Nat),e=.returned (.tuple #[.slice ab K cb,.int .i64 0,.int .i64 0])∧Hid (Rd .u8 w4 (.slice ab K cb) (Cx.put enc a))∧Below w'.heap.size w' w4):=fun w' hb=>by
    refine (encode_fit enc he _ [a] _ (rdi_lit1 w' a) (by intro z hz;rw [List.mem_singleton] at hz;subst hz;exact hfa) (by simp)).mono ?_
    rintro e w4 ⟨v4,rfl,ho4,hb4⟩
    rw [show Cx.encB enc [a]=Cx.put enc a by simp [Cx.encB]] at ho4
    have hr4:=Rd.of_own ho4
    obtain ⟨ab,cb,e5,_⟩:=id hr4
    subst e5
    rw [← HKK.out] at hr4 ⊢
    exact ⟨ab,cb,rfl,hr4,ext_trans (ext_alloc (Below.refl _ _) _) hb4⟩
   have SB:Hid (∀ w' (ab:Option Addr) (cb:Nat),Below w0.heap.size w0 w'→Rd .u8 w' (.slice ab K cb) (Cx.put enc a)→Calls Tryz.prog 23 #[.slice ab K cb,.slice (some ⟨bb,ob + A,none⟩) K (c2 - A)] w' fun e w''=>e=.returned (.bool true)∧Below w'.heap.size w' w''):=fun w' ab cb hb hr=>by
    have h3:=(HR.out w' hb).2.2.2
    have h4:=rd_part h3 A K (by rw [← HNB.out];exact hAK) (by omega) (c2 - A) (by omega) (by have:=h3.len;obtain ⟨_,_,e,_,hm,_⟩:=h3;cases e;unfold maxLen at hm;omega)
    rw [HPP.out] at h4
    exact sameBytes_eq _ _ (Cx.put enc a) w' hr h4
   have hc2m:c2≤9223372036854775807:=by obtain ⟨_,_,e,_,hm,_⟩:=r3;cases e;unfold maxLen at hm;omega
   have HCT:Hid (∀ w',Below w0.heap.size w0 w'→w'.cell? ⟨bt,ot + i,none⟩=some (.int .i64 tg)):=fun w' hb=>by
    have:=rd_at (HR.out w' hb).2.2.1 i (by rw [List.length_map];exact hil)
    obtain ⟨_,_,e,_,ct',_⟩:=this
    cases e
    rwa [List.getElem?_map,HXX.out,Option.map_some,Option.getD_some] at ct'
   clear r0 r1 r2 r3 ct hx hK hcut hAe hpart hba hbt hbb
   go_upto_region 9 with (go_at_call 20;refine (EN.out wr HB.out).mono ?_;rintro e w4 ⟨ab,cb,rfl,HR4,hb4⟩;have HB4:=hidIt (ext_trans HB.out hb4);clear hb4 ca d0 d1 d2;(try dsimp only))
   obtain ⟨d0,d1,d2⟩:=HC.out w4 HB4.out
   have hK0:((K:Int) == 0)=false:=by simp;omega
   have hKz:¬ (K:Int)=0:=by omega
   have hAc:¬ A=c2:=by omega
   have hAc':¬ c2=A:=by omega
   have hAc2:(A:Int) + (K:Int)≤(c2:Int):=by omega
   have hA0:(0:Int)≤(A:Int):=by omega
   have hAA:(A:Int)≤(A:Int) + (K:Int):=by omega
   have SB4:=hidIt (SB.out w4 ab cb HB4.out HR4.out)
   go_upto_region 11 with (go_at_call 23;refine SB4.out.mono ?_;rintro e w5 ⟨rfl,hb5⟩;have HB5:=hidIt (ext_trans HB4.out hb5);have HR5:=hidIt (HR4.out.ext hb5);clear hb5 d0 d1 d2;(try dsimp only))
   obtain ⟨d0,d1,d2⟩:=HC.out w5 HB5.out
   have ct:=HCT.out w5 HB5.out
   have HNX:Hid (∀ last',(∀ y ∈ l.drop (i + 1),y.2≠-1→last' < y.2)→A + K=ln enc ((l.map Prod.fst).take (i + 1))∧∀ y ∈ l.drop (i + 1),y.2≠-1→last' < y.2):=fun last' h=>by
    refine ⟨?_,h⟩
    rw [List.take_add_one,List.getElem?_map,HXX.out,Option.map_some,Option.toList_some,ln_app,ln_one,← HKK.out,← HI.out.1]
   have hAn:A≤65536:=by omega
   by_cases htg:tg=-1
   ·have hdr:Hid (∀ y ∈ l.drop (i + 1),y.2≠-1→last < y.2):=fun y hy hn=>HI.out.2 y (by rw [List.drop_eq_getElem_cons hil];exact List.mem_cons_of_mem _ hy) hn
    subst htg
    go_wp2_with fail
    go_roundg (l.length - (i + 1))
    case rel=>exact ⟨i + 1,A + K,last,by omega,by go_num,rfl,by go_num,HNX.out last hdr.out,HB5.out⟩
    case measure=>omega
   ·have hdr:Hid (∀ y ∈ l.drop (i + 1),y.2≠-1→tg < y.2):=fun y hy hn=>HFA.out.rise i _ HXX.out htg y hy hn
    have hlt:last < tg:=HI.out.2 (a,tg) (by rw [List.drop_eq_getElem_cons hil];have:=(List.getElem?_eq_some_iff.1 HXX.out).2;rw [this];exact List.mem_cons_self ..) htg
    obtain ⟨q,hq1,hq2,hq3⟩:=HFA.out.at he hB (a,tg) (List.mem_of_getElem? HXX.out) htg
    simp only at hq1 hq2 hq3
    subst hq1
    rw [← HKK.out] at hq2 hq3
    obtain ⟨bl,ol,rfl,hbl,_,hcl⟩:=rd_at (HR.out w5 HB5.out).1 q (by omega)
    have SB2:Hid (Calls Tryz.prog 23 #[.slice ab K cb,.slice (some ⟨bl,ol + q,none⟩) K (lc - q)] w5 fun e w''=>e=.returned (.bool true)∧Below w5.heap.size w5 w''):=by
     have h3:=(HR.out w5 HB5.out).1
     have h4:=rd_part h3 q K (by omega) (by omega) (lc - q) (by omega) (by unfold maxLen at hl2;omega)
     rw [hq3] at h4
     exact sameBytes_eq _ _ (Cx.put enc a) w5 HR5.out h4
    have hqL:¬ (L.length:Int) < (q:Int) + (K:Int):=by omega
    have hqc:¬ q=lc:=by omega
    have hqc':¬ lc=q:=by omega
    have hqc2:(q:Int) + (K:Int)≤(lc:Int):=by omega
    have hq0:(0:Int)≤(q:Int):=by omega
    have hqq:(q:Int)≤(q:Int) + (K:Int):=by omega
    have hlt2:¬ (q:Int)≤last:=by omega
    have hqn:((q:Int) != -1)=true:=by simp
    clear hq3
    go_wp2_with (go_at_call 23;refine SB2.out.mono ?_;rintro e w6 ⟨rfl,hb6⟩;have HB6:=hidIt (ext_trans HB5.out hb6);clear hb6 d0 d1 d2 ct;(try dsimp only))
    go_roundg (l.length - (i + 1))
    case rel=>exact ⟨i + 1,A + K,q,by omega,by go_num,rfl,by go_num,HNX.out q hdr.out,HB6.out⟩
    case measure=>omega
  ·have hil2:¬ (i:Int) < (l.length:Int):=by omega
   have hAe:(A:Int)=(nb:Int):=by
    have:=HI.out.1
    rw [List.take_of_length_le (by rw [List.length_map];omega)] at this
    rw [this,HNB.out]
    rfl
   go_wp2_with fail
   go_ret
   exact ⟨by simp,ext_trans HB0.out HB.out⟩
end Go.Proofs.YtdkpkncolpapoaaGreat.P

namespace Go.Proofs.YtdkpkncolpapoaaGreat.P
open Go.RowKit
def EdL (w:World) (v:Value) (ess:List (List Ed)):Prop :=
 ∃ ao cap,v=.slice ao ess.length cap∧ess.length≤cap∧cap≤9223372036854775807∧∀ i es,ess[i]?=some es→∃ b o ea ec,ao=some ⟨b,o,none⟩∧b < w.heap.size∧w.cell? ⟨b,o + i,none⟩=some (.slice ea es.length ec)∧EdR w (.slice ea es.length ec) es∧Bnd es
theorem rd8_kpt {enc lim:Int} {L:List Int} {w w':World} {t:Nat} {ps:List PG} (h:Tx enc lim L w t ps) (hk:Kps (fun k=>k=t) w w') {v:Value} {zs:List Int} (hr:Rd .u8 w v zs):Rd .u8 w' v zs:=by
 obtain ⟨ao,cap,h1,h2,h3,h4⟩:=hr
 refine ⟨ao,cap,h1,h2,h3,fun hn=>?_⟩
 obtain ⟨b,off,k1,k2,k3⟩:=h4 hn
 have hbt:b≠t:=fun e=>by
  subst e
  obtain ⟨lv,u,m1,m2,_⟩:=h.ex
  have c:=k3 0 (List.length_pos_iff.2 hn)
  rw [cell_of_row w b _ _ _ _ m1,Nat.add_zero] at c
  obtain ⟨bl,ol,cl,rfl,_⟩:=m2
  match off with
  | 0=>simp at c
  | 1=>simp at c
  | 2=>simp at c
  | 3=>simp at c
  | n + 4=>simp at c
 refine ⟨b,off,k1,Nat.lt_of_lt_of_le k2 hk.size,fun i hi=>?_⟩
 rw [← k3 i hi]
 exact World.cell?_of_block (hk.same b k2 hbt)
structure FtI (enc:Int) (L:List Int) (w:World) (t s bx:Nat) (ps0 ps:List PG) (va vt vb:Value) (wr:World):Prop where
 tx:Tx enc 65536 L wr t ps
 fai:Fai enc L (sh enc ps)
 sn:Sn enc L wr s t ps0
 blk:wr.heap[bx]?=some (.cells #[va,vt,vb] 36 (0,0))
 oa:OwnI wr w.heap.size va (asOf ps0)
 ot:OwnI wr w.heap.size vt ((sh enc ps0).map Prod.snd)
 ob:Rd .u8 wr vb (Cx.encB enc (asOf ps0))
 bel:Below w.heap.size w wr
 tl:w.heap.size≤t
theorem FtI.ext {enc:Int} {L:List Int} {w:World} {t s bx:Nat} {ps0 ps:List PG} {va vt vb:Value} {wr w':World} (h:FtI enc L w t s bx ps0 ps va vt vb wr) (hb:Below wr.heap.size wr w'):FtI enc L w t s bx ps0 ps va vt vb w' :=
 ⟨h.tx.ext hb,h.fai,h.sn.ext hb,(hb.block _ (Array.getElem?_eq_some_iff.1 h.blk).1).trans h.blk,h.oa.ext hb,h.ot.ext hb,h.ob.ext hb,ext_trans h.bel hb,h.tl⟩
theorem OwnI.kpt0 {w w':World} {base t:Nat} {v:Value} {zs:List Int} (h:OwnI w base v zs) (hk:Kps (fun k=>k=t) w w') (ht:Typ 116 w t):OwnI w' base v zs :=
 ownsRow_same h fun b hb=>hk.same b hb.lt (fun e=>by subst e;exact absurd (hb.uniq ht) (by decide))
theorem FtI.kps {enc:Int} {L:List Int} {w:World} {t s bx:Nat} {ps0 ps ps':List PG} {va vt vb:Value} {wr w':World} (h:FtI enc L w t s bx ps0 ps va vt vb wr) (hk:Kps (fun k=>k=t) wr w') (hT:Tx enc 65536 L w' t ps') (hF:Fai enc L (sh enc ps')):FtI enc L w t s bx ps0 ps' va vt vb w':=by
 have ht:=h.tx.typ0
 have hst:∀ T,T≠116→∀ b,Typ T wr b→w'.heap[b]?=wr.heap[b]?:=fun T hT b hb=>hk.same b hb.lt (fun e=>hT (by subst e;exact hb.uniq ht))
 exact ⟨hT,hF,h.sn.same (hst _ (by decide)) (hst _ (by decide)) (hst _ (by decide)),(hst _ (by decide) _ ⟨_,h.blk⟩).trans h.blk,h.oa.kpt0 hk ht,h.ot.kpt0 hk ht,rd8_kpt h.tx hk h.ob,h.bel.trans (hk.below h.bel.size (fun k e=>by have:=h.tl;omega)),h.tl⟩
theorem seen_any (enc:Int) (L:List Int) (w:World) (t:Nat) (ps:List PG) (h:Tx enc 65536 L w t ps) (hF:Fai enc L (sh enc ps)) (lv:Value) (hL:Rd .u8 w lv L) :
  Calls Tryz.prog 21 #[.pointer (some ⟨t,0,none⟩)] w fun e w'=>∃ (aa:Option Addr) (ca:Nat) (at':Option Addr) (ct:Nat) (ab:Option Addr) (cb:Nat),e=.returned (.agg #[.slice aa (sh enc ps).length ca,.slice at' (sh enc ps).length ct,.slice ab (Cx.encB enc (asOf ps)).length cb])∧Hid (OwnI w' w.heap.size (.slice aa (sh enc ps).length ca) (asOf ps)∧OwnI w' w.heap.size (.slice at' (sh enc ps).length ct) ((sh enc ps).map Prod.snd)∧Rd .u8 w' (.slice ab (Cx.encB enc (asOf ps)).length cb) (Cx.encB enc (asOf ps))∧∀ w'',Below w'.heap.size w' w''→Calls Tryz.prog 42 #[.int .i64 enc,lv,.agg #[.slice aa (sh enc ps).length ca,.slice at' (sh enc ps).length ct,.slice ab (Cx.encB enc (asOf ps)).length cb]] w'' fun e w3=>e=.returned (.bool true)∧Below w''.heap.size w'' w3)∧Below w.heap.size w w':=by
 refine (see_any enc 65536 L w t ps h).mono ?_
 rintro e w' ⟨va,vt,vb,rfl,⟨h1,h2,b3,hvb,h3r⟩,hb⟩
 have h3:Rd .u8 w' vb (Cx.encB enc (asOf ps)):=by rw [hvb];exact h3r.rd _ (Nat.le_refl _) (by have:=h.sz;have e:ln enc (asOf ps)=(Cx.encB enc (asOf ps)).length:=rfl;omega)
 clear hvb h3r
 obtain ⟨aa,ca,e1⟩:=h1.form
 obtain ⟨at',ct,e2⟩:=h2.form
 obtain ⟨ab,cb,e3,_⟩:=id h3
 rw [← sh_len enc ps] at e1
 rw [List.length_map] at e2
 subst e1 e2 e3
 refine ⟨aa,ca,at',ct,ab,cb,rfl,⟨h1,h2,h3,fun w'' hb''=>?_⟩,hb⟩
 have hfst:(sh enc ps).map Prod.fst=asOf ps:=sh_fst enc ps
 have hS:SnR w'' (.slice aa (sh enc ps).length ca) (.slice at' (sh enc ps).length ct) (.slice ab (Cx.encB enc (asOf ps)).length cb) ((sh enc ps).map Prod.fst) ((sh enc ps).map Prod.snd) (Cx.encB enc ((sh enc ps).map Prod.fst)):=by
  rw [hfst]
  exact ⟨h1.rd.ext hb'',h2.rd.ext hb'',h3.ext hb''⟩
 exact faithful_any enc h.en L h.by' h.ll (sh enc ps) hF (fun x hx=>h.pc.fit _ (by rw [← hfst];exact List.mem_map_of_mem hx)) (by rw [hfst];exact h.sz) w'' lv _ _ _ (hL.ext (ext_trans hb hb'')) hS
set_option maxRecDepth 100000 in
set_option maxHeartbeats 8000000 in
theorem faithfulLaw_any (enc:Int) (lv ev:Value) (L:List Int) (ess:List (List Ed)) (w:World) (hL:Rd .u8 w lv L) (hB:Byt L) (hlv:∀ c,lv=.slice none L.length c→c=0∧L=[]) (hE:EdL w ev ess) :
  Calls Tryz.prog 8 #[.int .i64 enc,lv,ev] w fun e w'=>e=.returned (.bool true)∧Below w.heap.size w w':=by
 have AB:Hid (∀ w',Calls Tryz.prog 16 #[] w' fun e w''=>e=.returned (.bool true)∧Below w'.heap.size w' w''):=fun w'=>able_any w'
 obtain ⟨la,lc,rfl,hl1,hl2,_⟩:=id hL
 obtain ⟨ea,ec,rfl,he1,he2,he3⟩:=id hE
 have HE':=hidIt he3
 have HL:=hidIt hL
 have hLm:L.length≤9223372036854775807:=hL.len
 by_cases hkn:1≤enc∧enc≤4∧L.length≤65536
 ·have KN:Hid (∀ w',Calls Tryz.prog 25 #[.int .i64 enc,.slice la L.length lc] w' fun e w''=>e=.returned (.bool true)∧w''=w'):=fun w'=>known_yes enc la L.length lc w' hkn
  have hEn:Cx.En enc:=by unfold Cx.En;omega
  have hk2:Cx.known enc=true:=by rcases hEn with rfl | rfl | rfl | rfl <;> rfl
  have OP:Hid (∀ w',Below w.heap.size w w'→Calls Tryz.prog 17 #[.int .i64 enc,.slice la L.length lc] w' fun e w''=>∃ (t:Nat) (ps:List PG),e=.returned (.pointer (some ⟨t,0,none⟩))∧Hid (Tx enc 65536 L w'' t ps∧sh enc ps=ctn enc 0 (Cx.dec enc L)∧w'.heap.size≤t)∧Below w'.heap.size w' w''):=fun w' hb=>opened_any enc hk2 la lc L w' (hL.ext hb) hB hkn.2.2 (fun e=>by subst e;exact hlv lc rfl)
  have HBK:=hidIt (Cx.back_all enc hEn L.length L (Nat.le_refl _) hB).1
  have HBY:=hidIt hB
  have hL6:=hkn.2.2
  clear hL hE he3 hlv hkn hk2
  go_enter Tryz.func8,Tryz.ntmps8
  go_upto_region 8 with (first
   | (go_at_call 16;refine (AB.out w).mono ?_;rintro e w1 ⟨rfl,hb1⟩;have HB1:=hidIt hb1;clear hb1;(try dsimp only))
   | (go_at_call 25;refine (KN.out w1).mono ?_;rintro e w1' ⟨rfl,hw1⟩;rw [hw1];clear hw1;(try dsimp only))
   | (go_at_call 17;refine (OP.out w1 HB1.out).mono ?_;rintro e w2 ⟨t,ps,rfl,hop,hb2⟩;have HOP:=hidIt hop.out;have HB2:=hidIt (ext_trans HB1.out hb2);clear hop hb2;(try dsimp only)))
  have hF0:Fai enc L (sh enc ps):=by rw [HOP.out.2.1];exact Fai.first enc L
  have htl:w.heap.size≤t:=Nat.le_trans HB1.out.size HOP.out.2.2
  have hAs:asOf ps=Cx.dec enc L:=by rw [← sh_fst enc ps,HOP.out.2.1,ctn_fst]
  have hbL:Cx.encB enc (asOf ps)=L:=by rw [hAs];exact HBK.out
  have SE:=hidIt (seen_any enc L w2 t ps HOP.out.1 hF0 (.slice la L.length lc) (HL.out.ext HB2.out))
  rw [hbL] at SE
  have HF0:=hidIt hF0
  have HBL:=hidIt hbL
  clear hF0 hAs hbL
  go_upto_region 9 with (go_at_call 21;refine SE.out.mono ?_;rintro e w3 ⟨aa,ca,at',ct,ab,cb,rfl,HS3,hb3⟩;have HB3:=hidIt hb3;clear hb3;(try dsimp only))
  obtain ⟨w4,hw4,k4,hb4⟩:∃ w4,w4=w3.alloc (.cells #[.slice aa (sh enc ps).length ca,.slice at' (sh enc ps).length ct,.slice ab L.length cb] 36)∧w4.heap[w3.heap.size]?=some (.cells #[.slice aa (sh enc ps).length ca,.slice at' (sh enc ps).length ct,.slice ab L.length cb] 36 (0,0))∧Below w3.heap.size w3 w4:=⟨_,rfl,heap_alloc_new _ _,ext_alloc (Below.refl _ _) _⟩
  rw [← hw4]
  clear hw4
  have HC4:Hid (∀ w',Below w4.heap.size w4 w'→w'.cell? ⟨w3.heap.size,0,none⟩=some (.slice aa (sh enc ps).length ca)∧w'.cell? ⟨w3.heap.size,1,none⟩=some (.slice at' (sh enc ps).length ct)∧w'.cell? ⟨w3.heap.size,2,none⟩=some (.slice ab L.length cb)):=fun w' hb=>by
   have e:=(hb.block _ (Array.getElem?_eq_some_iff.1 k4).1).trans k4
   refine ⟨?_,?_,?_⟩ <;> (rw [cell_of_row w' _ _ _ _ _ e];rfl)
  have HK4:=hidIt k4
  have HBB4:=hidIt hb4
  have HB4:=hidIt (ext_trans HB2.out (ext_trans HB3.out hb4))
  have SB:Hid (∀ w',Below w4.heap.size w4 w'→Calls Tryz.prog 23 #[.slice ab L.length cb,.slice la L.length lc] w' fun e w''=>e=.returned (.bool true)∧Below w'.heap.size w' w''):=fun w' hb=>sameBytes_eq _ _ L w' (HS3.out.2.2.1.ext (ext_trans hb4 hb)) (HL.out.ext (ext_trans HB4.out hb))
  have FA:Hid (∀ w',Below w4.heap.size w4 w'→Calls Tryz.prog 42 #[.int .i64 enc,.slice la L.length lc,.agg #[.slice aa (sh enc ps).length ca,.slice at' (sh enc ps).length ct,.slice ab L.length cb]] w' fun e w''=>e=.returned (.bool true)∧Below w'.heap.size w' w''):=fun w' hb=>HS3.out.2.2.2 w' (ext_trans hb4 hb)
  have hnl:(sh enc ps).length≤65536:=HOP.out.1.sum.2.2
  obtain ⟨d0,d1,d2⟩:=HC4.out w4 (Below.refl _ _)
  clear k4 hb4 SE
  go_upto_block 0 with (first
   | (go_at_call 23;refine (SB.out w4 (Below.refl _ _)).mono ?_;clear d0 d1 d2;rintro e w5 ⟨rfl,hb5⟩;have HB5:=hidIt hb5;obtain ⟨d0,d1,d2⟩:=HC4.out w5 hb5;have FA5:=hidIt (FA.out w5 hb5);clear hb5;(try dsimp only))
   | (go_at_call 42;refine FA5.out.mono ?_;clear d0 d1 d2;rintro e w6 ⟨rfl,hb6⟩;have HB6:=hidIt (ext_trans HB5.out hb6);obtain ⟨d0,d1,d2⟩:=HC4.out w6 (ext_trans HB5.out hb6);clear hb6;(try dsimp only)))
  go_wp2_with fail
  go_loopg [9] (sh enc ps).length (fun gk p wr=>∃ k:Nat,k + gk=(sh enc ps).length∧p=.int .i64 (k:Nat)∧wr=w6)
  case atStart=>exact ⟨0,by omega,rfl,rfl⟩
  case round =>
   obtain ⟨k,hk,rfl,hwr⟩:=hrel
   rw [hwr]
   clear hwr
   by_cases hkl:k < (sh enc ps).length
   ·have hkl2:(k:Int) < ((sh enc ps).length:Int):=by omega
    obtain ⟨x,hx⟩:∃ x,(sh enc ps)[k]?=some x:=⟨_,List.getElem?_eq_getElem hkl⟩
    obtain ⟨bt,ot,rfl,_,ctk,_⟩:=rd_at (HS3.out.2.1.rd.ext (ext_trans HBB4.out HB6.out)) k (by rw [List.length_map];exact hkl)
    rw [List.getElem?_map,hx,Option.map_some,Option.getD_some] at ctk
    have hx0:¬ x.2 < 0:=by
     have hm:=List.mem_of_getElem? hx
     rw [HOP.out.2.1] at hm
     obtain ⟨_,_,_,e⟩:=ctn_mem enc _ 0 (Int.le_refl _) x hm
     omega
    clear hx
    go_wp2_with fail
    go_roundg ((sh enc ps).length - (k + 1))
    case rel=>exact ⟨k + 1,by omega,by go_num,rfl⟩
    case measure=>omega
   ·have hkl2:¬ (k:Int) < ((sh enc ps).length:Int):=by omega
    have HB46:=hidIt (ext_trans HB3.out (ext_trans HBB4.out HB6.out))
    have SN:=hidIt (Snap_any enc 65536 L w6 t ps (HOP.out.1.ext HB46.out))
    clear hk
    go_upto_region 17 with (go_at_call 41;refine SN.out.mono ?_;clear d0 d1 d2;rintro e w7 ⟨sn,rfl,hsn,_,hb7⟩;have HSN:=hidIt hsn;have HB7:=hidIt hb7;clear hsn hb7;(try dsimp only))
    have HI0:Hid (FtI enc L w t sn w3.heap.size ps ps (.slice aa (sh enc ps).length ca) (.slice at' (sh enc ps).length ct) (.slice ab L.length cb) w7):=by
     have b37:=ext_trans (ext_trans HBB4.out HB6.out) HB7.out
     refine ⟨HOP.out.1.ext (ext_trans HB46.out HB7.out),HF0.out,HSN.out,?_,(HS3.out.1.mono HB2.out.size).ext b37,(HS3.out.2.1.mono HB2.out.size).ext b37,?_,ext_trans HB2.out (ext_trans HB46.out HB7.out),htl⟩
     ·exact ((ext_trans HB6.out HB7.out).block _ (Array.getElem?_eq_some_iff.1 HK4.out).1).trans HK4.out
     ·rw [HBL.out]
      exact HS3.out.2.2.1.ext b37
    clear HS3 HC4 HK4 SB FA SN HSN HB7 HB46 HB6 HB5 FA5
    go_wp2_with fail
    go_loopg [11] ess.length (fun gk p wr=>∃ (i:Nat) (qs:List PG),i + gk=ess.length∧p=.int .i64 (i:Nat)∧Hid (FtI enc L w t sn w3.heap.size ps qs (.slice aa (sh enc ps).length ca) (.slice at' (sh enc ps).length ct) (.slice ab L.length cb) wr))
    case atStart=>exact ⟨0,ps,by omega,rfl,HI0.out⟩
    case round =>
     obtain ⟨i,qs,hi,rfl,HI⟩:=hrel
     by_cases hil:i < ess.length
     ·have hil2:(i:Int) < (ess.length:Int):=by omega
      obtain ⟨es,hes⟩:∃ es,ess[i]?=some es:=⟨_,List.getElem?_eq_getElem hil⟩
      obtain ⟨b,o,va,vc,rfl,hbl,ce0,hed,hbn⟩:=HE'.out i es hes
      have ce:wr.cell? ⟨b,o + i,none⟩=some (.slice va es.length vc):=(HI.out.bel.cell (p:=⟨b,o + i,none⟩) hbl).trans ce0
      have CG:=hidIt (changed_any enc 65536 L w wr t qs _ es HI.out.tx hed HI.out.bel HI.out.tl hbn)
      clear ce0 hed hbn hes
      go_upto_region 21 with (go_at_call 30;refine CG.out.mono ?_;clear ce;rintro e w8 ⟨rfl,hc8⟩;have HC8:=hidIt hc8;clear hc8;(try dsimp only))
      obtain ⟨ps',hT8,hs8,hk8⟩:=HC8.out
      have HI8:=hidIt (HI.out.kps hk8 hT8 (by rw [hs8];exact HI.out.fai.ch 65536 es))
      have SE8:=hidIt (seen_any enc L w8 t ps' HI8.out.tx HI8.out.fai (.slice la L.length lc) (HL.out.ext HI8.out.bel))
      clear hT8 hs8 hk8 HC8 CG
      go_wp2_with (first
       | (go_at_call 21;refine SE8.out.mono ?_;rintro e w9 ⟨xa,xc,ya,yc,za,zc,rfl,HS9,hb9⟩;have HB9:=hidIt hb9;have HF9:=hidIt (HS9.out.2.2.2 w9 (Below.refl _ _));clear hb9;(try dsimp only))
       | (go_at_call 42;refine HF9.out.mono ?_;rintro e w10 ⟨rfl,hb10⟩;have HB10:=hidIt (ext_trans HB9.out hb10);clear hb10;(try dsimp only)))
      go_roundg (ess.length - (i + 1))
      case rel=>exact ⟨i + 1,ps',by omega,by go_num,HI8.out.ext HB10.out⟩
      case measure=>omega
     ·have hil2:¬ (i:Int) < (ess.length:Int):=by omega
      have HBC:Hid (∀ w',FtI enc L w t sn w3.heap.size ps ps (.slice aa (sh enc ps).length ca) (.slice at' (sh enc ps).length ct) (.slice ab L.length cb) w'→w'.cell? ⟨w3.heap.size,0,none⟩=some (.slice aa (sh enc ps).length ca)∧w'.cell? ⟨w3.heap.size,1,none⟩=some (.slice at' (sh enc ps).length ct)∧w'.cell? ⟨w3.heap.size,2,none⟩=some (.slice ab L.length cb)):=fun w' h=>by
       refine ⟨?_,?_,?_⟩ <;> (rw [cell_of_row w' _ _ _ _ _ h.blk];rfl)
      have HBD:Hid (∀ w',Below wr.heap.size wr w'→w'.cell? ⟨w3.heap.size,0,none⟩=some (.slice aa (sh enc ps).length ca)∧w'.cell? ⟨w3.heap.size,1,none⟩=some (.slice at' (sh enc ps).length ct)∧w'.cell? ⟨w3.heap.size,2,none⟩=some (.slice ab L.length cb)):=fun w' hb=>by
       have e:=(HI.out.ext hb).blk
       refine ⟨?_,?_,?_⟩ <;> (rw [cell_of_row w' _ _ _ _ _ e];rfl)
      have BK:Hid (∀ w',Below wr.heap.size wr w'→Calls Tryz.prog 40 #[.pointer (some ⟨t,0,none⟩),.pointer (some ⟨sn,0,none⟩)] w' fun e w''=>e=.returned (.int .i64 0)∧Hid (FtI enc L w t sn w3.heap.size ps ps (.slice aa (sh enc ps).length ca) (.slice at' (sh enc ps).length ct) (.slice ab L.length cb) w'')):=fun w' hb=>by
       have h':=HI.out.ext hb
       refine (Back_own enc 65536 L w' t sn qs ps h'.tx h'.sn).mono ?_
       rintro e w'' ⟨rfl,h1,h2⟩
       exact ⟨rfl,h'.kps h2 h1 HF0.out⟩
      have SEE:Hid (∀ w',FtI enc L w t sn w3.heap.size ps ps (.slice aa (sh enc ps).length ca) (.slice at' (sh enc ps).length ct) (.slice ab L.length cb) w'→Calls Tryz.prog 21 #[.pointer (some ⟨t,0,none⟩)] w' fun e w''=>∃ (xa:Option Addr) (xc:Nat) (ya:Option Addr) (yc:Nat) (za:Option Addr) (zc:Nat),e=.returned (.agg #[.slice xa (sh enc ps).length xc,.slice ya (sh enc ps).length yc,.slice za L.length zc])∧Hid (FtI enc L w t sn w3.heap.size ps ps (.slice aa (sh enc ps).length ca) (.slice at' (sh enc ps).length ct) (.slice ab L.length cb) w''∧∀ w3',Below w''.heap.size w'' w3'→Calls Tryz.prog 39 #[.agg #[.slice xa (sh enc ps).length xc,.slice ya (sh enc ps).length yc,.slice za L.length zc],.agg #[.slice aa (sh enc ps).length ca,.slice at' (sh enc ps).length ct,.slice ab L.length cb]] w3' fun e w4'=>e=.returned (.bool true)∧Below w3'.heap.size w3' w4')):=fun w' h=>by
       have hs:=seen_any enc L w' t ps h.tx h.fai (.slice la L.length lc) (HL.out.ext h.bel)
       rw [HBL.out] at hs
       refine hs.mono ?_
       rintro e w'' ⟨xa,xc,ya,yc,za,zc,rfl,HS,hb⟩
       have hI:=h.ext hb
       have hob:=hI.ob
       rw [HBL.out] at hob
       refine ⟨xa,xc,ya,yc,za,zc,rfl,hI,fun w3' hb3=>?_⟩
       exact same_any _ _ _ _ _ _ (asOf ps) ((sh enc ps).map Prod.snd) L w3' ⟨HS.out.1.rd.ext hb3,HS.out.2.1.rd.ext hb3,HS.out.2.2.1.ext hb3⟩ ⟨hI.oa.rd.ext hb3,hI.ot.rd.ext hb3,hob.ext hb3⟩
      obtain ⟨d0,d1,d2⟩:=HBD.out wr (Below.refl _ _)
      clear hi hil
      go_upto_region 23 with fail
      go_region_held3 (fun w'=>w'.cell? ⟨w3.heap.size,0,none⟩=some (.slice aa (sh enc ps).length ca)∧w'.cell? ⟨w3.heap.size,1,none⟩=some (.slice at' (sh enc ps).length ct)∧w'.cell? ⟨w3.heap.size,2,none⟩=some (.slice ab L.length cb)) (first | exact HBC.out _ (HI9.out.ext HB10.out) | exact HBC.out _ HI9.out | exact HBC.out _ HI8.out | exact HBD.out _ (by repeat (first | exact Below.refl _ _ | apply Below.drew)) | go_keep) (first
       | (go_at_call 40;refine (BK.out _ (by repeat (first | exact Below.refl _ _ | apply Below.drew))).mono ?_;clear d0 d1 d2;rintro e w8 ⟨rfl,HI8⟩;obtain ⟨d0,d1,d2⟩:=HBC.out w8 HI8.out;(try dsimp only))
       | (go_at_call 21;refine (SEE.out _ HI8.out).mono ?_;clear d0 d1 d2;rintro e w9 ⟨xa,xc,ya,yc,za,zc,rfl,HS9⟩;have HI9:=hidIt HS9.out.1;have SM9:=hidIt (HS9.out.2 w9 (Below.refl _ _));obtain ⟨d0,d1,d2⟩:=HBC.out w9 HI9.out;(try dsimp only))
       | (go_at_call 39;refine SM9.out.mono ?_;clear d0 d1 d2;rintro e w10 ⟨rfl,hb10⟩;have HB10:=hidIt hb10;obtain ⟨d0,d1,d2⟩:=HBC.out w10 (HI9.out.ext hb10);clear hb10;(try dsimp only)))
      all_goals go_wp2_with fail
      all_goals go_ret
      all_goals exact ⟨rfl,ext_trans HI9.out.bel HB10.out⟩
 ·have KN:Hid (∀ w',Calls Tryz.prog 25 #[.int .i64 enc,.slice la L.length lc] w' fun e w''=>e=.returned (.bool false)∧w''=w'):=fun w'=>known_no enc la L.length lc w' hLm hkn
  clear hL hE he3 hlv hkn
  go_enter Tryz.func8,Tryz.ntmps8
  go_wp2_with (first
   | (go_at_call 16;refine (AB.out w).mono ?_;rintro e w1 ⟨rfl,hb1⟩;have HB1:=hidIt hb1;clear hb1;(try dsimp only))
   | (go_at_call 25;refine (KN.out w1).mono ?_;rintro e w1' ⟨rfl,hw1⟩;rw [hw1];clear hw1;(try dsimp only)))
  go_ret
  exact ⟨rfl,HB1.out⟩
end Go.Proofs.YtdkpkncolpapoaaGreat.P
