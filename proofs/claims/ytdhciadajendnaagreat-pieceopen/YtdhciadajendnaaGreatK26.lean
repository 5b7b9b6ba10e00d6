import Derived.Test.YtdhciadajendnaaGreatK25
import Derived.LaidEqlPtr
set_option maxRecDepth 100000
namespace Go.Proofs.YtdhciadajendnaaGreat.P
open Go.RowKit
abbrev Ed:=Int × Int × List Int
def EdR (w:World) (v:Value) (es:List Ed):Prop :=
 ∃ ao cap,v=.slice ao es.length cap∧es.length≤cap∧cap≤9223372036854775807 ∧
   (es≠[]→∃ b off,ao=some ⟨b,off,none⟩∧b < w.heap.size∧∀ i e,es[i]?=some e→w.cell? ⟨b,off + i * 3,none⟩=some (.int .i64 e.1)∧w.cell? ⟨b,off + i * 3 + 1,none⟩=some (.int .i64 e.2.1)∧∃ pv,w.cell? ⟨b,off + i * 3 + 2,none⟩=some pv∧Rd .i64 w pv e.2.2)
theorem EdR.ext {w w':World} {v:Value} {es:List Ed} (h:EdR w v es) (hb:Below w.heap.size w w'):EdR w' v es:=by
 obtain ⟨ao,cap,h1,h2,h3,h4⟩:=h
 refine ⟨ao,cap,h1,h2,h3,fun hn=>?_⟩
 obtain ⟨b,o,k1,k2,k3⟩:=h4 hn
 refine ⟨b,o,k1,Nat.lt_of_lt_of_le k2 hb.size,fun i e he=>?_⟩
 obtain ⟨c0,c1,pv,c2,c3⟩:=k3 i e he
 exact ⟨(hb.cell (p:=⟨b,_,none⟩) k2).trans c0,(hb.cell (p:=⟨b,_,none⟩) k2).trans c1,pv,(hb.cell (p:=⟨b,_,none⟩) k2).trans c2,c3.ext hb⟩
def puts (es:List Ed):List Int:=es.flatMap fun e=>e.2.2
theorem puts_succ (es:List Ed) (j:Nat) (e:Ed) (h:es[j]?=some e):puts (es.take (j + 1))=puts (es.take j) ++ e.2.2:=by
 rw [List.take_add_one,h,Option.toList_some]
 simp [puts]
theorem puts_len (es:List Ed) (j:Nat) (e:Ed) (h:es[j]?=some e) (i:Nat):(puts (es.take j) ++ e.2.2.take i).length≤(puts es).length:=by
 have h1:puts es=puts (es.take (j + 1)) ++ puts (es.drop (j + 1)):=by
  unfold puts
  rw [← List.flatMap_append,List.take_append_drop]
 rw [h1,puts_succ es j e h,List.length_append,List.length_append,List.length_append,List.length_take]
 omega
theorem ln_tk (enc:Int) (es:List Ed) (j:Nat) (e:Ed) (h:es[j]?=some e) (i:Nat):ln enc (puts (es.take j)) + ln enc (e.2.2.take i)≤4 * (puts es).length:=by
 have:=ln_le enc (puts (es.take j) ++ e.2.2.take i)
 rw [ln_app] at this
 have:=puts_len es j e h i
 omega
def cpA (enc lim:Int) (es:List Ed):Int:=if ∀ a ∈ puts es,Cx.fits enc a=true then (if (ln enc (puts es):Int) > lim then 50 else 0) else 11
set_option maxHeartbeats 4000000 in
theorem checkPuts_any (enc lim:Int) (L:List Int) (w:World) (t:Nat) (ps:List PG) (v:Value) (es:List Ed) (h:Tx enc lim L w t ps) (hE:EdR w v es) (hl:(puts es).length≤2305843009213693951) :
  Calls Tryz.prog 92 #[.pointer (some ⟨t,0,none⟩),v] w fun e w'=>e=.returned (.int .i64 (cpA enc lim es))∧Below w.heap.size w w':=by
 have HT:=zh h
 have HC:Hid (∀ w',Below w.heap.size w w'→(w'.cell? ⟨t,0,none⟩=some (.int .i64 enc)∧w'.cell? ⟨t,1,none⟩=some (.int .i64 lim))):=fun w' hb=>by
  obtain ⟨lv,u,⟨c0,c1,_,_⟩,_⟩:=(h.ext hb).cells
  exact ⟨c0,c1⟩
 obtain ⟨ao,cap,rfl,h1,h2,h3⟩:=id hE
 have HE:Hid (∀ w',Below w.heap.size w w'→∀ j e,es[j]?=some e→∃ b off,ao=some ⟨b,off,none⟩∧w'.cell? ⟨b,off + j * 3,none⟩=some (.int .i64 e.1)∧w'.cell? ⟨b,off + j * 3 + 1,none⟩=some (.int .i64 e.2.1)∧∃ pv,w'.cell? ⟨b,off + j * 3 + 2,none⟩=some pv∧Rd .i64 w' pv e.2.2):=fun w' hb j e he=>by
  obtain ⟨ao',cap',e1,_,_,e4⟩:=hE.ext hb
  cases e1
  obtain ⟨b,o,k1,_,k3⟩:=e4 (by intro hn;subst hn;simp at he)
  obtain ⟨c0,c1,c2⟩:=k3 j e he
  exact ⟨b,o,k1,c0,c1,c2⟩
 clear h hE h3
 go_enter Tryz.func92,Tryz.ntmps92
 go_wp2_with fail
 go_loopg [5,13] es.length (fun gk tv p wr=>∃ j:Nat,j + gk=es.length∧p=.int .i64 (j:Nat)∧tv=.int .i64 (ln enc (puts (es.take j)):Nat)∧Hid (∀ a ∈ puts (es.take j),Cx.fits enc a=true)∧Hid (Below w.heap.size w wr))
 case atStart=>exact ⟨0,by omega,rfl,rfl,(fun a ha=>by simp [puts] at ha),Below.refl _ _⟩
 case round =>
  obtain ⟨j,hj,rfl,rfl,HF,HB⟩:=hrel
  by_cases hi':j < es.length
  ·have hi2:(j:Int) < (es.length:Int):=by omega
   obtain ⟨e,hej⟩:∃ e,es[j]?=some e:=⟨_,List.getElem?_eq_getElem hi'⟩
   obtain ⟨b,o,rfl,c0,c1,pv,c2,hpv⟩:=HE.out wr HB.out j e hej
   obtain ⟨pa,pc,rfl,hp1,hp2,hp3⟩:=id hpv
   have HPV:=zh hpv
   obtain ⟨ef,et,ep⟩:=e
   simp only at *
   have hpl:=puts_len es j (ef,et,ep) hej ep.length
   rw [List.length_append,List.take_length] at hpl
   have hlt:=ln_tk enc es j (ef,et,ep) hej
   have HPS:=zh (puts_succ es j (ef,et,ep) hej)
   simp only at hlt HPS hpl
   have HBA:Hid (Below w.heap.size w (wr.alloc (.cells #[.int .i64 ef,.int .i64 et,.slice pa ep.length pc] 87))):=zxa HB.out _
   have HPV2:Hid (Rd .i64 (wr.alloc (.cells #[.int .i64 ef,.int .i64 et,.slice pa ep.length pc] 87)) (.slice pa ep.length pc) ep):=HPV.out.ext (zxa (Below.refl _ _) _)
   clear hpv hp3 HPV
   go_upto_block 2 with fail
   generalize wr.alloc _=wb at *
   clear c0 c1 c2
   go_wp2_with fail
   go_loopg [5,20] ep.length (fun gk2 tv p wr2=>∃ i:Nat,i + gk2=ep.length∧p=.int .i64 (i:Nat)∧tv=.int .i64 ((ln enc (puts (es.take j)):Nat) + (ln enc (ep.take i):Nat):Int)∧Hid (∀ a ∈ ep.take i,Cx.fits enc a=true)∧Hid (Below wb.heap.size wb wr2))
   case atStart=>exact ⟨0,by omega,rfl,vi (by rw [List.take_zero,ln_nil];omega),(fun a ha=>by simp at ha),Below.refl _ _⟩
   case round =>
    obtain ⟨i,hii,rfl,rfl,HF2,HB2⟩:=hrel
    by_cases hi3:i < ep.length
    ·have hi4:(i:Int) < (ep.length:Int):=by omega
     obtain ⟨a,hai⟩:∃ a,ep[i]?=some a:=⟨_,List.getElem?_eq_getElem hi3⟩
     obtain ⟨pa',pc',e1,_,_,e4⟩:=HPV2.out.ext HB2.out
     simp only [Value.slice.injEq] at e1
     obtain ⟨e5,_,_⟩:=e1
     subst e5
     obtain ⟨b2,o2,e6,_,e8⟩:=e4 (by intro hn;subst hn;simp at hi3)
     subst e6
     have ca:=e8 i hi3
     rw [hai,Option.getD_some] at ca
     have HBT:=zh (HBA.out.trans (HB2.out.mono HBA.out.size))
     obtain ⟨t0,t1⟩:=HC.out wr HBT.out
     have SZ:=zh (Go.Proofs.YtdhciadajendnaaGreat.Size_any enc a wr)
     have et2:ep.take (i + 1)=ep.take i ++ [a]:=by rw [List.take_add_one,hai];rfl
     have hb1:=hlt (i + 1)
     rw [et2,ln_app] at hb1
     have HT2:=zh et2
     clear et2 e4 e8
     by_cases hfa:Cx.fits enc a=true
     ·have hsz:Cx.size enc a=(ln enc [a]:Nat):=by rw [ln_one];exact size_fit enc a hfa
      have hpos:0 < ln enc [a]:=by rw [ln_one];exact (Cx.put_len enc a).1
      have HNX:=zh (show ln enc (ep.take (i + 1))=ln enc (ep.take i) + ln enc [a] by rw [HT2.out,ln_app])
      have HF3:=zh (show ∀ x ∈ ep.take (i + 1),Cx.fits enc x=true by
       rw [HT2.out]
       intro x hx
       rcases List.mem_append.1 hx with hx | hx
       ·exact HF2.out x hx
       ·rw [List.mem_singleton] at hx;subst hx;exact hfa)
      rw [hsz] at SZ
      have hz:((ln enc [a]:Nat):Int)≠0:=by omega
      have hzb:(((ln enc [a]:Nat):Int) == 0)=false:=by simp;omega
      clear hsz hai
      generalize ln enc [a]=sa at *
      generalize ln enc (puts (es.take j))=tj at *
      generalize ln enc (ep.take i)=ti at *
      go_wp2_with (go_at_call 75;refine SZ.out.mono ?_;clear ca t0 t1;rintro e w3 ⟨rfl,hb3⟩;have HB3:=zh (zxt HB2.out hb3);clear hb3;(try dsimp only))
      go_roundg (ep.length - (i + 1))
      case rel=>exact ⟨i + 1,by omega,by go_num,vi (by rw [HNX.out];omega),HF3.out,HB3.out⟩
      case measure=>omega
     ·have hfa':Cx.fits enc a=false:=by simpa using hfa
      have hsz:Cx.size enc a=0:=by unfold Cx.size;rw [hfa'];rfl
      have hm:a ∈ puts es:=by
       unfold puts
       rw [List.mem_flatMap]
       exact ⟨(ef,et,ep),List.mem_of_getElem? hej,List.mem_of_getElem? hai⟩
      have HAN:Hid (cpA enc lim es=11):=by
       unfold Hid cpA
       rw [if_neg (fun hall=>hfa (hall a hm))]
      rw [hsz] at SZ
      clear hsz hai
      generalize ln enc (puts (es.take j))=tj at *
      generalize ln enc (ep.take i)=ti at *
      go_wp2_with (go_at_call 75;refine SZ.out.mono ?_;clear ca t0 t1;rintro e w3 ⟨rfl,hb3⟩;have HB3:=zh (zxt HB2.out hb3);clear hb3;(try dsimp only))
      go_ret
      exact ⟨ret_int HAN.out.symm,HBA.out.trans (HB3.out.mono HBA.out.size)⟩
    ·have hi4:¬ (i:Int) < (ep.length:Int):=by omega
     obtain rfl:i=ep.length:=by omega
     rw [List.take_length] at HF2
     have HBT:=zh (HBA.out.trans (HB2.out.mono HBA.out.size))
     have HNX:=zh (show ln enc (puts (es.take (j + 1)))=ln enc (puts (es.take j)) + ln enc (ep.take ep.length) by rw [HPS.out,ln_app,List.take_length])
     have HF3:=zh (show ∀ x ∈ puts (es.take (j + 1)),Cx.fits enc x=true by
      rw [HPS.out]
      intro x hx
      exact (List.mem_append.1 hx).elim (HF.out x) (HF2.out x))
     have hb1:=hlt ep.length
     generalize ln enc (puts (es.take j))=tj at *
     generalize ln enc (ep.take ep.length)=ti at *
     go_wp2_with fail
     go_roundg (es.length - (j + 1))
     case rel=>exact ⟨j + 1,by omega,by go_num,vi (by rw [HNX.out];omega),HF3.out,HBT.out⟩
     case measure=>omega
  ·have hi2:¬ (j:Int) < (es.length:Int):=by omega
   obtain rfl:j=es.length:=by omega
   rw [List.take_length] at HF ⊢
   obtain ⟨t0,t1⟩:=HC.out wr HB.out
   have HAN:=zh (show cpA enc lim es=if (ln enc (puts es):Int) > lim then 50 else 0 by unfold cpA;rw [if_pos HF.out])
   generalize ln enc (puts es)=tj at *
   by_cases hg:(tj:Int) > lim
   ·rw [if_pos hg] at HAN
    have hg':lim < (tj:Int):=hg
    go_wp2_with fail
    go_ret
    exact ⟨ret_int HAN.out.symm,HB.out⟩
   ·rw [if_neg hg] at HAN
    have hg':¬ lim < (tj:Int):=hg
    go_wp2_with fail
    go_ret
    exact ⟨ret_int HAN.out.symm,HB.out⟩
open Go.RowKit
def rg (n:Int):Int→List Ed→Bool
 | _,[]=>true
 | least,e :: es=>decide (least≤e.1∧e.1≤e.2.1∧e.2.1≤n) && rg n e.2.1 es
def ckA (enc lim:Int) (n:Nat) (es:List Ed):Int:=if 70000 < es.length then 3 else if rg n 0 es=true then cpA enc lim es else 2
set_option maxHeartbeats 4000000 in
theorem check_any (enc lim:Int) (L:List Int) (w:World) (t:Nat) (ps:List PG) (v:Value) (es:List Ed) (h:Tx enc lim L w t ps) (hE:EdR w v es) (hl:es.length≤70000→(puts es).length≤2305843009213693951) :
  Calls Tryz.prog 63 #[.pointer (some ⟨t,0,none⟩),v] w fun e w'=>e=.returned (.int .i64 (ckA enc lim (sh enc ps).length es))∧Below w.heap.size w w':=by
 have LN:Hid (∀ w',Below w.heap.size w w'→Calls Tryz.prog 34 #[.pointer (some ⟨t,0,none⟩)] w' fun e w''=>e=.returned (.int .i64 (sh enc ps).length)∧Below w'.heap.size w' w''):=fun w' hb=>Len_any enc lim L w' t ps (h.ext hb)
 have CP:Hid (es.length≤70000→∀ w',Below w.heap.size w w'→Calls Tryz.prog 92 #[.pointer (some ⟨t,0,none⟩),v] w' fun e w''=>e=.returned (.int .i64 (cpA enc lim es))∧Below w'.heap.size w' w''):=fun h70 w' hb=>checkPuts_any enc lim L w' t ps v es (h.ext hb) (hE.ext hb) (hl h70)
 obtain ⟨ao,cap,rfl,h1,h2,h3⟩:=id hE
 have HE:Hid (∀ w',Below w.heap.size w w'→∀ j e,es[j]?=some e→∃ b off,ao=some ⟨b,off,none⟩∧w'.cell? ⟨b,off + j * 3,none⟩=some (.int .i64 e.1)∧w'.cell? ⟨b,off + j * 3 + 1,none⟩=some (.int .i64 e.2.1)∧∃ pv,w'.cell? ⟨b,off + j * 3 + 2,none⟩=some pv∧Rd .i64 w' pv e.2.2):=fun w' hb j e he=>by
  obtain ⟨ao',cap',e1,_,_,e4⟩:=hE.ext hb
  cases e1
  obtain ⟨b,o,k1,_,k3⟩:=e4 (by intro hn;subst hn;simp at he)
  obtain ⟨c0,c1,c2⟩:=k3 j e he
  exact ⟨b,o,k1,c0,c1,c2⟩
 clear h hE h3
 generalize (sh enc ps).length=n at *
 by_cases hbig:70000 < es.length
 ·have hb':(70000:Int) < (es.length:Int):=by omega
  have HA:=zh (show ckA enc lim n es=3 by unfold ckA;rw [if_pos hbig])
  go_enter Tryz.func63,Tryz.ntmps63
  go_wp2_with fail
  go_ret
  exact ⟨ret_int HA.out.symm,Below.refl _ _⟩
 have hb':¬ (70000:Int) < (es.length:Int):=by omega
 have HA:=zh (show ckA enc lim n es=if rg n 0 es=true then cpA enc lim es else 2 by unfold ckA;rw [if_neg hbig])
 go_enter Tryz.func63,Tryz.ntmps63
 go_wp2_with fail
 go_loopg [5,13] es.length (fun gk lv p wr=>∃ (j:Nat) (least:Int),j + gk=es.length∧p=.int .i64 (j:Nat)∧lv=.int .i64 least∧Hid (rg n 0 es=rg n least (es.drop j))∧Hid (Below w.heap.size w wr))
 case atStart=>exact ⟨0,0,by omega,rfl,rfl,by rw [List.drop_zero];rfl,Below.refl _ _⟩
 case round =>
  obtain ⟨j,least,hj,rfl,rfl,HR,HB⟩:=hrel
  by_cases hi':j < es.length
  ·have hi2:(j:Int) < (es.length:Int):=by omega
   obtain ⟨e,hej⟩:∃ e,es[j]?=some e:=⟨_,List.getElem?_eq_getElem hi'⟩
   obtain ⟨b,o,rfl,c0,c1,pv,c2,hpv⟩:=HE.out wr HB.out j e hej
   obtain ⟨pa,pc,rfl,hp1,hp2,hp3⟩:=id hpv
   have hdr:es.drop j=e :: es.drop (j + 1):=by
    rw [List.drop_eq_getElem_cons hi']
    rw [List.getElem?_eq_getElem hi',Option.some.injEq] at hej
    rw [hej]
   obtain ⟨ef,et,ep⟩:=e
   simp only at *
   have HD:=zh hdr
   clear hpv hp3 hdr
   obtain ⟨wb,hwb,kb,hbb⟩:∃ wb,wb=wr.alloc (.cells #[.int .i64 ef,.int .i64 et,.slice pa ep.length pc] 87)∧wb.heap[wr.heap.size]?=some (.cells #[.int .i64 ef,.int .i64 et,.slice pa ep.length pc] 87 (0,0))∧Below wr.heap.size wr wb:=⟨_,rfl,heap_alloc_new _ _,zxa (Below.refl _ _) _⟩
   have HP:Hid (∀ w',Below wb.heap.size wb w'→w'.cell? ⟨wr.heap.size,0,none⟩=some (.int .i64 ef)∧w'.cell? ⟨wr.heap.size,1,none⟩=some (.int .i64 et)):=fun w' hb=>by
    have hk:=(hb.block wr.heap.size (Array.getElem?_eq_some_iff.1 kb).1).trans kb
    exact ⟨by rw [cell_of_row w' _ _ _ _ _ hk];rfl,by rw [cell_of_row w' _ _ _ _ _ hk];rfl⟩
   have HBb:=zh (zxt HB.out hbb)
   clear kb hbb
   go_upto_region 7 with fail
   rw [← hwb]
   clear hwb c0 c1 c2
   obtain ⟨d0,d1⟩:=HP.out wb (Below.refl _ _)
   by_cases g1:ef < least
   ·have HAN:=zh (show ckA enc lim n es=2 by
     rw [HA.out,HR.out,HD.out,rg]
     simp only [Bool.and_eq_true,decide_eq_true_eq]
     rw [if_neg (by omega)])
    refine wp_region_held_drew (S:=fun w'=>w'.cell? ⟨wr.heap.size,0,none⟩=some (.int .i64 ef)∧w'.cell? ⟨wr.heap.size,1,none⟩=some (.int .i64 et)) (by kernel_rfl) (⟨d0,d1⟩) (fun _=>?_)
    refine tkH 0 rfl ?_
    refine tkH 1 rfl ?_
    refine tkH 2 rfl ?_
    refine tkH 3 rfl ?_
    refine tkH 4 rfl ?_
    refine tuH 5 rfl ?_
    refine tuH 6 rfl ?_
    refine tuH 7 rfl ?_
    refine tuH 8 rfl ?_
    refine tuH 9 rfl ?_
    refine tkH 10 rfl ?_
    refine tkH 11 rfl ?_
    refine tuH 12 rfl ?_
    refine tuH 13 rfl ?_
    refine tuH 14 rfl ?_
    refine rdH 15 rfl fun K hK=>?_
    go_simp
    refine hK.out _ _ ?_ (fun _=>?_)
    ·(try simp only [World.cell?_drew]);exact ⟨d0,d1⟩
    clear hK K
    try simp only [Act.put,tS]
    refine tuH 16 rfl ?_
    refine tkH 17 rfl ?_
    refine dnH ?_
    go_wp2_with fail
    go_ret
    exact ⟨ret_int HAN.out.symm,by first | exact HBb.out.drew | exact HBb.out⟩
   by_cases g2:et < ef
   ·have HAN:=zh (show ckA enc lim n es=2 by
     rw [HA.out,HR.out,HD.out,rg]
     simp only [Bool.and_eq_true,decide_eq_true_eq]
     rw [if_neg (by omega)])
    refine wp_region_held_drew (S:=fun w'=>w'.cell? ⟨wr.heap.size,0,none⟩=some (.int .i64 ef)∧w'.cell? ⟨wr.heap.size,1,none⟩=some (.int .i64 et)) (by kernel_rfl) (⟨d0,d1⟩) (fun _=>?_)
    refine tkH 0 rfl ?_
    refine tkH 1 rfl ?_
    refine tkH 2 rfl ?_
    refine tkH 3 rfl ?_
    refine tkH 4 rfl ?_
    refine tkH 5 rfl ?_
    refine tkH 6 rfl ?_
    refine tkH 7 rfl ?_
    refine tkH 8 rfl ?_
    refine tkH 9 rfl ?_
    refine tkH 10 rfl ?_
    refine tkH 11 rfl ?_
    refine tuH 12 rfl ?_
    refine tuH 13 rfl ?_
    refine tuH 14 rfl ?_
    refine rdH 15 rfl fun K hK=>?_
    go_simp
    refine hK.out _ _ ?_ (fun _=>?_)
    ·(try simp only [World.cell?_drew]);exact ⟨d0,d1⟩
    clear hK K
    try simp only [Act.put,tS]
    refine tuH 16 rfl ?_
    refine tkH 17 rfl ?_
    refine dnH ?_
    go_wp2_with fail
    go_ret
    exact ⟨ret_int HAN.out.symm,by first | exact HBb.out.drew | exact HBb.out⟩
   by_cases g3:(n:Int) < et
   ·have HAN:=zh (show ckA enc lim n es=2 by
     rw [HA.out,HR.out,HD.out,rg]
     simp only [Bool.and_eq_true,decide_eq_true_eq]
     rw [if_neg (by omega)])
    refine wp_region_held_drew (S:=fun w'=>w'.cell? ⟨wr.heap.size,0,none⟩=some (.int .i64 ef)∧w'.cell? ⟨wr.heap.size,1,none⟩=some (.int .i64 et)) (by kernel_rfl) (⟨d0,d1⟩) (fun _=>?_)
    refine tkH 0 rfl ?_
    refine tkH 1 rfl ?_
    refine tkH 2 rfl ?_
    refine tkH 3 rfl ?_
    refine tkH 4 rfl ?_
    refine tkH 5 rfl ?_
    refine tkH 6 rfl ?_
    refine tkH 7 rfl ?_
    refine tkH 8 rfl ?_
    refine tkH 9 rfl ?_
    refine tkH 10 rfl ?_
    refine tkH 11 rfl ?_
    refine tkH 12 rfl ?_
    refine tkH 13 rfl ?_
    refine tkH 14 rfl ?_
    refine rdH 15 rfl fun K hK=>?_
    go_simp
    refine (LN.out _ HBb.out.drew).mono ?_;clear d0 d1;rintro e w3 ⟨rfl,hb3⟩;have HB3:=zh (zxt (Below.drew (Below.refl wb.heap.size wb)) hb3);clear hb3;obtain ⟨d0,d1⟩:=HP.out w3 HB3.out;try dsimp only
    refine hK.out _ _ ?_ (fun _=>?_)
    ·(try simp only [World.cell?_drew]);exact ⟨d0,d1⟩
    clear hK K
    try simp only [Act.put,tS]
    refine tkH 16 rfl ?_
    refine tkH 17 rfl ?_
    refine dnH ?_
    go_wp2_with fail
    go_ret
    exact ⟨ret_int HAN.out.symm,HBb.out.trans (HB3.out.mono HBb.out.size)⟩
   ·have HNX:=zh (show rg n 0 es=rg n et (es.drop (j + 1)) by
     rw [HR.out,HD.out,rg]
     simp only
     rw [decide_eq_true (show least≤ef∧ef≤et∧et≤n by omega),Bool.true_and])
    refine wp_region_held_drew (S:=fun w'=>w'.cell? ⟨wr.heap.size,0,none⟩=some (.int .i64 ef)∧w'.cell? ⟨wr.heap.size,1,none⟩=some (.int .i64 et)) (by kernel_rfl) (⟨d0,d1⟩) (fun _=>?_)
    refine tkH 0 rfl ?_
    refine tkH 1 rfl ?_
    refine tkH 2 rfl ?_
    refine tkH 3 rfl ?_
    refine tkH 4 rfl ?_
    refine tkH 5 rfl ?_
    refine tkH 6 rfl ?_
    refine tkH 7 rfl ?_
    refine tkH 8 rfl ?_
    refine tkH 9 rfl ?_
    refine tkH 10 rfl ?_
    refine tkH 11 rfl ?_
    refine tkH 12 rfl ?_
    refine tkH 13 rfl ?_
    refine tkH 14 rfl ?_
    refine rdH 15 rfl fun K hK=>?_
    go_simp
    refine (LN.out _ HBb.out.drew).mono ?_;clear d0 d1;rintro e w3 ⟨rfl,hb3⟩;have HB3:=zh (zxt (Below.drew (Below.refl wb.heap.size wb)) hb3);clear hb3;obtain ⟨d0,d1⟩:=HP.out w3 HB3.out;try dsimp only
    refine hK.out _ _ ?_ (fun _=>?_)
    ·(try simp only [World.cell?_drew]);exact ⟨d0,d1⟩
    clear hK K
    try simp only [Act.put,tS]
    refine tkH 16 rfl ?_
    refine tkH 17 rfl ?_
    refine dnH ?_
    go_wp2_with fail
    go_roundg (es.length - (j + 1))
    case rel=>exact ⟨j + 1,et,by omega,by go_num,rfl,HNX.out,HBb.out.trans (HB3.out.mono HBb.out.size)⟩
    case measure=>omega
  ·have hi2:¬ (j:Int) < (es.length:Int):=by omega
   obtain rfl:j=es.length:=by omega
   have HAN:=zh (show ckA enc lim n es=cpA enc lim es by rw [HA.out,HR.out,List.drop_length,rg];rfl)
   go_wp2_with (go_at_call 92;refine (CP.out (by omega) wr HB.out).mono ?_;rintro e w3 ⟨rfl,hb3⟩;have HB3:=zh (zxt HB.out hb3);clear hb3;(try dsimp only))
   go_ret
   exact ⟨ret_int HAN.out.symm,HB3.out⟩
open Go.RowKit
def apE (l:List (Int × Int)):Nat→List Ed→List (Int × Int)
 | p,[]=>l.drop p
 | p,e :: es=>(l.drop p).take (e.1.toNat - p) ++ (e.2.2.map fun a=>(a,-1)) ++ apE l e.2.1.toNat es
theorem rg_cons {n least:Int} {e:Ed} {es:List Ed}:rg n least (e :: es)=true ↔ (least≤e.1∧e.1≤e.2.1∧e.2.1≤n)∧rg n e.2.1 es=true:=by rw [rg,Bool.and_eq_true,decide_eq_true_eq]
theorem rg_mono {n a b:Int} (h:a≤b) {es:List Ed} (hr:rg n b es=true):rg n a es=true:=by
 cases es with
 | nil=>rfl
 | cons e es =>
   rw [rg_cons] at hr ⊢
   exact ⟨⟨by omega,hr.1.2⟩,hr.2⟩
theorem rg_tail {n:Int} {es2:List Ed}:∀ (es1:List Ed) (a:Int),rg n a (es1 ++ es2)=true→rg n a es2=true:=by
 intro es1
 induction es1 with
 | nil=>intro a h;exact h
 | cons e es1 ih =>
   intro a h
   rw [List.cons_append,rg_cons] at h
   exact rg_mono (by omega) (ih e.2.1 h.2)
theorem rg_left {n:Int} {es2:List Ed}:∀ (es1:List Ed) (a:Int),rg n a (es1 ++ es2)=true→rg n a es1=true:=by
 intro es1
 induction es1 with
 | nil=>intro a h;rfl
 | cons e es1 ih =>
   intro a h
   rw [List.cons_append,rg_cons] at h
   rw [rg_cons]
   exact ⟨h.1,ih e.2.1 h.2⟩
theorem take_split (l:List (Int × Int)) (p f q:Nat) (h1:p≤f) (h2:f≤q):(l.drop p).take (q - p)=(l.drop p).take (f - p) ++ (l.drop f).take (q - f):=by
 rw [show q - p=(f - p) + (q - f) by omega,List.take_add,List.drop_drop,show p + (f - p)=f by omega]
theorem ap_head (l:List (Int × Int)) (es:List Ed) (p f:Nat) (h1:p≤f) (hr:rg l.length f es=true):apE l p es=(l.drop p).take (f - p) ++ apE l f es:=by
 cases es with
 | nil =>
   rw [apE,apE]
   conv=>lhs;rw [← List.take_append_drop (f - p) (l.drop p),List.drop_drop,show p + (f - p)=f by omega]
 | cons e es =>
   rw [rg_cons] at hr
   rw [apE,apE,take_split l p f e.1.toNat h1 (by omega)]
   simp only [List.append_assoc]
theorem ap_cut (l:List (Int × Int)) (es:List Ed) (f:Nat) (h2:f≤l.length) (hr:rg l.length f es=true):(apE l 0 es).drop f=apE l f es∧(apE l 0 es).take f=l.take f:=by
 have e:=ap_head l es 0 f (Nat.zero_le _) hr
 rw [List.drop_zero,Nat.sub_zero] at e
 have hl:(l.take f).length=f:=by rw [List.length_take];omega
 rw [e]
 exact ⟨List.drop_left' hl,List.take_left' hl⟩
theorem ap_two (l:List (Int × Int)) (es2:List Ed):∀ (es1:List Ed) (p:Nat),p≤l.length→rg l.length p (es1 ++ es2)=true→apE (apE l 0 es2) p es1=apE l p (es1 ++ es2):=by
 intro es1
 induction es1 with
 | nil=>intro p hp hr;rw [apE,List.nil_append];exact (ap_cut l es2 p hp hr).1
 | cons e es1 ih =>
   intro p hp hr
   rw [List.cons_append,rg_cons] at hr
   obtain ⟨⟨r1,r2,r3⟩,r4⟩:=hr
   rw [List.cons_append,apE,apE,ih e.2.1.toNat (by omega) (by rw [Int.toNat_of_nonneg (by omega)];exact r4)]
   congr 2
   have k:=ap_cut l es2 e.1.toNat (by omega) (by rw [Int.toNat_of_nonneg (by omega)];exact rg_mono r2 (rg_tail es1 _ r4))
   have k2:((apE l 0 es2).take e.1.toNat).drop p=(l.take e.1.toNat).drop p:=by rw [k.2]
   rw [List.drop_take,List.drop_take] at k2
   exact k2
theorem ap_app (l b:List (Int × Int)):∀ (es:List Ed) (p:Nat),p≤l.length→rg l.length p es=true→apE (l ++ b) p es=apE l p es ++ b:=by
 intro es
 induction es with
 | nil=>intro p hp _;rw [apE,apE,List.drop_append_of_le_length hp]
 | cons e es ih =>
   intro p hp hr
   rw [rg_cons] at hr
   obtain ⟨⟨r1,r2,r3⟩,r4⟩:=hr
   rw [apE,apE,ih e.2.1.toNat (by omega) (by rw [Int.toNat_of_nonneg (by omega)];exact r4),List.drop_append_of_le_length hp,List.take_append_of_le_length (by rw [List.length_drop];omega)]
   simp only [List.append_assoc]
theorem ap_mid (a m b:List (Int × Int)) (es:List Ed) (h:rg (a ++ m).length a.length es=true):apE (a ++ m ++ b) 0 es=a ++ apE (a ++ m) a.length es ++ b:=by
 have hm:rg (a ++ m).length ((0:Nat):Int) es=true:=rg_mono (by omega) h
 rw [ap_app (a ++ m) b es 0 (Nat.zero_le _) hm,ap_head (a ++ m) es 0 a.length (Nat.zero_le _) h,List.drop_zero,Nat.sub_zero,List.take_left' rfl]
theorem key_len {enc:Int} {L:List Int} {w:World} {ps:List PG} (h:Pcs enc L w ps) (k:Nat):rA.key (rA.add Rs.zero (rA.su ((xsOf ps).take k))) 0=(sh enc (ps.take k)).length:=by
 have h':Pcs enc L w (ps.take k):=fun q hq=>h q (List.mem_of_mem_take hq)
 have e:(xsOf ps).take k=xsOf (ps.take k):=by simp [xsOf,List.map_take]
 have z:rA.add Rs.zero (rA.su (xsOf (ps.take k)))=rA.su (xsOf (ps.take k)):=rA.zadd _ (rA.ok _)
 rw [e,z,h'.su,sh_len]
 show (spn enc (asOf (ps.take k))).a=_
 rw [(spn_a enc _ h'.fit).1]
theorem find_span {enc:Int} {L:List Int} {w:World} {ps:List PG} (h:Pcs enc L w ps) (f t:Nat) (hft:f≤t) (ht:t≤(sh enc ps).length) :
  (sh enc (ps.take (rA.fnd 0 f Rs.zero (xsOf ps) - 1))).length≤f∧t≤(sh enc (ps.take (min (rA.fnd 0 ((t:Int) + 1) Rs.zero (xsOf ps)) ps.length))).length∧rA.fnd 0 f Rs.zero (xsOf ps) - 1≤min (rA.fnd 0 ((t:Int) + 1) Rs.zero (xsOf ps)) ps.length:=by
 have l1:=rA.fnd_le 0 f (xsOf ps) Rs.zero
 have l2:=rA.fnd_le 0 ((t:Int) + 1) (xsOf ps) Rs.zero
 rw [xsOf_len] at l1 l2
 have a1:(sh enc (ps.take (rA.fnd 0 f Rs.zero (xsOf ps) - 1))).length≤f:=by
  by_cases h0:rA.fnd 0 f Rs.zero (xsOf ps)=0
  ·rw [h0];simp [sh]
  ·have:=rA.fnd_less 0 f (xsOf ps) Rs.zero (rA.fnd 0 f Rs.zero (xsOf ps) - 1) Rs.ok_zero (by omega)
   rw [key_len h] at this
   omega
 have a2:rA.fnd 0 ((t:Int) + 1) Rs.zero (xsOf ps)≤ps.length→t + 1≤(sh enc (ps.take (rA.fnd 0 ((t:Int) + 1) Rs.zero (xsOf ps)))).length:=fun hle=>by
  have:=rA.fnd_hit 0 ((t:Int) + 1) (xsOf ps) Rs.zero Rs.ok_zero (by rw [xsOf_len];exact hle)
  rw [key_len h] at this
  omega
 refine ⟨a1,?_,?_⟩
 ·by_cases hle:rA.fnd 0 ((t:Int) + 1) Rs.zero (xsOf ps)≤ps.length
  ·rw [Nat.min_eq_left hle]
   have:=a2 hle
   omega
  ·rw [Nat.min_eq_right (by omega),List.take_length]
   exact ht
 ·by_cases hle:rA.fnd 0 ((t:Int) + 1) Rs.zero (xsOf ps)≤ps.length
  ·rw [Nat.min_eq_left hle]
   by_cases hlt:rA.fnd 0 ((t:Int) + 1) Rs.zero (xsOf ps) < rA.fnd 0 f Rs.zero (xsOf ps)
   ·have k1:=rA.fnd_less 0 f (xsOf ps) Rs.zero _ Rs.ok_zero hlt
    rw [key_len h] at k1
    have k2:=a2 hle
    omega
   ·omega
  ·rw [Nat.min_eq_right (by omega)]
   omega
open Go.RowKit
theorem drop_of {α:Type} {l:List α} {j:Nat} {e:α} (h:l[j]?=some e):l.drop j=e :: l.drop (j + 1):=by
 obtain ⟨hj,rfl⟩:=List.getElem?_eq_some_iff.1 h
 exact List.drop_eq_getElem_cons hj
theorem rw_step {l:List (Int × Int)} {es:List Ed} {j p:Nat} {e:Ed} (h:es[j]?=some e) (hr:rg l.length p (es.drop j)=true) :
  ∃ f t:Nat,e.1=f∧e.2.1=t∧p≤f∧f≤t∧t≤l.length∧rg l.length t (es.drop (j + 1))=true∧apE l p (es.drop j)=(l.drop p).take (f - p) ++ (e.2.2.map fun a=>(a,-1)) ++ apE l t (es.drop (j + 1)):=by
 rw [drop_of h,rg_cons] at hr
 obtain ⟨⟨h1,h2,h3⟩,h4⟩:=hr
 refine ⟨e.1.toNat,e.2.1.toNat,by omega,by omega,by omega,by omega,by omega,?_,?_⟩
 ·rw [show ((e.2.1.toNat:Nat):Int)=e.2.1 by omega];exact h4
 ·rw [drop_of h,apE]
structure RwJ (enc:Int) (l:List (Int × Int)) (base:Nat) (es:List Ed) (j p:Nat) (A B:List (Int × Int)):Prop where
 left:B=l.drop p
 le:p≤l.length
 rg':rg l.length p (es.drop j)=true
 all:A ++ apE l p (es.drop j)=apE l base es
 bd:ln enc (A.map Prod.fst) + ln enc (B.map Prod.fst)≤ln enc (l.map Prod.fst) + ln enc (puts (es.take j))
theorem puts_take_le (enc:Int) (es:List Ed) (j:Nat):ln enc (puts (es.take j))≤ln enc (puts es):=by
 have e:puts es=puts (es.take j) ++ puts (es.drop j):=by unfold puts;rw [← List.flatMap_append,List.take_append_drop]
 rw [e,ln_app];omega
theorem ln_take_drop (enc:Int) (l:List Int) (k:Nat):ln enc (l.take k) + ln enc (l.drop k)=ln enc l:=by rw [← ln_app,List.take_append_drop]
theorem RwJ.zero {enc:Int} {l:List (Int × Int)} {base:Nat} {es:List Ed} (hb:base≤l.length) (hr:rg l.length base es=true):RwJ enc l base es 0 base [] (l.drop base) :=
 ⟨rfl,hb,hr,rfl,by have:=ln_take_drop enc (l.map Prod.fst) base;rw [List.map_drop];simp [ln,puts];unfold ln at this;omega⟩
theorem RwJ.step {enc:Int} {l:List (Int × Int)} {base:Nat} {es:List Ed} {j p:Nat} {A B:List (Int × Int)} {e:Ed} (h:RwJ enc l base es j p A B) (he:es[j]?=some e) :
  ∃ f t:Nat,e.1=f∧e.2.1=t∧p≤f∧f≤t∧t≤l.length∧f - p≤B.length∧t - f≤(B.drop (f - p)).length ∧
    ln enc ((A ++ B.take (f - p)).map Prod.fst) + ln enc ((B.drop (f - p)).map Prod.fst)≤ln enc (l.map Prod.fst) + ln enc (puts es) ∧
    ln enc ((A ++ B.take (f - p)).map Prod.fst) + ln enc e.2.2≤ln enc (l.map Prod.fst) + ln enc (puts es) ∧
    RwJ enc l base es (j + 1) t (A ++ B.take (f - p) ++ e.2.2.map fun a=>(a,-1)) ((B.drop (f - p)).drop (t - f)):=by
 obtain ⟨f,t,h1,h2,h3,h4,h5,h6,h7⟩:=rw_step he h.rg'
 have hB:=h.left
 have hps:=puts_succ es j e he
 have hle:=puts_take_le enc es (j + 1)
 rw [hps,ln_app] at hle
 have hbd:=h.bd
 have k1:=ln_take_drop enc (B.map Prod.fst) (f - p)
 have k2:=ln_take_drop enc ((B.map Prod.fst).drop (f - p)) (t - f)
 refine ⟨f,t,h1,h2,h3,h4,h5,?_,?_,?_,?_,?_,h5,h6,?_,?_⟩
 ·rw [hB,List.length_drop];omega
 ·rw [hB,List.drop_drop,List.length_drop];omega
 ·rw [List.map_append,ln_app,List.map_take,List.map_drop];omega
 ·rw [List.map_append,ln_app,List.map_take];omega
 ·rw [hB,List.drop_drop,List.drop_drop];congr 1;omega
 ·rw [← h.all,h7,hB];simp only [List.append_assoc]
 ·rw [hps,ln_app,List.map_append,List.map_append,ln_app,ln_app,List.map_take,List.map_drop,List.map_drop,List.map_map]
  have e2:e.2.2.map (Prod.fst ∘ fun a=>((a,-1):Int × Int))=e.2.2:=by rw [show (Prod.fst ∘ fun a=>((a,-1):Int × Int))=id from rfl];simp
  rw [e2]
  omega
theorem RwJ.fin {enc:Int} {l:List (Int × Int)} {base:Nat} {es:List Ed} {p:Nat} {A B:List (Int × Int)} (h:RwJ enc l base es es.length p A B):A ++ B=apE l base es∧ln enc (A.map Prod.fst) + ln enc (B.map Prod.fst)≤ln enc (l.map Prod.fst) + ln enc (puts es):=by
 have h1:=h.all
 rw [List.drop_length,apE,← h.left] at h1
 refine ⟨h1,?_⟩
 have:=h.bd
 rwa [List.take_length] at this
theorem ln_fst (enc:Int) (ps:List PG):ln enc ((sh enc ps).map Prod.fst)=ln enc (asOf ps):=by rw [sh_fst]
theorem rg_last {n:Int}:∀ (es:List Ed) (a:Int) (m:Int),rg n a es=true→(∀ e,es.getLast?=some e→e.2.1≤m)→rg m a es=true:=by
 intro es
 induction es with
 | nil=>intro a m _ _;rfl
 | cons e es ih =>
   intro a m h hl
   rw [rg_cons] at h ⊢
   obtain ⟨⟨h1,h2,h3⟩,h4⟩:=h
   cases es with
   | nil=>exact ⟨⟨h1,h2,hl e rfl⟩,rfl⟩
   | cons e2 es2 =>
     have k:=ih e.2.1 m h4 (fun e' h'=>hl e' (by rw [List.getLast?_cons_cons];exact h'))
     have k':=k
     rw [rg_cons] at k'
     exact ⟨⟨h1,h2,by omega⟩,k⟩
theorem rg_head {n:Int} {es:List Ed} {e:Ed} {a b:Int} (h:rg n a es=true) (h0:es[0]?=some e) (hb:b≤e.1):rg n b es=true:=by
 cases es with
 | nil=>rfl
 | cons e2 es =>
   simp only [List.getElem?_cons_zero,Option.some.injEq] at h0
   subst h0
   rw [rg_cons] at h ⊢
   exact ⟨⟨hb,h.1.2⟩,h.2⟩
theorem rg_two (l:List (Int × Int)) (es1 es2:List Ed) (h:rg l.length 0 (es1 ++ es2)=true):rg (apE l 0 es2).length 0 es1=true:=by
 refine rg_last es1 0 _ (rg_left es1 0 h) fun e he=>?_
 obtain ⟨pre,rfl⟩:=List.getLast?_eq_some_iff.1 he
 rw [List.append_assoc] at h
 have h2:=rg_tail pre 0 h
 rw [List.cons_append,List.nil_append,rg_cons] at h2
 obtain ⟨⟨h3,h4,h5⟩,h6⟩:=h2
 have hf:((e.2.1.toNat:Nat):Int)=e.2.1:=by omega
 have k:=(ap_cut l es2 e.2.1.toNat (by omega) (by rw [hf];exact h6)).2
 have k2:=congrArg List.length k
 rw [List.length_take,List.length_take] at k2
 omega
theorem ap_ln (enc:Int) (l:List (Int × Int)):∀ (es:List Ed) (p:Nat),rg l.length p es=true→ln enc ((apE l p es).map Prod.fst)≤ln enc ((l.drop p).map Prod.fst) + ln enc (puts es):=by
 intro es
 induction es with
 | nil=>intro p _;rw [apE];omega
 | cons e es ih =>
   intro p h
   rw [rg_cons] at h
   obtain ⟨⟨h1,h2,h3⟩,h4⟩:=h
   have hf:((e.2.1.toNat:Nat):Int)=e.2.1:=by omega
   have k:=ih e.2.1.toNat (by rw [hf];exact h4)
   have hp:puts (e :: es)=e.2.2 ++ puts es:=by unfold puts;simp
   have e2:(e.2.2.map (fun a=>((a,-1):Int × Int))).map Prod.fst=e.2.2:=by rw [List.map_map,show (Prod.fst ∘ fun a=>((a,-1):Int × Int))=id from rfl];simp
   rw [apE,hp,List.map_append,List.map_append,ln_app,ln_app,ln_app,e2,List.map_take]
   have k1:=ln_take_drop enc ((l.drop p).map Prod.fst) (e.1.toNat - p)
   have k2:=ln_take_drop enc (((l.drop p).map Prod.fst).drop (e.1.toNat - p)) (e.2.1.toNat - e.1.toNat)
   have e3:(((l.drop p).map Prod.fst).drop (e.1.toNat - p)).drop (e.2.1.toNat - e.1.toNat)=(l.drop e.2.1.toNat).map Prod.fst:=by
    rw [← List.map_drop,← List.map_drop,List.drop_drop,List.drop_drop];congr 2;omega
   rw [e3] at k2
   omega
theorem ap_ln0 (enc:Int) (l:List (Int × Int)) (es:List Ed) (h:rg l.length 0 es=true):ln enc ((apE l 0 es).map Prod.fst)≤ln enc (l.map Prod.fst) + ln enc (puts es):=by
 have:=ap_ln enc l es 0 h
 rwa [List.drop_zero] at this
def RwR (enc:Int) (L:List Int) (T0:List (Int × Int)) (w:World) (e:Ending) (w':World):Prop :=
 ∃ u ps',e=.returned (.agg #[.pointer u])∧TT w' (.agg #[.pointer u]) (xsOf ps')∧Pcs enc L w' ps'∧sh enc ps'=T0∧Below w.heap.size w w'
def RwOk (enc lim:Int) (L:List Int) (t:Nat) (ps0:List PG):Prop:=∀ (w:World) (u:Option Addr) (v:Value) (es:List Ed) (qs:List PG),Tx enc lim L w t ps0→TT w (.agg #[.pointer u]) (xsOf qs)→Pcs enc L w qs→EdR w v es→es≠[]→rg (sh enc qs).length 0 es=true→(∀ a ∈ puts es,Cx.fits enc a=true)→ln enc (asOf qs) + ln enc (puts es)≤1000000→es.length≤1000000 →
    Calls Tryz.prog 64 #[.pointer (some ⟨t,0,none⟩),.agg #[.pointer u],v] w fun e w'=>RwR enc L (apE (sh enc qs) 0 es) w e w'
theorem EdR.part {w:World} {ao:Option Addr} {cap:Nat} {es:List Ed} (h:EdR w (.slice ao es.length cap) es) (s k:Nat) (hs:s < k) (hk:k≤es.length) :
  ∃ b off,ao=some ⟨b,off,none⟩∧EdR w (.slice (some ⟨b,off + s * 3,none⟩) (k - s) (cap - s)) ((es.drop s).take (k - s)):=by
 obtain ⟨ao',cap',e1,h1,h2,h3⟩:=h
 simp only [Value.slice.injEq,true_and] at e1
 obtain ⟨rfl,rfl⟩:=e1
 obtain ⟨b,o,rfl,hb,h4⟩:=h3 (by intro e;subst e;simp at hk;omega)
 have hl:((es.drop s).take (k - s)).length=k - s:=by rw [List.length_take,List.length_drop];omega
 refine ⟨b,o,rfl,some ⟨b,o + s * 3,none⟩,cap - s,by rw [hl],by omega,by omega,fun _=>⟨b,o + s * 3,rfl,hb,fun i e he=>?_⟩⟩
 have hi:i < k - s:=by
  have:=(List.getElem?_eq_some_iff.1 he).1
  omega
 have he':es[s + i]?=some e:=by rw [List.getElem?_take_of_lt hi,List.getElem?_drop] at he;exact he
 have:=h4 (s + i) e he'
 rw [show o + s * 3 + i * 3=o + (s + i) * 3 by omega]
 exact this
theorem rg_ends {n:Nat}:∀ (es:List Ed) (a:Int),0≤a→rg n a es=true→∀ e0 e1,es[0]?=some e0→es[es.length - 1]?=some e1→∃ f t:Nat,e0.1=(f:Int)∧e1.2.1=(t:Int)∧f≤t∧t≤n∧a≤(f:Int):=by
 intro es
 induction es with
 | nil=>intro a _ _ e0 e1 h;simp at h
 | cons e es ih =>
   intro a ha h e0 e1 h0 h1
   simp only [List.getElem?_cons_zero,Option.some.injEq] at h0
   subst h0
   rw [rg_cons] at h
   obtain ⟨⟨k1,k2,k3⟩,k4⟩:=h
   cases es with
   | nil =>
     simp at h1
     subst h1
     exact ⟨e.1.toNat,e.2.1.toNat,by omega,by omega,by omega,by omega,by omega⟩
   | cons e2 es2 =>
     have h1':(e2 :: es2)[(e2 :: es2).length - 1]?=some e1:=by simpa using h1
     obtain ⟨f,t,q1,q2,q3,q4,q5⟩:=ih e.2.1 (by omega) k4 e2 e1 rfl h1'
     exact ⟨e.1.toNat,t,by omega,q2,by omega,q4,by omega⟩
theorem sh_three (enc:Int) (qs:List PG) (a b:Nat) (h:a≤b):sh enc qs=sh enc (qs.take a) ++ sh enc ((qs.drop a).take (b - a)) ++ sh enc (qs.drop b):=by
 rw [← sh_app,← sh_app]
 congr 1
 rw [List.append_assoc]
 conv=>lhs;rw [← List.take_append_drop a qs,← List.take_append_drop (b - a) (qs.drop a)]
 rw [List.drop_drop,Nat.add_sub_cancel' h]
theorem sh_two (enc:Int) (qs:List PG) (a b:Nat) (h:a≤b):sh enc (qs.take b)=sh enc (qs.take a) ++ sh enc ((qs.drop a).take (b - a)):=by
 rw [← sh_app]
 congr 1
 rw [← List.drop_take]
 conv=>lhs;rw [← List.take_append_drop a (qs.take b)]
 rw [List.take_take,Nat.min_eq_left h]
open Go.RowKit
section
variable {P:Program} (w:World)
end
theorem Tin.same {w w':World} (hb:∀ b,Typ 163 w b→w'.heap[b]?=w.heap[b]?):∀ {t:Tr It} {u:Option Addr},Tin w t u→Tin w' t u
 | ⟨none⟩,_,h=>h
 | ⟨some (_,_,_)⟩,_,⟨g,lv,rv,hu,hg,hl,hr⟩=>⟨g,lv,rv,hu,by rw [hb g ⟨_,hg⟩];exact hg,Tin.same hb hl,Tin.same hb hr⟩
theorem TT.same {w w':World} {v:Value} {xs:List It} (h:TT w v xs) (hb:∀ b,Typ 163 w b→w'.heap[b]?=w.heap[b]?):TT w' v xs:=by
 obtain ⟨u,t,h1,h2,h3,h4⟩:=h
 exact ⟨u,t,h1,Tin.same hb h2,h3,h4⟩
structure Sn (enc:Int) (L:List Int) (w:World) (s t:Nat) (ps:List PG):Prop where
 ex:∃ u,w.heap[s]?=some (.cells #[.pointer (some ⟨t,0,none⟩),.pointer u] 189 (0,0))∧TT w (.agg #[.pointer u]) (xsOf ps)
 pc:Pcs enc L w ps
 sz:ln enc (asOf ps)≤65536
end Go.Proofs.YtdhciadajendnaaGreat.P
