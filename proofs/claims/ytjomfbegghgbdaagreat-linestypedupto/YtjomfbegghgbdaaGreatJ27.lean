import Derived.Test.YtjomfbegghgbdaaGreatJ00
import Derived.Test.YtjomfbegghgbdaaGreatJ26
namespace Go.Proofs.YtjomfbegghgbdaaGreat.P
open Go.RowKit
abbrev Ed:=Int × Int × List Int
def EdR (w:World) (v:Value) (es:List Ed):Prop :=
 ∃ ao cap,v=.slice ao es.length cap∧es.length≤cap∧cap≤9223372036854775807 ∧
   (es≠[]→∃ b off,ao=some ⟨b,off,none⟩∧b < w.heap.size∧∀ i e,es[i]?=some e→w.cell? ⟨b,off + i * 3,none⟩=some (.int .i64 e.1)∧w.cell? ⟨b,off + i * 3 + 1,none⟩=some (.int .i64 e.2.1)∧∃ pv,w.cell? ⟨b,off + i * 3 + 2,none⟩=some pv∧Rd .i64 w pv e.2.2)
theorem EdR.ext {w w':World} {v:Value} {es:List Ed} (h:EdR w v es) (hb:Below w.heap.size w w'):EdR w' v es:=by
 obtain ⟨ao,cap,h1,h2,h3,h4⟩:=h
 refine ⟨ao,cap,h1,h2,h3,fun hn=>?_⟩
 obtain ⟨b,o,k1,k2,k3⟩:=h4 hn
 refine ⟨b,o,k1,Nat.lt_of_lt_of_le k2 hb.size,fun i e he=>?_⟩
 obtain ⟨c0,c1,pv,c2,c3⟩:=k3 i e he
 exact ⟨(hb.cell (p:=⟨b,_,none⟩) k2).trans c0,(hb.cell (p:=⟨b,_,none⟩) k2).trans c1,pv,(hb.cell (p:=⟨b,_,none⟩) k2).trans c2,c3.ext hb⟩
def puts (es:List Ed):List Int:=es.flatMap fun e=>e.2.2
theorem puts_succ (es:List Ed) (j:Nat) (e:Ed) (h:es[j]?=some e):puts (es.take (j + 1))=puts (es.take j) ++ e.2.2:=by
 rw [List.take_add_one,h,Option.toList_some]
 simp [puts]
theorem puts_len (es:List Ed) (j:Nat) (e:Ed) (h:es[j]?=some e) (i:Nat):(puts (es.take j) ++ e.2.2.take i).length≤(puts es).length:=by
 have h1:puts es=puts (es.take (j + 1)) ++ puts (es.drop (j + 1)):=by
  unfold puts
  rw [← List.flatMap_append,List.take_append_drop]
 rw [h1,puts_succ es j e h,List.length_append,List.length_append,List.length_append,List.length_take]
 omega
theorem ln_tk (enc:Int) (es:List Ed) (j:Nat) (e:Ed) (h:es[j]?=some e) (i:Nat):ln enc (puts (es.take j)) + ln enc (e.2.2.take i)≤4 * (puts es).length:=by
 have:=ln_le enc (puts (es.take j) ++ e.2.2.take i)
 rw [ln_app] at this
 have:=puts_len es j e h i
 omega
def cpA (enc lim:Int) (es:List Ed):Int:=if ∀ a ∈ puts es,Cx.fits enc a=true then (if (ln enc (puts es):Int) > lim then 50 else 0) else 11
set_option maxRecDepth 100000 in
set_option maxHeartbeats 4000000 in
theorem checkPuts_any (enc lim:Int) (L:List Int) (w:World) (t:Nat) (ps:List PG) (v:Value) (es:List Ed) (h:Tx enc lim L w t ps) (hE:EdR w v es) (hl:(puts es).length≤2305843009213693951) :
  Calls Tryz.prog 91 #[.pointer (some ⟨t,0,none⟩),v] w fun e w'=>e=.returned (.int .i64 (cpA enc lim es))∧Below w.heap.size w w':=by
 have HT:=hidIt h
 have HC:Hid (∀ w',Below w.heap.size w w'→(w'.cell? ⟨t,0,none⟩=some (.int .i64 enc)∧w'.cell? ⟨t,1,none⟩=some (.int .i64 lim))):=fun w' hb=>by
  obtain ⟨lv,u,⟨c0,c1,_,_⟩,_⟩:=(h.ext hb).cells
  exact ⟨c0,c1⟩
 obtain ⟨ao,cap,rfl,h1,h2,h3⟩:=id hE
 have HE:Hid (∀ w',Below w.heap.size w w'→∀ j e,es[j]?=some e→∃ b off,ao=some ⟨b,off,none⟩∧w'.cell? ⟨b,off + j * 3,none⟩=some (.int .i64 e.1)∧w'.cell? ⟨b,off + j * 3 + 1,none⟩=some (.int .i64 e.2.1)∧∃ pv,w'.cell? ⟨b,off + j * 3 + 2,none⟩=some pv∧Rd .i64 w' pv e.2.2):=fun w' hb j e he=>by
  obtain ⟨ao',cap',e1,_,_,e4⟩:=hE.ext hb
  cases e1
  obtain ⟨b,o,k1,_,k3⟩:=e4 (by intro hn;subst hn;simp at he)
  obtain ⟨c0,c1,c2⟩:=k3 j e he
  exact ⟨b,o,k1,c0,c1,c2⟩
 clear h hE h3
 go_enter Tryz.func91,Tryz.ntmps91
 go_wp2_with fail
 go_loopg [5,13] es.length (fun gk tv p wr=>∃ j:Nat,j + gk=es.length∧p=.int .i64 (j:Nat)∧tv=.int .i64 (ln enc (puts (es.take j)):Nat)∧Hid (∀ a ∈ puts (es.take j),Cx.fits enc a=true)∧Hid (Below w.heap.size w wr))
 case atStart=>exact ⟨0,by omega,rfl,rfl,(fun a ha=>by simp [puts] at ha),Below.refl _ _⟩
 case round =>
  obtain ⟨j,hj,rfl,rfl,HF,HB⟩:=hrel
  by_cases hi':j < es.length
  ·have hi2:(j:Int) < (es.length:Int):=by omega
   obtain ⟨e,hej⟩:∃ e,es[j]?=some e:=⟨_,List.getElem?_eq_getElem hi'⟩
   obtain ⟨b,o,rfl,c0,c1,pv,c2,hpv⟩:=HE.out wr HB.out j e hej
   obtain ⟨pa,pc,rfl,hp1,hp2,hp3⟩:=id hpv
   have HPV:=hidIt hpv
   obtain ⟨ef,et,ep⟩:=e
   simp only at *
   have hpl:=puts_len es j (ef,et,ep) hej ep.length
   rw [List.length_append,List.take_length] at hpl
   have hlt:=ln_tk enc es j (ef,et,ep) hej
   have HPS:=hidIt (puts_succ es j (ef,et,ep) hej)
   simp only at hlt HPS hpl
   have HBA:Hid (Below w.heap.size w (wr.alloc (.cells #[.int .i64 ef,.int .i64 et,.slice pa ep.length pc] 64))):=ext_alloc HB.out _
   have HPV2:Hid (Rd .i64 (wr.alloc (.cells #[.int .i64 ef,.int .i64 et,.slice pa ep.length pc] 64)) (.slice pa ep.length pc) ep):=HPV.out.ext (ext_alloc (Below.refl _ _) _)
   clear hpv hp3 HPV
   go_upto_block 2 with fail
   generalize wr.alloc _=wb at *
   clear c0 c1 c2
   go_wp2_with fail
   go_loopg [5,20] ep.length (fun gk2 tv p wr2=>∃ i:Nat,i + gk2=ep.length∧p=.int .i64 (i:Nat)∧tv=.int .i64 ((ln enc (puts (es.take j)):Nat) + (ln enc (ep.take i):Nat):Int)∧Hid (∀ a ∈ ep.take i,Cx.fits enc a=true)∧Hid (Below wb.heap.size wb wr2))
   case atStart=>exact ⟨0,by omega,rfl,vi (by rw [List.take_zero,ln_nil];omega),(fun a ha=>by simp at ha),Below.refl _ _⟩
   case round =>
    obtain ⟨i,hii,rfl,rfl,HF2,HB2⟩:=hrel
    by_cases hi3:i < ep.length
    ·have hi4:(i:Int) < (ep.length:Int):=by omega
     obtain ⟨a,hai⟩:∃ a,ep[i]?=some a:=⟨_,List.getElem?_eq_getElem hi3⟩
     obtain ⟨pa',pc',e1,_,_,e4⟩:=HPV2.out.ext HB2.out
     simp only [Value.slice.injEq] at e1
     obtain ⟨e5,_,_⟩:=e1
     subst e5
     obtain ⟨b2,o2,e6,_,e8⟩:=e4 (by intro hn;subst hn;simp at hi3)
     subst e6
     have ca:=e8 i hi3
     rw [hai,Option.getD_some] at ca
     have HBT:=hidIt (HBA.out.trans (HB2.out.mono HBA.out.size))
     obtain ⟨t0,t1⟩:=HC.out wr HBT.out
     have SZ:=hidIt (Go.Proofs.YtjomfbegghgbdaaGreat.Size_any enc a wr)
     have et2:ep.take (i + 1)=ep.take i ++ [a]:=by rw [List.take_add_one,hai];rfl
     have hb1:=hlt (i + 1)
     rw [et2,ln_app] at hb1
     have HT2:=hidIt et2
     clear et2 e4 e8
     by_cases hfa:Cx.fits enc a=true
     ·have hsz:Cx.size enc a=(ln enc [a]:Nat):=by rw [ln_one];exact size_fit enc a hfa
      have hpos:0 < ln enc [a]:=by rw [ln_one];exact (Cx.put_len enc a).1
      have HNX:=hidIt (show ln enc (ep.take (i + 1))=ln enc (ep.take i) + ln enc [a] by rw [HT2.out,ln_app])
      have HF3:=hidIt (show ∀ x ∈ ep.take (i + 1),Cx.fits enc x=true by
       rw [HT2.out]
       intro x hx
       rcases List.mem_append.1 hx with hx | hx
       ·exact HF2.out x hx
       ·rw [List.mem_singleton] at hx;subst hx;exact hfa)
      rw [hsz] at SZ
      have hz:((ln enc [a]:Nat):Int)≠0:=by omega
      have hzb:(((ln enc [a]:Nat):Int) == 0)=false:=by simp;omega
      clear hsz hai
      generalize ln enc [a]=sa at *
      generalize ln enc (puts (es.take j))=tj at *
      generalize ln enc (ep.take i)=ti at *
      go_wp2_with (go_at_call 112;refine SZ.out.mono ?_;clear ca t0 t1;rintro e w3 ⟨rfl,hb3⟩;have HB3:=hidIt (ext_trans HB2.out hb3);clear hb3;(try dsimp only))
      go_roundg (ep.length - (i + 1))
      case rel=>exact ⟨i + 1,by omega,by go_num,vi (by rw [HNX.out];omega),HF3.out,HB3.out⟩
      case measure=>omega
     ·have hfa':Cx.fits enc a=false:=by simpa using hfa
      have hsz:Cx.size enc a=0:=by unfold Cx.size;rw [hfa'];rfl
      have hm:a ∈ puts es:=by
       unfold puts
       rw [List.mem_flatMap]
       exact ⟨(ef,et,ep),List.mem_of_getElem? hej,List.mem_of_getElem? hai⟩
      have HAN:Hid (cpA enc lim es=11):=by
       unfold Hid cpA
       rw [if_neg (fun hall=>hfa (hall a hm))]
      rw [hsz] at SZ
      clear hsz hai
      generalize ln enc (puts (es.take j))=tj at *
      generalize ln enc (ep.take i)=ti at *
      go_wp2_with (go_at_call 112;refine SZ.out.mono ?_;clear ca t0 t1;rintro e w3 ⟨rfl,hb3⟩;have HB3:=hidIt (ext_trans HB2.out hb3);clear hb3;(try dsimp only))
      go_ret
      exact ⟨ret_int HAN.out.symm,HBA.out.trans (HB3.out.mono HBA.out.size)⟩
    ·have hi4:¬ (i:Int) < (ep.length:Int):=by omega
     obtain rfl:i=ep.length:=by omega
     rw [List.take_length] at HF2
     have HBT:=hidIt (HBA.out.trans (HB2.out.mono HBA.out.size))
     have HNX:=hidIt (show ln enc (puts (es.take (j + 1)))=ln enc (puts (es.take j)) + ln enc (ep.take ep.length) by rw [HPS.out,ln_app,List.take_length])
     have HF3:=hidIt (show ∀ x ∈ puts (es.take (j + 1)),Cx.fits enc x=true by
      rw [HPS.out]
      intro x hx
      exact (List.mem_append.1 hx).elim (HF.out x) (HF2.out x))
     have hb1:=hlt ep.length
     generalize ln enc (puts (es.take j))=tj at *
     generalize ln enc (ep.take ep.length)=ti at *
     go_wp2_with fail
     go_roundg (es.length - (j + 1))
     case rel=>exact ⟨j + 1,by omega,by go_num,vi (by rw [HNX.out];omega),HF3.out,HBT.out⟩
     case measure=>omega
  ·have hi2:¬ (j:Int) < (es.length:Int):=by omega
   obtain rfl:j=es.length:=by omega
   rw [List.take_length] at HF ⊢
   obtain ⟨t0,t1⟩:=HC.out wr HB.out
   have HAN:=hidIt (show cpA enc lim es=if (ln enc (puts es):Int) > lim then 50 else 0 by unfold cpA;rw [if_pos HF.out])
   generalize ln enc (puts es)=tj at *
   by_cases hg:(tj:Int) > lim
   ·rw [if_pos hg] at HAN
    have hg':lim < (tj:Int):=hg
    go_wp2_with fail
    go_ret
    exact ⟨ret_int HAN.out.symm,HB.out⟩
   ·rw [if_neg hg] at HAN
    have hg':¬ lim < (tj:Int):=hg
    go_wp2_with fail
    go_ret
    exact ⟨ret_int HAN.out.symm,HB.out⟩
end Go.Proofs.YtjomfbegghgbdaaGreat.P

namespace Go.Proofs.YtjomfbegghgbdaaGreat.P
open Go.RowKit
def rg (n:Int):Int→List Ed→Bool
 | _,[]=>true
 | least,e :: es=>decide (least≤e.1∧e.1≤e.2.1∧e.2.1≤n) && rg n e.2.1 es
def ckA (enc lim:Int) (n:Nat) (es:List Ed):Int:=if 70000 < es.length then 3 else if rg n 0 es=true then cpA enc lim es else 2
set_option maxRecDepth 100000 in
set_option maxHeartbeats 4000000 in
theorem check_any (enc lim:Int) (L:List Int) (w:World) (t:Nat) (ps:List PG) (v:Value) (es:List Ed) (h:Tx enc lim L w t ps) (hE:EdR w v es) (hl:es.length≤70000→(puts es).length≤2305843009213693951) :
  Calls Tryz.prog 64 #[.pointer (some ⟨t,0,none⟩),v] w fun e w'=>e=.returned (.int .i64 (ckA enc lim (sh enc ps).length es))∧Below w.heap.size w w':=by
 have LN:Hid (∀ w',Below w.heap.size w w'→Calls Tryz.prog 53 #[.pointer (some ⟨t,0,none⟩)] w' fun e w''=>e=.returned (.int .i64 (sh enc ps).length)∧Below w'.heap.size w' w''):=fun w' hb=>Len_any enc lim L w' t ps (h.ext hb)
 have CP:Hid (es.length≤70000→∀ w',Below w.heap.size w w'→Calls Tryz.prog 91 #[.pointer (some ⟨t,0,none⟩),v] w' fun e w''=>e=.returned (.int .i64 (cpA enc lim es))∧Below w'.heap.size w' w''):=fun h70 w' hb=>checkPuts_any enc lim L w' t ps v es (h.ext hb) (hE.ext hb) (hl h70)
 obtain ⟨ao,cap,rfl,h1,h2,h3⟩:=id hE
 have HE:Hid (∀ w',Below w.heap.size w w'→∀ j e,es[j]?=some e→∃ b off,ao=some ⟨b,off,none⟩∧w'.cell? ⟨b,off + j * 3,none⟩=some (.int .i64 e.1)∧w'.cell? ⟨b,off + j * 3 + 1,none⟩=some (.int .i64 e.2.1)∧∃ pv,w'.cell? ⟨b,off + j * 3 + 2,none⟩=some pv∧Rd .i64 w' pv e.2.2):=fun w' hb j e he=>by
  obtain ⟨ao',cap',e1,_,_,e4⟩:=hE.ext hb
  cases e1
  obtain ⟨b,o,k1,_,k3⟩:=e4 (by intro hn;subst hn;simp at he)
  obtain ⟨c0,c1,c2⟩:=k3 j e he
  exact ⟨b,o,k1,c0,c1,c2⟩
 clear h hE h3
 generalize (sh enc ps).length=n at *
 by_cases hbig:70000 < es.length
 ·have hb':(70000:Int) < (es.length:Int):=by omega
  have HA:=hidIt (show ckA enc lim n es=3 by unfold ckA;rw [if_pos hbig])
  go_enter Tryz.func64,Tryz.ntmps64
  go_wp2_with fail
  go_ret
  exact ⟨ret_int HA.out.symm,Below.refl _ _⟩
 have hb':¬ (70000:Int) < (es.length:Int):=by omega
 have HA:=hidIt (show ckA enc lim n es=if rg n 0 es=true then cpA enc lim es else 2 by unfold ckA;rw [if_neg hbig])
 go_enter Tryz.func64,Tryz.ntmps64
 go_wp2_with fail
 go_loopg [5,13] es.length (fun gk lv p wr=>∃ (j:Nat) (least:Int),j + gk=es.length∧p=.int .i64 (j:Nat)∧lv=.int .i64 least∧Hid (rg n 0 es=rg n least (es.drop j))∧Hid (Below w.heap.size w wr))
 case atStart=>exact ⟨0,0,by omega,rfl,rfl,by rw [List.drop_zero];rfl,Below.refl _ _⟩
 case round =>
  obtain ⟨j,least,hj,rfl,rfl,HR,HB⟩:=hrel
  by_cases hi':j < es.length
  ·have hi2:(j:Int) < (es.length:Int):=by omega
   obtain ⟨e,hej⟩:∃ e,es[j]?=some e:=⟨_,List.getElem?_eq_getElem hi'⟩
   obtain ⟨b,o,rfl,c0,c1,pv,c2,hpv⟩:=HE.out wr HB.out j e hej
   obtain ⟨pa,pc,rfl,hp1,hp2,hp3⟩:=id hpv
   have hdr:es.drop j=e :: es.drop (j + 1):=by
    rw [List.drop_eq_getElem_cons hi']
    rw [List.getElem?_eq_getElem hi',Option.some.injEq] at hej
    rw [hej]
   obtain ⟨ef,et,ep⟩:=e
   simp only at *
   have HD:=hidIt hdr
   clear hpv hp3 hdr
   obtain ⟨wb,hwb,kb,hbb⟩:∃ wb,wb=wr.alloc (.cells #[.int .i64 ef,.int .i64 et,.slice pa ep.length pc] 64)∧wb.heap[wr.heap.size]?=some (.cells #[.int .i64 ef,.int .i64 et,.slice pa ep.length pc] 64 (0,0))∧Below wr.heap.size wr wb:=⟨_,rfl,heap_alloc_new _ _,ext_alloc (Below.refl _ _) _⟩
   have HP:Hid (∀ w',Below wb.heap.size wb w'→w'.cell? ⟨wr.heap.size,0,none⟩=some (.int .i64 ef)∧w'.cell? ⟨wr.heap.size,1,none⟩=some (.int .i64 et)):=fun w' hb=>by
    have hk:=(hb.block wr.heap.size (Array.getElem?_eq_some_iff.1 kb).1).trans kb
    exact ⟨by rw [cell_of_row w' _ _ _ _ _ hk];rfl,by rw [cell_of_row w' _ _ _ _ _ hk];rfl⟩
   have HBb:=hidIt (ext_trans HB.out hbb)
   clear kb hbb
   go_upto_region 7 with fail
   rw [← hwb]
   clear hwb c0 c1 c2
   obtain ⟨d0,d1⟩:=HP.out wb (Below.refl _ _)
   by_cases g1:ef < least
   ·have HAN:=hidIt (show ckA enc lim n es=2 by
     rw [HA.out,HR.out,HD.out,rg]
     simp only [Bool.and_eq_true,decide_eq_true_eq]
     rw [if_neg (by omega)])
    refine wp_region_held_drew (S:=fun w'=>w'.cell? ⟨wr.heap.size,0,none⟩=some (.int .i64 ef)∧w'.cell? ⟨wr.heap.size,1,none⟩=some (.int .i64 et)) (by kernel_rfl) (⟨d0,d1⟩) (fun hHeld=>?_)
    refine tkH (v:=?_) 0 rfl ?_ ?_;rotate_left 1
    ·intro wq hSw;(try dsimp only at hSw);go_simp;try (with_reducible rfl)
    try simp only [Act.put,sA1,sA3,sA4,sA5,sA6]
    refine tkH (v:=?_) 1 rfl ?_ ?_;rotate_left 1
    ·intro wq hSw;(try dsimp only at hSw);go_simp;try (with_reducible rfl)
    try simp only [Act.put,sA1,sA2,sA3,sA4,sA5,sA6]
    refine tkH (v:=?_) 2 rfl ?_ ?_;rotate_left 1
    ·intro wq hSw;(try dsimp only at hSw);go_simp;try (with_reducible rfl)
    try simp only [Act.put,sA1,sA2,sA3,sA4,sA5,sA6]
    refine tkH (v:=?_) 3 rfl ?_ ?_;rotate_left 1
    ·intro wq hSw;(try dsimp only at hSw);go_simp;try (with_reducible rfl)
    try simp only [Act.put,sA1,sA2,sA3,sA4,sA5,sA6]
    refine tkH (v:=?_) 4 rfl ?_ ?_;rotate_left 1
    ·intro wq hSw;(try dsimp only at hSw);go_simp;try (with_reducible rfl)
    try simp only [Act.put,sA1,sA2,sA3,sA4,sA5,sA6]
    refine wpAnyH_take (i:=5) (oi:=_) (v:=undef) rfl (by kernel_rfl) (by kernel_rfl) (by kernel_rfl) (fun _ _ _ h=>h) (Or.inr ⟨by rfl,rfl⟩) (by assumption) ?_
    try simp only [Act.put,sA1,sA2,sA3,sA4,sA5,sA6]
    refine wpAnyH_take (i:=6) (oi:=_) (v:=undef) rfl (by kernel_rfl) (by kernel_rfl) (by kernel_rfl) (fun _ _ _ h=>h) (Or.inr ⟨by rfl,rfl⟩) (by assumption) ?_
    try simp only [Act.put,sA1,sA2,sA3,sA4,sA5,sA6]
    refine wpAnyH_take (i:=7) (oi:=_) (v:=undef) rfl (by kernel_rfl) (by kernel_rfl) (by kernel_rfl) (fun _ _ _ h=>h) (Or.inr ⟨by rfl,rfl⟩) (by assumption) ?_
    try simp only [Act.put,sA1,sA2,sA3,sA4,sA5,sA6]
    refine wpAnyH_take (i:=8) (oi:=_) (v:=undef) rfl (by kernel_rfl) (by kernel_rfl) (by kernel_rfl) (fun _ _ _ h=>h) (Or.inr ⟨by rfl,rfl⟩) (by assumption) ?_
    try simp only [Act.put,sA1,sA2,sA3,sA4,sA5,sA6]
    refine wpAnyH_take (i:=9) (oi:=_) (v:=undef) rfl (by kernel_rfl) (by kernel_rfl) (by kernel_rfl) (fun _ _ _ h=>h) (Or.inr ⟨by rfl,rfl⟩) (by assumption) ?_
    try simp only [Act.put,sA1,sA2,sA3,sA4,sA5,sA6]
    refine tkH (v:=?_) 10 rfl ?_ ?_;rotate_left 1
    ·intro wq hSw;(try dsimp only at hSw);go_simp;try (with_reducible rfl)
    try simp only [Act.put,sA1,sA2,sA3,sA4,sA5,sA6]
    refine tkH (v:=?_) 11 rfl ?_ ?_;rotate_left 1
    ·intro wq hSw;(try dsimp only at hSw);go_simp;try (with_reducible rfl)
    try simp only [Act.put,sA1,sA2,sA3,sA4,sA5,sA6]
    refine wpAnyH_take (i:=12) (oi:=_) (v:=undef) rfl (by kernel_rfl) (by kernel_rfl) (by kernel_rfl) (fun _ _ _ h=>h) (Or.inr ⟨by rfl,rfl⟩) (by assumption) ?_
    try simp only [Act.put,sA1,sA2,sA3,sA4,sA5,sA6]
    refine wpAnyH_take (i:=13) (oi:=_) (v:=undef) rfl (by kernel_rfl) (by kernel_rfl) (by kernel_rfl) (fun _ _ _ h=>h) (Or.inr ⟨by rfl,rfl⟩) (by assumption) ?_
    try simp only [Act.put,sA1,sA2,sA3,sA4,sA5,sA6]
    refine wpAnyH_take (i:=14) (oi:=_) (v:=undef) rfl (by kernel_rfl) (by kernel_rfl) (by kernel_rfl) (fun _ _ _ h=>h) (Or.inr ⟨by rfl,rfl⟩) (by assumption) ?_
    try simp only [Act.put,sA1,sA2,sA3,sA4,sA5,sA6]
    refine wpAnyH_ready (rs:=[15]) (by kernel_rfl) (by simp) ?_
    refine AllReadyH.cons (o:=_) rfl (fun K hK=>?_) AllReadyH.nil
    go_simp
    refine hK.out _ _ ?_ (fun hHeld=>?_)
    ·(try simp only [World.cell?_drew]);exact ⟨d0,d1⟩
    clear hK K
    try simp only [Act.put,sA1,sA2,sA3,sA4,sA5,sA6]
    refine wpAnyH_take (i:=16) (oi:=_) (v:=undef) rfl (by kernel_rfl) (by kernel_rfl) (by kernel_rfl) (fun _ _ _ h=>h) (Or.inr ⟨by rfl,rfl⟩) (by assumption) ?_
    try simp only [Act.put,sA1,sA2,sA3,sA4,sA5,sA6]
    refine tkH (v:=?_) 17 rfl ?_ ?_;rotate_left 1
    ·intro wq hSw;(try dsimp only at hSw);go_simp;try (with_reducible rfl)
    try simp only [Act.put,sA1,sA2,sA3,sA4,sA5,sA6]
    refine wpAnyH_done (by kernel_rfl) ?_ _
    go_wp2_with fail
    go_ret
    exact ⟨ret_int HAN.out.symm,by first | exact HBb.out.drew | exact HBb.out⟩
   by_cases g2:et < ef
   ·have HAN:=hidIt (show ckA enc lim n es=2 by
     rw [HA.out,HR.out,HD.out,rg]
     simp only [Bool.and_eq_true,decide_eq_true_eq]
     rw [if_neg (by omega)])
    refine wp_region_held_drew (S:=fun w'=>w'.cell? ⟨wr.heap.size,0,none⟩=some (.int .i64 ef)∧w'.cell? ⟨wr.heap.size,1,none⟩=some (.int .i64 et)) (by kernel_rfl) (⟨d0,d1⟩) (fun hHeld=>?_)
    refine tkH (v:=?_) 0 rfl ?_ ?_;rotate_left 1
    ·intro wq hSw;(try dsimp only at hSw);go_simp;try (with_reducible rfl)
    try simp only [Act.put,sA1,sA3,sA4,sA5,sA6]
    refine tkH (v:=?_) 1 rfl ?_ ?_;rotate_left 1
    ·intro wq hSw;(try dsimp only at hSw);go_simp;try (with_reducible rfl)
    try simp only [Act.put,sA1,sA2,sA3,sA4,sA5,sA6]
    refine tkH (v:=?_) 2 rfl ?_ ?_;rotate_left 1
    ·intro wq hSw;(try dsimp only at hSw);go_simp;try (with_reducible rfl)
    try simp only [Act.put,sA1,sA2,sA3,sA4,sA5,sA6]
    refine tkH (v:=?_) 3 rfl ?_ ?_;rotate_left 1
    ·intro wq hSw;(try dsimp only at hSw);go_simp;try (with_reducible rfl)
    try simp only [Act.put,sA1,sA2,sA3,sA4,sA5,sA6]
    refine tkH (v:=?_) 4 rfl ?_ ?_;rotate_left 1
    ·intro wq hSw;(try dsimp only at hSw);go_simp;try (with_reducible rfl)
    try simp only [Act.put,sA1,sA2,sA3,sA4,sA5,sA6]
    refine tkH (v:=?_) 5 rfl ?_ ?_;rotate_left 1
    ·intro wq hSw;(try dsimp only at hSw);go_simp;try (with_reducible rfl)
    try simp only [Act.put,sA1,sA2,sA3,sA4,sA5,sA6]
    refine tkH (v:=?_) 6 rfl ?_ ?_;rotate_left 1
    ·intro wq hSw;(try dsimp only at hSw);go_simp;try (with_reducible rfl)
    try simp only [Act.put,sA1,sA2,sA3,sA4,sA5,sA6]
    refine tkH (v:=?_) 7 rfl ?_ ?_;rotate_left 1
    ·intro wq hSw;(try dsimp only at hSw);go_simp;try (with_reducible rfl)
    try simp only [Act.put,sA1,sA2,sA3,sA4,sA5,sA6]
    refine tkH (v:=?_) 8 rfl ?_ ?_;rotate_left 1
    ·intro wq hSw;(try dsimp only at hSw);go_simp;try (with_reducible rfl)
    try simp only [Act.put,sA1,sA2,sA3,sA4,sA5,sA6]
    refine tkH (v:=?_) 9 rfl ?_ ?_;rotate_left 1
    ·intro wq hSw;(try dsimp only at hSw);go_simp;try (with_reducible rfl)
    try simp only [Act.put,sA1,sA2,sA3,sA4,sA5,sA6]
    refine tkH (v:=?_) 10 rfl ?_ ?_;rotate_left 1
    ·intro wq hSw;(try dsimp only at hSw);go_simp;try (with_reducible rfl)
    try simp only [Act.put,sA1,sA2,sA3,sA4,sA5,sA6]
    refine tkH (v:=?_) 11 rfl ?_ ?_;rotate_left 1
    ·intro wq hSw;(try dsimp only at hSw);go_simp;try (with_reducible rfl)
    try simp only [Act.put,sA1,sA2,sA3,sA4,sA5,sA6]
    refine wpAnyH_take (i:=12) (oi:=_) (v:=undef) rfl (by kernel_rfl) (by kernel_rfl) (by kernel_rfl) (fun _ _ _ h=>h) (Or.inr ⟨by rfl,rfl⟩) (by assumption) ?_
    try simp only [Act.put,sA1,sA2,sA3,sA4,sA5,sA6]
    refine wpAnyH_take (i:=13) (oi:=_) (v:=undef) rfl (by kernel_rfl) (by kernel_rfl) (by kernel_rfl) (fun _ _ _ h=>h) (Or.inr ⟨by rfl,rfl⟩) (by assumption) ?_
    try simp only [Act.put,sA1,sA2,sA3,sA4,sA5,sA6]
    refine wpAnyH_take (i:=14) (oi:=_) (v:=undef) rfl (by kernel_rfl) (by kernel_rfl) (by kernel_rfl) (fun _ _ _ h=>h) (Or.inr ⟨by rfl,rfl⟩) (by assumption) ?_
    try simp only [Act.put,sA1,sA2,sA3,sA4,sA5,sA6]
    refine wpAnyH_ready (rs:=[15]) (by kernel_rfl) (by simp) ?_
    refine AllReadyH.cons (o:=_) rfl (fun K hK=>?_) AllReadyH.nil
    go_simp
    refine hK.out _ _ ?_ (fun hHeld=>?_)
    ·(try simp only [World.cell?_drew]);exact ⟨d0,d1⟩
    clear hK K
    try simp only [Act.put,sA1,sA2,sA3,sA4,sA5,sA6]
    refine wpAnyH_take (i:=16) (oi:=_) (v:=undef) rfl (by kernel_rfl) (by kernel_rfl) (by kernel_rfl) (fun _ _ _ h=>h) (Or.inr ⟨by rfl,rfl⟩) (by assumption) ?_
    try simp only [Act.put,sA1,sA2,sA3,sA4,sA5,sA6]
    refine tkH (v:=?_) 17 rfl ?_ ?_;rotate_left 1
    ·intro wq hSw;(try dsimp only at hSw);go_simp;try (with_reducible rfl)
    try simp only [Act.put,sA1,sA2,sA3,sA4,sA5,sA6]
    refine wpAnyH_done (by kernel_rfl) ?_ _
    go_wp2_with fail
    go_ret
    exact ⟨ret_int HAN.out.symm,by first | exact HBb.out.drew | exact HBb.out⟩
   by_cases g3:(n:Int) < et
   ·have HAN:=hidIt (show ckA enc lim n es=2 by
     rw [HA.out,HR.out,HD.out,rg]
     simp only [Bool.and_eq_true,decide_eq_true_eq]
     rw [if_neg (by omega)])
    refine wp_region_held_drew (S:=fun w'=>w'.cell? ⟨wr.heap.size,0,none⟩=some (.int .i64 ef)∧w'.cell? ⟨wr.heap.size,1,none⟩=some (.int .i64 et)) (by kernel_rfl) (⟨d0,d1⟩) (fun hHeld=>?_)
    refine tkH (v:=?_) 0 rfl ?_ ?_;rotate_left 1
    ·intro wq hSw;(try dsimp only at hSw);go_simp;try (with_reducible rfl)
    try simp only [Act.put,sA1,sA3,sA4,sA5,sA6]
    refine tkH (v:=?_) 1 rfl ?_ ?_;rotate_left 1
    ·intro wq hSw;(try dsimp only at hSw);go_simp;try (with_reducible rfl)
    try simp only [Act.put,sA1,sA2,sA3,sA4,sA5,sA6]
    refine tkH (v:=?_) 2 rfl ?_ ?_;rotate_left 1
    ·intro wq hSw;(try dsimp only at hSw);go_simp;try (with_reducible rfl)
    try simp only [Act.put,sA1,sA2,sA3,sA4,sA5,sA6]
    refine tkH (v:=?_) 3 rfl ?_ ?_;rotate_left 1
    ·intro wq hSw;(try dsimp only at hSw);go_simp;try (with_reducible rfl)
    try simp only [Act.put,sA1,sA2,sA3,sA4,sA5,sA6]
    refine tkH (v:=?_) 4 rfl ?_ ?_;rotate_left 1
    ·intro wq hSw;(try dsimp only at hSw);go_simp;try (with_reducible rfl)
    try simp only [Act.put,sA1,sA2,sA3,sA4,sA5,sA6]
    refine tkH (v:=?_) 5 rfl ?_ ?_;rotate_left 1
    ·intro wq hSw;(try dsimp only at hSw);go_simp;try (with_reducible rfl)
    try simp only [Act.put,sA1,sA2,sA3,sA4,sA5,sA6]
    refine tkH (v:=?_) 6 rfl ?_ ?_;rotate_left 1
    ·intro wq hSw;(try dsimp only at hSw);go_simp;try (with_reducible rfl)
    try simp only [Act.put,sA1,sA2,sA3,sA4,sA5,sA6]
    refine tkH (v:=?_) 7 rfl ?_ ?_;rotate_left 1
    ·intro wq hSw;(try dsimp only at hSw);go_simp;try (with_reducible rfl)
    try simp only [Act.put,sA1,sA2,sA3,sA4,sA5,sA6]
    refine tkH (v:=?_) 8 rfl ?_ ?_;rotate_left 1
    ·intro wq hSw;(try dsimp only at hSw);go_simp;try (with_reducible rfl)
    try simp only [Act.put,sA1,sA2,sA3,sA4,sA5,sA6]
    refine tkH (v:=?_) 9 rfl ?_ ?_;rotate_left 1
    ·intro wq hSw;(try dsimp only at hSw);go_simp;try (with_reducible rfl)
    try simp only [Act.put,sA1,sA2,sA3,sA4,sA5,sA6]
    refine tkH (v:=?_) 10 rfl ?_ ?_;rotate_left 1
    ·intro wq hSw;(try dsimp only at hSw);go_simp;try (with_reducible rfl)
    try simp only [Act.put,sA1,sA2,sA3,sA4,sA5,sA6]
    refine tkH (v:=?_) 11 rfl ?_ ?_;rotate_left 1
    ·intro wq hSw;(try dsimp only at hSw);go_simp;try (with_reducible rfl)
    try simp only [Act.put,sA1,sA2,sA3,sA4,sA5,sA6]
    refine tkH (v:=?_) 12 rfl ?_ ?_;rotate_left 1
    ·intro wq hSw;(try dsimp only at hSw);go_simp;try (with_reducible rfl)
    try simp only [Act.put,sA1,sA2,sA3,sA4,sA5,sA6]
    refine tkH (v:=?_) 13 rfl ?_ ?_;rotate_left 1
    ·intro wq hSw;(try dsimp only at hSw);go_simp;try (with_reducible rfl)
    try simp only [Act.put,sA1,sA2,sA3,sA4,sA5,sA6]
    refine tkH (v:=?_) 14 rfl ?_ ?_;rotate_left 1
    ·intro wq hSw;(try dsimp only at hSw);go_simp;try (with_reducible rfl)
    try simp only [Act.put,sA1,sA2,sA3,sA4,sA5,sA6]
    refine wpAnyH_ready (rs:=[15]) (by kernel_rfl) (by simp) ?_
    refine AllReadyH.cons (o:=_) rfl (fun K hK=>?_) AllReadyH.nil
    go_simp
    refine (LN.out _ HBb.out.drew).mono ?_;clear d0 d1;rintro e w3 ⟨rfl,hb3⟩;have HB3:=hidIt (ext_trans (Below.drew (Below.refl wb.heap.size wb)) hb3);clear hb3;obtain ⟨d0,d1⟩:=HP.out w3 HB3.out;try dsimp only
    refine hK.out _ _ ?_ (fun hHeld=>?_)
    ·(try simp only [World.cell?_drew]);exact ⟨d0,d1⟩
    clear hK K
    try simp only [Act.put,sA1,sA2,sA3,sA4,sA5,sA6]
    refine tkH (v:=?_) 16 rfl ?_ ?_;rotate_left 1
    ·intro wq hSw;(try dsimp only at hSw);go_simp;try (with_reducible rfl)
    try simp only [Act.put,sA1,sA2,sA3,sA4,sA5,sA6]
    refine tkH (v:=?_) 17 rfl ?_ ?_;rotate_left 1
    ·intro wq hSw;(try dsimp only at hSw);go_simp;try (with_reducible rfl)
    try simp only [Act.put,sA1,sA2,sA3,sA4,sA5,sA6]
    refine wpAnyH_done (by kernel_rfl) ?_ _
    go_wp2_with fail
    go_ret
    exact ⟨ret_int HAN.out.symm,HBb.out.trans (HB3.out.mono HBb.out.size)⟩
   ·have HNX:=hidIt (show rg n 0 es=rg n et (es.drop (j + 1)) by
     rw [HR.out,HD.out,rg]
     simp only
     rw [decide_eq_true (show least≤ef∧ef≤et∧et≤n by omega),Bool.true_and])
    refine wp_region_held_drew (S:=fun w'=>w'.cell? ⟨wr.heap.size,0,none⟩=some (.int .i64 ef)∧w'.cell? ⟨wr.heap.size,1,none⟩=some (.int .i64 et)) (by kernel_rfl) (⟨d0,d1⟩) (fun hHeld=>?_)
    refine tkH (v:=?_) 0 rfl ?_ ?_;rotate_left 1
    ·intro wq hSw;(try dsimp only at hSw);go_simp;try (with_reducible rfl)
    try simp only [Act.put,sA1,sA3,sA4,sA5,sA6]
    refine tkH (v:=?_) 1 rfl ?_ ?_;rotate_left 1
    ·intro wq hSw;(try dsimp only at hSw);go_simp;try (with_reducible rfl)
    try simp only [Act.put,sA1,sA2,sA3,sA4,sA5,sA6]
    refine tkH (v:=?_) 2 rfl ?_ ?_;rotate_left 1
    ·intro wq hSw;(try dsimp only at hSw);go_simp;try (with_reducible rfl)
    try simp only [Act.put,sA1,sA2,sA3,sA4,sA5,sA6]
    refine tkH (v:=?_) 3 rfl ?_ ?_;rotate_left 1
    ·intro wq hSw;(try dsimp only at hSw);go_simp;try (with_reducible rfl)
    try simp only [Act.put,sA1,sA2,sA3,sA4,sA5,sA6]
    refine tkH (v:=?_) 4 rfl ?_ ?_;rotate_left 1
    ·intro wq hSw;(try dsimp only at hSw);go_simp;try (with_reducible rfl)
    try simp only [Act.put,sA1,sA2,sA3,sA4,sA5,sA6]
    refine tkH (v:=?_) 5 rfl ?_ ?_;rotate_left 1
    ·intro wq hSw;(try dsimp only at hSw);go_simp;try (with_reducible rfl)
    try simp only [Act.put,sA1,sA2,sA3,sA4,sA5,sA6]
    refine tkH (v:=?_) 6 rfl ?_ ?_;rotate_left 1
    ·intro wq hSw;(try dsimp only at hSw);go_simp;try (with_reducible rfl)
    try simp only [Act.put,sA1,sA2,sA3,sA4,sA5,sA6]
    refine tkH (v:=?_) 7 rfl ?_ ?_;rotate_left 1
    ·intro wq hSw;(try dsimp only at hSw);go_simp;try (with_reducible rfl)
    try simp only [Act.put,sA1,sA2,sA3,sA4,sA5,sA6]
    refine tkH (v:=?_) 8 rfl ?_ ?_;rotate_left 1
    ·intro wq hSw;(try dsimp only at hSw);go_simp;try (with_reducible rfl)
    try simp only [Act.put,sA1,sA2,sA3,sA4,sA5,sA6]
    refine tkH (v:=?_) 9 rfl ?_ ?_;rotate_left 1
    ·intro wq hSw;(try dsimp only at hSw);go_simp;try (with_reducible rfl)
    try simp only [Act.put,sA1,sA2,sA3,sA4,sA5,sA6]
    refine tkH (v:=?_) 10 rfl ?_ ?_;rotate_left 1
    ·intro wq hSw;(try dsimp only at hSw);go_simp;try (with_reducible rfl)
    try simp only [Act.put,sA1,sA2,sA3,sA4,sA5,sA6]
    refine tkH (v:=?_) 11 rfl ?_ ?_;rotate_left 1
    ·intro wq hSw;(try dsimp only at hSw);go_simp;try (with_reducible rfl)
    try simp only [Act.put,sA1,sA2,sA3,sA4,sA5,sA6]
    refine tkH (v:=?_) 12 rfl ?_ ?_;rotate_left 1
    ·intro wq hSw;(try dsimp only at hSw);go_simp;try (with_reducible rfl)
    try simp only [Act.put,sA1,sA2,sA3,sA4,sA5,sA6]
    refine tkH (v:=?_) 13 rfl ?_ ?_;rotate_left 1
    ·intro wq hSw;(try dsimp only at hSw);go_simp;try (with_reducible rfl)
    try simp only [Act.put,sA1,sA2,sA3,sA4,sA5,sA6]
    refine tkH (v:=?_) 14 rfl ?_ ?_;rotate_left 1
    ·intro wq hSw;(try dsimp only at hSw);go_simp;try (with_reducible rfl)
    try simp only [Act.put,sA1,sA2,sA3,sA4,sA5,sA6]
    refine wpAnyH_ready (rs:=[15]) (by kernel_rfl) (by simp) ?_
    refine AllReadyH.cons (o:=_) rfl (fun K hK=>?_) AllReadyH.nil
    go_simp
    refine (LN.out _ HBb.out.drew).mono ?_;clear d0 d1;rintro e w3 ⟨rfl,hb3⟩;have HB3:=hidIt (ext_trans (Below.drew (Below.refl wb.heap.size wb)) hb3);clear hb3;obtain ⟨d0,d1⟩:=HP.out w3 HB3.out;try dsimp only
    refine hK.out _ _ ?_ (fun hHeld=>?_)
    ·(try simp only [World.cell?_drew]);exact ⟨d0,d1⟩
    clear hK K
    try simp only [Act.put,sA1,sA2,sA3,sA4,sA5,sA6]
    refine tkH (v:=?_) 16 rfl ?_ ?_;rotate_left 1
    ·intro wq hSw;(try dsimp only at hSw);go_simp;try (with_reducible rfl)
    try simp only [Act.put,sA1,sA2,sA3,sA4,sA5,sA6]
    refine tkH (v:=?_) 17 rfl ?_ ?_;rotate_left 1
    ·intro wq hSw;(try dsimp only at hSw);go_simp;try (with_reducible rfl)
    try simp only [Act.put,sA1,sA2,sA3,sA4,sA5,sA6]
    refine wpAnyH_done (by kernel_rfl) ?_ _
    go_wp2_with fail
    go_roundg (es.length - (j + 1))
    case rel=>exact ⟨j + 1,et,by omega,by go_num,rfl,HNX.out,HBb.out.trans (HB3.out.mono HBb.out.size)⟩
    case measure=>omega
  ·have hi2:¬ (j:Int) < (es.length:Int):=by omega
   obtain rfl:j=es.length:=by omega
   have HAN:=hidIt (show ckA enc lim n es=cpA enc lim es by rw [HA.out,HR.out,List.drop_length,rg];rfl)
   go_wp2_with (go_at_call 91;refine (CP.out (by omega) wr HB.out).mono ?_;rintro e w3 ⟨rfl,hb3⟩;have HB3:=hidIt (ext_trans HB.out hb3);clear hb3;(try dsimp only))
   go_ret
   exact ⟨ret_int HAN.out.symm,HB3.out⟩
end Go.Proofs.YtjomfbegghgbdaaGreat.P
