import Derived.Test.YtjomfbegghgbdaaGreatK36
import Derived.Deep.RegionHeld3
import Derived.OrdersHeld
set_option maxRecDepth 100000
namespace Go.Proofs.YtjomfbegghgbdaaGreat.P
open Go.RowKit
def spl (A:List Int) (f t:Nat) (put:List Int):List Int:=A.take f ++ put ++ A.drop t
theorem drop_take_snoc {A:List Int} {t i:Nat} {x:Int} (ht:t≤i) (h:A[i]?=some x):(A.drop t).take (i + 1 - t)=(A.drop t).take (i - t) ++ [x]:=by
 rw [show i + 1 - t=(i - t) + 1 by omega,List.take_add_one,List.getElem?_drop,show t + (i - t)=i by omega,h];rfl
set_option maxHeartbeats 4000000 in
theorem spliced_any (va vp:Value) (A put:List Int) (f t:Nat) (w:World) (hA:Rd .i64 w va A) (hP:Rd .i64 w vp put) (hf:f≤t) (ht:t≤A.length) (hl:A.length≤65536) (hp:put.length≤65536):Calls Tryz.prog 37 #[va,.int .i64 (f:Nat),.int .i64 (t:Nat),vp] w fun e w'=>∃ v',e=.returned v'∧Hid (OwnI w' w.heap.size v' (spl A f t put))∧Below w.heap.size w w':=by
 obtain ⟨aa,ca,rfl,ha1,ha2,_⟩:=id hA
 obtain ⟨ap,cp,rfl,hp1,hp2,_⟩:=id hP
 have HA:=zh hA
 have HP:=zh hP
 have hfl:f≤A.length:=by omega
 have hfc:f≤ca:=by omega
 have CP:=zh (copied_any (.slice aa f ca) (A.take f) w (hA.take f hfl) (by rw [List.length_take];omega))
 clear hA hP
 go_enter Tryz.func37,Tryz.ntmps37
 go_upto_block 0 with (go_at_call 20;refine CP.out.mono ?_;rintro e w1 ⟨v1,rfl,ho,hb⟩;obtain ⟨a1,c1,hv1⟩:=ho.out.form;generalize hn1:(A.take f).length=n1 at hv1;clear hn1;subst hv1;have HO1:=zh ho.out;have HB1:=zh hb;clear ho hb;(try dsimp only))
 go_cut [9] from 16 to 28 (fun lv wF=>∃ (ao:Option Addr) (n cap:Nat),lv=.slice ao n cap∧Hid (OwnI wF w.heap.size (.slice ao n cap) (A.take f ++ put)∧Below w.heap.size w wF))
 case first =>
  go_wp2_with fail
  go_loopg [9,10] put.length (fun gk lv p wr=>∃ (i:Nat) (ao:Option Addr) (n cap:Nat),i + gk=put.length∧p=.int .i64 (i:Nat)∧lv=.slice ao n cap∧Hid (OwnI wr w.heap.size (.slice ao n cap) (A.take f ++ put.take i)∧Below w.heap.size w wr))
  case atStart=>exact ⟨0,a1,n1,c1,by omega,rfl,rfl,by rw [List.take_zero,List.append_nil];exact HO1.out,HB1.out⟩
  case round =>
   obtain ⟨i,ao,n,cap,hig,rfl,rfl,HI⟩:=hrel
   by_cases hlt:i < put.length
   ·have hltI:(i:Int) < (put.length:Int):=by omega
    obtain ⟨b,o,rfl,hbl,ci,_⟩:=rd_at (HP.out.ext HI.out.2) i hlt
    obtain ⟨x,hx⟩:∃ x,put[i]?=some x:=⟨_,List.getElem?_eq_getElem hlt⟩
    rw [hx,Option.getD_some] at ci
    have HT:Hid (A.take f ++ put.take (i + 1)=A.take f ++ put.take i ++ [x]):=by unfold Hid;rw [take_snoc hx,List.append_assoc]
    have HG:=zh hig
    clear hx hig
    have HOA:Hid (OwnI (wr.alloc (.cells #[.int .i64 (x)] 3)) w.heap.size (.slice ao n cap) (A.take f ++ put.take i)):=HI.out.1.ext (zxa (Below.refl _ _) _)
    have HNW:=zh (rdi_new wr (x))
    have HBI:=zh HI.out.2
    have HZ:=zh (show w.heap.size≤(wr.alloc (.cells #[.int .i64 (x)] 3)).heap.size from Nat.le_trans HBI.out.size (size_alloc_le _ _))
    have HLN:=zh (show ((A.take f ++ put.take i).length + [x].length) * 8≤140737488355328 by rw [List.length_append,List.length_take,List.length_take];simp;omega)
    go_wp2_with (at_builtin;refine wpl_ints rfl _ _ 27 rfl w.heap.size Tryz.info_i64 Tryz.underlying27 (.slice ao n cap) (A.take f ++ put.take i) rfl HOA.out [x] (some ⟨wr.heap.size,0,none⟩) 1 1 rfl rfl (.inr ⟨_,rfl,HNW.out⟩) HLN.out HZ.out ?_;intro v8 w8 ho8 hb8;obtain ⟨a8,c8,hv8⟩:=ho8.form;generalize hn8:(A.take f ++ put.take i ++ [x]).length=n8 at hv8;clear hn8;subst hv8;have HO8:=zh ho8;have HB8:=zh (HBI.out.trans ((zxa (Below.refl wr.heap.size wr) _).mono HBI.out.size |>.trans hb8));clear ho8 hb8)
    go_roundg (put.length - (i + 1))
    case rel=>exact ⟨i + 1,a8,n8,c8,by have:=HG.out;omega,by go_num,rfl,by rw [HT.out];exact HO8.out,HB8.out⟩
    case measure=>have:=HG.out;omega
   ·have hnl:¬ (i:Int) < (put.length:Int):=by omega
    have HE:=zh (show put.take i=put from List.take_of_length_le (by omega))
    go_wp2_with fail
    go_meet
    case rel=>exact ⟨ao,n,cap,rfl,by have:=HI.out.1;rwa [HE.out] at this,HI.out.2⟩
 obtain ⟨a2,n2,c2,rfl,H2⟩:=hcut
 go_wp2_with fail
 go_loopg [9,11] (A.length - t) (fun gk lv p wr=>∃ (i:Nat) (ao:Option Addr) (n cap:Nat),i + gk=A.length∧t≤i∧p=.int .i64 (i:Nat)∧lv=.slice ao n cap∧Hid (OwnI wr w.heap.size (.slice ao n cap) (A.take f ++ put ++ (A.drop t).take (i - t))∧Below w.heap.size w wr))
 case atStart=>exact ⟨t,a2,n2,c2,by omega,Nat.le_refl _,rfl,rfl,by rw [Nat.sub_self,List.take_zero,List.append_nil];exact H2.out.1,H2.out.2⟩
 case round =>
  obtain ⟨i,ao,n,cap,hig,hti,rfl,rfl,HI⟩:=hrel
  by_cases hlt:i < A.length
  ·have hltI:(i:Int) < (A.length:Int):=by omega
   obtain ⟨b,o,rfl,hbl,ci,_⟩:=rd_at (HA.out.ext HI.out.2) i hlt
   obtain ⟨x,hx⟩:∃ x,A[i]?=some x:=⟨_,List.getElem?_eq_getElem hlt⟩
   rw [hx,Option.getD_some] at ci
   have HT:Hid (A.take f ++ put ++ (A.drop t).take (i + 1 - t)=A.take f ++ put ++ (A.drop t).take (i - t) ++ [x]):=by unfold Hid;rw [drop_take_snoc hti hx,List.append_assoc];simp
   have HG:=zh hig
   clear hx hig
   have HOA:Hid (OwnI (wr.alloc (.cells #[.int .i64 (x)] 3)) w.heap.size (.slice ao n cap) (A.take f ++ put ++ (A.drop t).take (i - t))):=HI.out.1.ext (zxa (Below.refl _ _) _)
   have HNW:=zh (rdi_new wr (x))
   have HBI:=zh HI.out.2
   have HZ:=zh (show w.heap.size≤(wr.alloc (.cells #[.int .i64 (x)] 3)).heap.size from Nat.le_trans HBI.out.size (size_alloc_le _ _))
   have HLN:=zh (show ((A.take f ++ put ++ (A.drop t).take (i - t)).length + [x].length) * 8≤140737488355328 by rw [List.length_append,List.length_append,List.length_take,List.length_take,List.length_drop];simp;omega)
   go_wp2_with (at_builtin;refine wpl_ints rfl _ _ 27 rfl w.heap.size Tryz.info_i64 Tryz.underlying27 (.slice ao n cap) (A.take f ++ put ++ (A.drop t).take (i - t)) rfl HOA.out [x] (some ⟨wr.heap.size,0,none⟩) 1 1 rfl rfl (.inr ⟨_,rfl,HNW.out⟩) HLN.out HZ.out ?_;intro v8 w8 ho8 hb8;obtain ⟨a8,c8,hv8⟩:=ho8.form;generalize hn8:(A.take f ++ put ++ (A.drop t).take (i - t) ++ [x]).length=n8 at hv8;clear hn8;subst hv8;have HO8:=zh ho8;have HB8:=zh (HBI.out.trans ((zxa (Below.refl wr.heap.size wr) _).mono HBI.out.size |>.trans hb8));clear ho8 hb8)
   go_roundg (A.length - (i + 1))
   case rel=>exact ⟨i + 1,a8,n8,c8,by have:=HG.out;omega,by omega,by go_num,rfl,by rw [HT.out];exact HO8.out,HB8.out⟩
   case measure=>have:=HG.out;omega
  ·have hnl:¬ (i:Int) < (A.length:Int):=by omega
   have HE:=zh (show (A.drop t).take (i - t)=A.drop t from List.take_of_length_le (by rw [List.length_drop];omega))
   go_wp2_with fail
   go_ret
   exact ⟨_,rfl,by unfold Hid spl;have:=HI.out.1;rwa [HE.out] at this,HI.out.2⟩
open Go.RowKit
theorem fits_pln {enc a:Int} (he:Cx.En enc) (h:Pln a):Cx.fits enc a=true:=by
 unfold Pln at h
 rcases he with rfl | rfl | rfl | rfl <;> (unfold Cx.fits Cx.isSc;simp;omega)
theorem ap_one (l:List (Int × Int)) (f t:Nat) (put:List Int):apE l 0 [((f:Int),(t:Int),put)]=l.take f ++ (put.map fun a=>(a,-1)) ++ l.drop t:=by simp [apE]
theorem ap_one_fst (l:List (Int × Int)) (f t:Nat) (put:List Int):(apE l 0 [((f:Int),(t:Int),put)]).map Prod.fst=spl (l.map Prod.fst) f t put:=by
 rw [ap_one]
 simp [spl,List.map_take,List.map_drop,List.map_map,Function.comp_def]
theorem ln_spl (enc:Int) (A put:List Int) (f t:Nat) (hf:f≤t):ln enc (spl A f t put)≤ln enc A + 4 * put.length:=by
 unfold spl
 rw [ln_app,ln_app]
 have h1:=ln_le enc put
 have h2:=ln_app enc (A.take f) (A.drop f)
 have h3:=ln_app enc ((A.drop f).take (t - f)) ((A.drop f).drop (t - f))
 rw [List.take_append_drop] at h2 h3
 rw [List.drop_drop,show f + (t - f)=t by omega] at h3
 omega
theorem Change_z (enc:Int) (w:World) (t:Nat) (A:List Int) (v:Value) (f g:Nat) (put:List Int) (h:Tz enc w t A) (hE:EdR w v [((f:Int),(g:Int),put)]) (hf:f≤g) (hg:g≤A.length) (hp:∀ a ∈ put,Cx.fits enc a=true) (hl:ln enc A + 4 * put.length≤65536) :
  Calls Tryz.prog 34 #[.pointer (some ⟨t,0,none⟩),v] w fun e w'=>e=.returned (.int .i64 0)∧Tz enc w' t (spl A f g put)∧Kps (fun k=>k=t) w w':=by
 obtain ⟨L,ps,h1,rfl⟩:=h
 have hpu:puts [((f:Int),(g:Int),put)]=put:=by simp [puts]
 have hpl:put.length≤16384:=by omega
 have hck:ckA enc 65536 (sh enc ps).length [((f:Int),(g:Int),put)]=0:=by
  unfold ckA
  rw [if_neg (by simp),if_pos (by rw [rg_cons];refine ⟨⟨Int.natCast_nonneg _,?_,?_⟩,rfl⟩ <;> (simp only [sh_len];omega))]
  unfold cpA
  rw [hpu,if_pos hp,if_neg (by have:=ln_le enc put;omega)]
 have hf1:=ap_one_fst (sh enc ps) f g put
 rw [sh_fst] at hf1
 have hA:chA enc 65536 (sh enc ps) [((f:Int),(g:Int),put)]=0:=by
  unfold chA
  rw [if_pos hck,hf1,if_neg (by have:=ln_spl enc (asOf ps) put f g hf;omega)]
 refine (Change_any enc 65536 L w t ps v _ h1 hE (fun _=>by rw [hpu];omega)).mono fun e w' ⟨k1,ps',k2,k3,k4⟩=>?_
 rw [hA] at k1
 refine ⟨k1,⟨L,ps',k2,?_⟩,k4⟩
 rw [← sh_fst enc,k3]
 unfold chT
 rw [if_pos hA,hf1]
theorem Tz.other {enc:Int} {w w':World} {t g:Nat} {A:List Int} {T:TypeId} (h:Tz enc w t A) (hk:Kps (fun k=>k=g) w w') (hg:Typ T w g) (h1:T≠5) (h2:T≠163) (h3:g≠t):Tz enc w' t A:=by
 obtain ⟨L,ps,k1,k2⟩:=h
 have hs:∀ b,b < w.heap.size→b≠g→w'.heap[b]?=w.heap[b]?:=fun b hb hn=>hk.same b hb hn
 obtain ⟨lv,u,q1,q2,q3⟩:=k1.ex
 refine ⟨L,ps,⟨⟨lv,u,(hs t (Array.getElem?_eq_some_iff.1 q1).1 (fun e=>h3 e.symm)).trans q1,q2.same ?_,q3.same ?_⟩,k1.pc.same ?_,k1.en,k1.by',k1.ll,k1.l0,k1.lm,k1.sz⟩,k2⟩
 ·exact fun b hb=>hs b hb.lt (fun e=>by subst e;exact h1 (hg.uniq hb))
 ·exact fun b hb=>hs b hb.lt (fun e=>by subst e;exact h2 (hg.uniq hb))
 ·exact fun b hb=>hs b hb.lt (fun e=>by subst e;exact h1 (hg.uniq hb))
open Go.RowKit
theorem OwnI.le {w:World} {base base':Nat} {v:Value} {zs:List Int} (h:OwnI w base v zs) (hb:base'≤base):OwnI w base' v zs:=by
 obtain ⟨h1,h2⟩:=h
 refine ⟨h1,?_⟩
 rcases h2 with h2 | ⟨g,cap,cur,hv,hg,r⟩
 ·exact .inl h2
 ·exact .inr ⟨g,cap,cur,hv,Nat.le_trans hb hg,r⟩
theorem OwnI.oth {w w':World} {base t:Nat} {v:Value} {zs:List Int} {T:TypeId} (h:OwnI w base v zs) (hk:Kps (fun k=>k=t) w w') (ht:Typ T w t) (hT:T≠3):OwnI w' base v zs:=by
 obtain ⟨h1,h2⟩:=id h
 refine ⟨h1,?_⟩
 rcases h2 with h2 | ⟨k,cap,cur,hv,hb,hgg,r⟩
 ·exact .inl h2
 ·refine .inr ⟨k,cap,cur,hv,hb,(hk.same k (Array.getElem?_eq_some_iff.1 hgg).1 (fun e=>?_)).trans hgg,r⟩
  subst e
  exact hT (Typ.uniq ht ⟨_,hgg⟩)
theorem OwnI.rdi {w:World} {base:Nat} {v:Value} {zs:List Int} (h:OwnI w base v zs):Rd .i64 w v zs:=Rd.of_own h
structure BtW (enc:Int) (w:World) (g t:Nat) (A:List Int) (m:Nat):Prop where
 ex:∃ v,w.heap[g]?=some (.cells #[.pointer (some ⟨t,0,none⟩),v] 29 (0,0))∧OwnI w 0 v A
 tz:Tz enc w t A
 bd:ln enc A≤50000 + 64 * m
 en:Cx.En enc
theorem BtW.lt {enc:Int} {w:World} {g t:Nat} {A:List Int} {m:Nat} (h:BtW enc w g t A m):g < w.heap.size:=by obtain ⟨_,h1,_⟩:=h.ex;exact (Array.getElem?_eq_some_iff.1 h1).1
theorem BtW.typ {enc:Int} {w:World} {g t:Nat} {A:List Int} {m:Nat} (h:BtW enc w g t A m):Typ 29 w g:=by obtain ⟨_,h1,_⟩:=h.ex;exact ⟨_,h1⟩
theorem BtW.ne {enc:Int} {w:World} {g t:Nat} {A:List Int} {m:Nat} (h:BtW enc w g t A m):g≠t:=fun e=>by
 subst e
 exact absurd (Typ.uniq h.typ h.tz.typ) (by decide)
theorem BtW.ext {enc:Int} {w w':World} {g t:Nat} {A:List Int} {m:Nat} (h:BtW enc w g t A m) (hb:Below w.heap.size w w'):BtW enc w' g t A m:=by
 obtain ⟨v,h1,h2⟩:=h.ex
 exact ⟨⟨v,(hb.block g (Array.getElem?_eq_some_iff.1 h1).1).trans h1,h2.ext hb⟩,h.tz.ext hb,h.bd,h.en⟩
theorem cells2 {w:World} {b:Nat} {T:TypeId} {v0 v1:Value} (h:w.heap[b]?=some (.cells #[v0,v1] T (0,0))):b < w.heap.size∧w.cell? ⟨b,0,none⟩=some v0∧w.cell? ⟨b,1,none⟩=some v1∧(∀ i,w.frozen? ⟨b,i,none⟩=false):=by
 refine ⟨(Array.getElem?_eq_some_iff.1 h).1,?_,?_,fun i=>by simp [World.frozen?,h]⟩ <;> (rw [cell_of_row _ _ _ _ _ _ h];rfl)
theorem BtW.put {enc:Int} {w:World} {g t:Nat} {A:List Int} {m:Nat} {v v':Value} (hg:w.heap[g]?=some (.cells #[.pointer (some ⟨t,0,none⟩),v] 29 (0,0))) (ho:OwnI w 0 v' A) (ht:Tz enc w t A) (hgt:g≠t) (hb:ln enc A≤50000 + 64 * m) (he:Cx.En enc) :
  BtW enc (w.setCell ⟨g,1,none⟩ v') g t A m∧Kps (fun k=>k=g) w (w.setCell ⟨g,1,none⟩ v'):=by
 obtain ⟨h1,h2⟩:=set1 hg 1 v'
 have hk:Kps (fun k=>k=g) w (w.setCell ⟨g,1,none⟩ v'):=Kps.grown h2 fun j e _=>by cases e;rfl
 exact ⟨⟨⟨v',by rw [h1];rfl,ho.oth hk ⟨_,hg⟩ (by decide)⟩,ht.other hk ⟨_,hg⟩ (by decide) (by decide) hgt,hb,he⟩,hk⟩
set_option maxHeartbeats 8000000 in
theorem edited_any (enc:Int) (w:World) (g t:Nat) (A:List Int) (m:Nat) (x n:Int) (vp:Value) (put:List Int) (h:BtW enc w g t A m) (hm:m≤199) (hx:-9223372036854775808≤x∧x≤9223372036854775807) (hn:-9223372036854775808≤n∧n≤9223372036854775807) (hp:Rd .i64 w vp put) :
  Calls Tryz.prog 39 #[.pointer (some ⟨g,0,none⟩),.int .i64 x,.int .i64 n,vp] w fun e w'=>e=.returned (.bool true)∧Hid (∃ A',BtW enc w' g t A' (m + 1))∧Kps (fun k=>k=g∨k=t) w w':=by
 obtain ⟨v,hg,ho⟩:=h.ex
 obtain ⟨aa,ca,hv⟩:=ho.form
 subst hv
 have hlen:=h.tz.len
 have HW:=zh h
 have HG:=zh hg
 have HO:=zh ho
 have hgt:=h.ne
 obtain ⟨hgl,_,cg1,_⟩:=cells2 hg
 have PL:=zh (plain_any vp put w hp)
 have WI:=zh (within_any x A.length w hx (by omega))
 have HNR:=zh hn
 clear hp h hg ho hx hn
 go_enter Tryz.func39,Tryz.ntmps39
 go_upto_region 2 with (go_at_call 22;refine WI.out.mono ?_;rintro e w1 ⟨f,rfl,hf,hw1⟩;rw [hw1];clear hw1;(try dsimp only))
 have hws:IntKind.i64.wrap ((A.length:Int) - (f:Int))=((A.length - f:Nat):Int):=by rw [IntKind.wrap_i64];omega
 have WI2:=zh (within_any n (A.length - f) w HNR.out (by omega))
 have hwa:∀ d:Nat,d≤A.length - f→IntKind.i64.wrap ((f:Int) + (d:Int))=((f + d:Nat):Int):=fun d hd=>by rw [IntKind.wrap_i64];omega
 go_upto_region 3 with (go_at_call 22;refine WI2.out.mono ?_;rintro e w2 ⟨d,rfl,hd,hw2⟩;rw [hw2];clear hw2;have hwd:=hwa d hd;(try dsimp only))
 clear hwa hws
 go_upto_region 4 with (go_at_call 69;refine PL.out.mono ?_;rintro e w3 ⟨v3,rfl,⟨ps,ho3⟩,hb3⟩;have HB3:=zh hb3;clear hb3;obtain ⟨a3,c3,hv3⟩:=ho3.out.1.form;generalize hn3:ps.length=n3 at hv3;clear hn3;subst hv3;have HP3:=zh ho3.out;clear ho3;(try dsimp only))
 have HW3:=zh (HW.out.ext HB3.out)
 obtain ⟨va,hg3,ho3⟩:=HW3.out.ex
 have HG3:Hid (w3.heap[g]?=some (.cells #[.pointer (some ⟨t,0,none⟩),.slice aa A.length ca] 29 (0,0))):=(HB3.out.block g hgl).trans HG.out
 have HGL:=zh HW3.out.lt
 have HFD:=zh (show f≤f + d∧f + d≤A.length from ⟨by omega,by omega⟩)
 have CPY:Hid (∀ w',Below w3.heap.size w3 w'→Calls Tryz.prog 20 #[.slice a3 n3 c3] w' fun e w''=>∃ v',e=.returned v'∧Hid (OwnI w'' w'.heap.size v' ps)∧Below w'.heap.size w' w''):=fun w' hb=>copied_any _ ps w' (HP3.out.1.ext hb).rdi (by have:=HP3.out.2.1;omega)
 have CHG:Hid (∀ w' ve,Below w3.heap.size w3 w'→EdR w' ve [((f:Int),((f + d:Nat):Int),ps)]→Calls Tryz.prog 34 #[.pointer (some ⟨t,0,none⟩),ve] w' fun e w''=>e=.returned (.int .i64 0)∧Tz enc w'' t (spl A f (f + d) ps)∧Kps (fun k=>k=t) w' w''):=fun w' ve hb he=>Change_z enc w' t A ve f (f + d) ps (HW3.out.tz.ext hb) he HFD.out.1 HFD.out.2 (fun a ha=>fits_pln HW3.out.en (HP3.out.2.2 a ha)) (by have:=HW3.out.bd;have:=HP3.out.2.1;omega)
 have HCG:Hid (∀ w',Below w3.heap.size w3 w'→w'.cell? ⟨g,0,none⟩=some (.pointer (some ⟨t,0,none⟩))):=fun w' hb=>(cells2 ((hb.block g HGL.out).trans HG3.out)).2.1
 have c1:w3.cell? ⟨g,0,none⟩=some (.pointer (some ⟨t,0,none⟩)):=HCG.out w3 (Below.refl _ _)
 clear hg3 ho3 PL WI WI2 HNR
 refine wp_region_held_drew (S:=fun w''=>w''.cell? ⟨g,0,none⟩=some (.pointer (some ⟨t,0,none⟩))) (by kernel_rfl) (c1) (fun hHeld=>?_)
 refine tkH 0 rfl ?_
 refine tkH 1 rfl ?_
 refine tkH 2 rfl ?_
 refine tkH 3 rfl ?_
 refine tkH 4 rfl ?_
 refine tkH 5 rfl ?_
 refine tkH 6 rfl ?_
 refine rdH 7 rfl fun K hK=>?_
 go_simp
 refine (CPY.out _ (Below.drew (Below.refl _ _))).mono ?_;clear c1;rintro e y2 ⟨v2,rfl,ho2,hb⟩;have HY2:=zh (zxt (Below.drew (Below.refl w3.heap.size w3)) hb);clear hb;obtain ⟨a2,k2,hv2⟩:=ho2.out.form;generalize hn2:ps.length=n2 at hv2;clear hn2;subst hv2;have HO2:=zh ho2.out;clear ho2;have c1:=HCG.out y2 HY2.out;try dsimp only
 refine hK.out _ _ ?_ (fun hHeld=>?_)
 ·(try simp only [World.cell?_drew]);exact c1
 clear hK K
 try simp only [Act.put,tS]
 refine tkH 8 rfl ?_
 refine rdH 9 rfl fun K hK=>?_
 go_simp
 generalize hwN:World.alloc _ _=y3;have hst:Below y2.heap.size y2 y3:=(by rw [← hwN];exact zxa (Below.refl _ _) _);have HED:Hid (EdR y3 (.slice (some ⟨y2.heap.size,0,none⟩) 1 1) [((f:Int),((f + d:Nat):Int),ps)]):=(by unfold Hid;rw [← hwN];exact edr_lit1 y2 _ _ _ ps HO2.out.rdi);have HY3:=zh (zxt HY2.out hst);clear hwN hst;clear c1;have c1:=HCG.out y3 HY3.out;try dsimp only
 refine hK.out _ _ ?_ (fun hHeld=>?_)
 ·(try simp only [World.cell?_drew]);exact c1
 clear hK K
 try simp only [Act.put,tS]
 refine rdH 10 rfl fun K hK=>?_
 go_simp
 refine (CHG.out _ _ HY3.out HED.out).mono ?_;clear c1;rintro e y4 ⟨rfl,htz,hkp⟩;have HTZ:=zh htz;have HKP:=zh hkp;have HE4:=zh (show y4.heap[g]?=some (.cells #[.pointer (some ⟨t,0,none⟩),.slice aa A.length ca] 29 (0,0)) from (hkp.same g (Nat.lt_of_lt_of_le HGL.out HY3.out.size) (fun e=>hgt e)).trans ((HY3.out.block g HGL.out).trans HG3.out));clear htz hkp;obtain ⟨_,c1,cg1,fz⟩:=cells2 HE4.out;try dsimp only
 refine hK.out _ _ ?_ (fun hHeld=>?_)
 ·(try simp only [World.cell?_drew]);exact c1
 clear hK K
 try simp only [Act.put,tS]
 refine tkH 11 rfl ?_
 refine dnH ?_
 have HTY:=zh (HW3.out.tz.ext HY3.out).typ
 have HOA:=zh (((HO.out.ext HB3.out).ext HY3.out).oth HKP.out HTY.out (by decide))
 have HOP:=zh ((HP3.out.1.ext HY3.out).oth HKP.out HTY.out (by decide))
 have SPL:Hid (Calls Tryz.prog 37 #[.slice aa A.length ca,.int .i64 (f:Nat),.int .i64 ((f:Int) + (d:Int)),.slice a3 n3 c3] y4 fun e w'=>∃ v',e=.returned v'∧Hid (OwnI w' y4.heap.size v' (spl A f (f + d) ps))∧Below y4.heap.size y4 w'):=spliced_any _ _ A ps f (f + d) y4 HOA.out.rdi HOP.out.rdi HFD.out.1 HFD.out.2 hlen (by have:=HP3.out.2.1;omega)
 clear hHeld hwd hf hd
 go_wp2_with (go_at_call 37;refine SPL.out.mono ?_;rintro e y5 ⟨v5,rfl,ho5,hb5⟩;have HB5:=zh hb5;have HO5:=zh ho5.out;have HE5:=zh ((hb5.block g (Array.getElem?_eq_some_iff.1 HE4.out).1).trans HE4.out);obtain ⟨a5,k5,hv5⟩:=ho5.out.form;generalize hn5:(spl A f (f + d) ps).length=n5 at hv5;clear hn5;subst hv5;clear ho5 hb5 c1 cg1 fz;obtain ⟨_,c1,cg1,fz⟩:=cells2 HE5.out;(try dsimp only))
 go_ret
 have hfin:=BtW.put (m:=m + 1) HE5.out (HO5.out.le (Nat.zero_le _)) (HTZ.out.ext HB5.out) hgt (by have:=ln_spl enc A ps f (f + d) HFD.out.1;have:=HW3.out.bd;have:=HP3.out.2.1;omega) HW3.out.en
 refine ⟨rfl,⟨_,hfin.1⟩,?_⟩
 exact (((Kps.of_below (fun k=>k=g∨k=t) (zxt HB3.out HY3.out)).trans HKP.out (fun _ _ e=>.inr e)).trans (Kps.of_below (fun _=>False) HB5.out) (fun _ _ e=>e.elim)).trans hfin.2 (fun _ _ e=>.inl e)
open Go.RowKit
def OwnB (w:World) (base:Nat) (v:Value) (zs:List Int):Prop:=w.ownsRow base 5 1 v zs.length (zs.map (Value.int .u8))
theorem OwnB.form {w:World} {base:Nat} {v:Value} {zs:List Int} (h:OwnB w base v zs):∃ ao cap,v=.slice ao zs.length cap:=by
 rcases h.2 with ⟨rfl,hn⟩ | ⟨g,cap,cur,hv,_⟩
 ·exact ⟨none,0,by rw [hn]⟩
 ·exact ⟨_,cap,hv⟩
theorem OwnB.ext {w w':World} {base:Nat} {v:Value} {zs:List Int} (h:OwnB w base v zs) (hb:Below w.heap.size w w'):OwnB w' base v zs:=World.ownsRow.kept (row:=none) h ⟨hb.os,hb.tape,hb.output,hb.size,fun k hk _=>hb.block k hk⟩ (by cases v.ownBlock <;> simp)
theorem rdb_new (w:World) (x:Int):∀ j u,([x].map (Value.int .u8))[j]?=some u→(w.alloc (.cells #[.int .u8 x] 5)).cell? ((⟨w.heap.size,0,none⟩:Addr).add j)=some u:=fun j u hj=>by
 cases j with
 | zero =>
   simp only [List.map_cons,List.getElem?_cons_zero,Option.some.injEq] at hj
   subst hj
   rw [show ((⟨w.heap.size,0,none⟩:Addr).add 0)=⟨w.heap.size,0,none⟩ from rfl,cell_of_row _ _ _ _ _ _ (heap_alloc_new _ _)]
   rfl
 | succ j=>simp at hj
section
variable {P:Program} {W:World} {ops:Array Oper} {rest:List Oper} {o:Oper} {a:Act} {Q:Exit→Act→World→Prop}
theorem wpl_byte (hgd:o.guard=none) (s x:Operand) (t:TypeId) (ho:o.op=.call { callee:=.builtin .append,args:=#[s,x],argTypes:=#[t,t] })
  (base:Nat) (hinf:(P.info? 5).map (fun i=>(i.zero,i.size,i.bytes))=some (some (.int .u8 0),1,1)) (ht:P.underlying t=some (.slice 5))
  (v:Value) (zs:List Int) (hs:a.eval s=v) (hown:OwnB W base v zs) (y:Int) (g:Nat) (hx:a.eval x=.slice (some ⟨g,0,none⟩) 1 1)
  (hys:∀ j u,([y].map (Value.int .u8))[j]?=some u→W.cell? ((⟨g,0,none⟩:Addr).add j)=some u) (hl:zs.length + 1≤1099511627776) (hbase:base≤W.heap.size)
  (h:∀ v' w',OwnB w' base v' (zs ++ [y])→Below base W w'→wpList P ops Q rest (a.put o.dst v') w'):wpList P ops Q (o :: rest) a W:=by
 obtain ⟨i0,hi,hz0,hz1,hz2⟩:=info_parts hinf
 refine wpList_append_own W hgd s x t ho base 5 i0 (.int .u8 0) 1 1 ht hi hz0 hz1 hz2 rfl (by decide) v zs.length (zs.map (Value.int .u8)) hs hown ⟨g,0,none⟩ 1 1 ([y].map (Value.int .u8)) hx (by simp) hys (fun u hu=>by rw [List.mem_map] at hu;obtain ⟨_,_,rfl⟩:=hu;rfl) (by unfold maxLen;omega) (by omega) hbase ?_
 intro v' w' h1 h2 _
 refine h v' w' ?_ ((Below.refl _ _).grown h2 hbase (fun k hk=>(World.ownsRow.lt hown k hk).1))
 unfold OwnB
 rw [List.length_append,List.map_append]
 exact h1
end
def OpO (w:World) (t:Nat) (v:Value) (w':World):Prop:=∃ enc A,Cx.En enc∧OwnI w' w.heap.size v A∧Tz enc w' t A∧ln enc A≤50000∧w.heap.size≤t
set_option maxHeartbeats 8000000 in
theorem opened_any (e0:Int) (vd:Value) (D:List Int) (w:World) (hD:Rd .u8 w vd D) (hB:Byt D):Calls Tryz.prog 18 #[.agg #[.int .i64 e0,vd]] w fun e w'=>∃ t v,e=.returned (.tuple #[.agg #[.pointer (some ⟨t,0,none⟩),v],.bool true])∧Hid (OpO w t v w')∧Below w.heap.size w w':=by
 obtain ⟨ad,cd,rfl,hd1,hd2,_⟩:=id hD
 have hD9:=hD.len
 obtain ⟨q1,q2⟩:=and_le e0 3 (by decide)
 generalize hq:bits .and .i64 e0 (3:Nat)=q at q1 q2
 have hq':bits .and .i64 e0 3=q:=hq
 obtain ⟨enc,he⟩:∃ enc,enc=1 + q:=⟨_,rfl⟩
 have HEN:Hid (Cx.En enc):=by unfold Hid Cx.En;omega
 have hwe:IntKind.i64.wrap (1 + q)=enc:=by rw [IntKind.wrap_i64];omega
 have HKN:Hid (Cx.known enc=true):=(Cx.known_iff enc).2 HEN.out
 clear hq q1 q2 he
 obtain ⟨w0,hw0⟩:∃ w0,w0=(w.alloc (.cells #[.int .i64 e0,.slice ad D.length cd] 24)).alloc (.cells #[.pointer none,.slice none 0 0] 29):=⟨_,rfl⟩
 have HS0:Hid (w0.heap[w.heap.size]?=some (.cells #[.int .i64 e0,.slice ad D.length cd] 24 (0,0))∧w0.heap[w.heap.size + 1]?=some (.cells #[.pointer none,.slice none 0 0] 29 (0,0))∧Below w.heap.size w w0∧w0.heap.size=w.heap.size + 2):=by
  obtain ⟨v1,hv1⟩:∃ v,v=w.alloc (.cells #[.int .i64 e0,.slice ad D.length cd] 24):=⟨_,rfl⟩
  rw [← hv1] at hw0
  have s1:v1.heap.size=w.heap.size + 1:=by rw [hv1];simp
  have b1:Below w.heap.size w v1:=by rw [hv1];exact zxa (Below.refl _ _) _
  have b2:Below v1.heap.size v1 w0:=by rw [hw0];exact zxa (Below.refl _ _) _
  refine ⟨(b2.block _ (by omega)).trans (by rw [hv1];exact heap_alloc_new _ _),?_,zxt b1 b2,by rw [hw0];simp [s1]⟩
  rw [← s1,hw0];exact heap_alloc_new _ _
 have HC:Hid (∀ w',Below w0.heap.size w0 w'→w'.cell? ⟨w.heap.size,0,none⟩=some (.int .i64 e0)∧w'.cell? ⟨w.heap.size,1,none⟩=some (.slice ad D.length cd)∧w'.heap[w.heap.size + 1]?=some (.cells #[.pointer none,.slice none 0 0] 29 (0,0))):=fun w' hb=>by
  have hs:=HS0.out.2.2.2
  obtain ⟨_,k0,k1,_⟩:=cells2 ((hb.block _ (by omega)).trans HS0.out.1)
  exact ⟨k0,k1,(hb.block _ (by omega)).trans HS0.out.2.1⟩
 have HD:=zh (hD.ext HS0.out.2.2.1)
 have HBY:=zh hB
 have HB0:=zh HS0.out.2.2.1
 clear hD hB
 obtain ⟨c0,c1,_⟩:=HC.out w0 (Below.refl _ _)
 go_enter Tryz.func18,Tryz.ntmps18
 go_upto_region 1 with fail
 rw [← hw0]
 clear hw0
 go_upto_block 0 with fail
 clear hq'
 go_cut [5] from 15 to 33 (fun lv wF=>∃ (ao:Option Addr) (n cap:Nat) (zs:List Int),lv=.slice ao n cap∧Hid (OwnB wF w0.heap.size (.slice ao n cap) zs∧Byt zs∧zs.length≤50000∧Below w0.heap.size w0 wF))
 case first =>
  have HI0:Hid (OwnB w0 w0.heap.size (.slice none 0 0) (D.take 0)∧Below w0.heap.size w0 w0):=⟨World.ownsRow_nil _ _ _ _,Below.refl _ _⟩
  clear c0 c1
  go_wp2_with fail
  go_loopg [5,6] D.length (fun gk lv p wr=>∃ (i:Nat) (ao:Option Addr) (n cap:Nat),i + gk=D.length∧i≤50000∧p=.int .i64 (i:Nat)∧lv=.slice ao n cap∧Hid (OwnB wr w0.heap.size (.slice ao n cap) (D.take i)∧Below w0.heap.size w0 wr))
  case atStart=>exact ⟨0,none,0,0,by omega,by omega,rfl,rfl,HI0.out⟩
  case round =>
   obtain ⟨i,ao,n,cap,hig,hi5,rfl,rfl,HI⟩:=hrel
   have HBT:Hid (Byt (D.take i)):=fun z hz=>HBY.out z (List.mem_of_mem_take hz)
   obtain ⟨c0,c1,_⟩:=HC.out wr HI.out.2
   have HG:=zh hig
   clear hig
   by_cases hlt:i < D.length
   ·have hltI:(i:Int) < (D.length:Int):=by omega
    by_cases hl5:(i:Int) < 50000
    ·obtain ⟨b,o,rfl,hbl,ci,_⟩:=rd_at (HD.out.ext HI.out.2) i hlt
     obtain ⟨x,hx⟩:∃ x,D[i]?=some x:=⟨_,List.getElem?_eq_getElem hlt⟩
     rw [hx,Option.getD_some] at ci
     have HT:=zh (take_snoc hx)
     clear hx
     have HOA:Hid (OwnB (wr.alloc (.cells #[.int .u8 x] 5)) w0.heap.size (.slice ao n cap) (D.take i)):=HI.out.1.ext (zxa (Below.refl _ _) _)
     have HNW:=zh (rdb_new wr x)
     have HBI:=zh HI.out.2
     have HZ:=zh (show w0.heap.size≤(wr.alloc (.cells #[.int .u8 x] 5)).heap.size from Nat.le_trans HBI.out.size (size_alloc_le _ _))
     have HLN:=zh (show (D.take i).length + 1≤1099511627776 by rw [List.length_take];omega)
     go_wp2_with (at_builtin;refine wpl_byte rfl _ _ 22 rfl w0.heap.size Tryz.info_u8 Tryz.underlying22 (.slice ao n cap) (D.take i) rfl HOA.out x wr.heap.size rfl HNW.out HLN.out HZ.out ?_;intro v8 w8 ho8 hb8;obtain ⟨a8,c8,hv8⟩:=ho8.form;generalize hn8:(D.take i ++ [x]).length=n8 at hv8;clear hn8;subst hv8;have HO8:=zh ho8;have HB8:=zh (HBI.out.trans ((zxa (Below.refl wr.heap.size wr) _).mono HBI.out.size |>.trans hb8));clear ho8 hb8)
     go_roundg (D.length - (i + 1))
     case rel=>exact ⟨i + 1,a8,n8,c8,by have:=HG.out;omega,by omega,by go_num,rfl,by rw [HT.out];exact HO8.out,HB8.out⟩
     case measure=>have:=HG.out;omega
    ·go_wp2_with fail
     go_meet
     case rel=>exact ⟨ao,n,cap,D.take i,rfl,HI.out.1,HBT.out,by rw [List.length_take];omega,HI.out.2⟩
   ·have hnl:¬ (i:Int) < (D.length:Int):=by omega
    go_wp2_with fail
    go_meet
    case rel=>exact ⟨ao,n,cap,D.take i,rfl,HI.out.1,HBT.out,by rw [List.length_take];omega,HI.out.2⟩
 obtain ⟨ao,n,cap,zs,rfl,HI⟩:=hcut
 have HRZ:Hid (Rd .u8 wc (.slice ao n cap) zs):=Rd.of_own HI.out.1
 have RD:Hid (Calls Tryz.prog 50 #[.int .i64 enc,.slice ao n cap] wc fun e w'=>∃ v',e=.returned (.tuple #[v',.int .i64 0])∧Hid (OwnI w' wc.heap.size v' (Cx.dec enc zs))∧Below wc.heap.size wc w'):=by
  refine (rDecode_any enc _ zs wc HRZ.out HI.out.2.1 (by have:=HI.out.2.2.1;omega)).mono fun e w' ⟨v',k1,k2,k3⟩=>⟨v',?_,?_,k3⟩
  ·rw [k1];unfold Cx.er;rw [if_pos HKN.out]
  ·rw [Cx.dd_yes enc zs HKN.out] at k2;exact k2
 have OP:Hid (∀ w',Below wc.heap.size wc w'→Calls Tryz.prog 51 #[.int .i64 enc,.slice ao n cap,.int .i64 65536] w' fun e w''=>OpR enc 65536 zs w' e w''):=fun w' hb=>Open_good enc 65536 _ zs w' (HRZ.out.ext hb) HI.out.2.1 (by unfold opE;rw [if_pos HKN.out,if_neg (by omega),if_neg (by have:=HI.out.2.2.1;omega)])
 have HBC:=zh HI.out.2.2.2
 clear c0 c1
 go_upto_region 9 with (first
  | (go_at_call 50;refine RD.out.mono ?_;rintro e w2 ⟨v2,rfl,ho2,hb⟩;obtain ⟨a2,k2,hv2⟩:=ho2.out.form;generalize hn2:(Cx.dec enc zs).length=n2 at hv2;clear hn2;subst hv2;have HO2:=zh ho2.out;have HB2:=zh hb;clear ho2 hb;(try dsimp only))
  | (go_at_call 51;refine (OP.out _ HB2.out).mono ?_;rintro e w3 ⟨t,ps,rfl,hop,hb⟩;have HOP:=zh hop;have HB3:=zh hb;clear hop hb;(try dsimp only)))
 have HW3:=zh (zxt (zxt HBC.out HB2.out) HB3.out)
 have HX:=zh (HC.out w3 HW3.out).2.2
 obtain ⟨_,c0,c1,fz⟩:=cells2 HX.out
 go_wp2_with fail
 refine bodyPost_ret (v:=.tuple #[.agg #[.pointer (some ⟨t,0,none⟩),.slice a2 n2 k2],.bool true]) (by simp [results,Tryz.results18,go_sem,c0,c1]) rfl ⟨t,.slice a2 n2 k2,rfl,?_,?_⟩
 ·obtain ⟨h1,g1⟩:=set1 HX.out 0 (.pointer (some ⟨t,0,none⟩))
  obtain ⟨h2,g2⟩:=set1 h1 1 (.slice a2 n2 k2)
  have hk:Kps (fun k=>k=w.heap.size + 1) w3 ((w3.setCell ⟨w.heap.size + 1,0,none⟩ (.pointer (some ⟨t,0,none⟩))).setCell ⟨w.heap.size + 1,1,none⟩ (.slice a2 n2 k2)):=Kps.grown (zgt g1 g2) fun j e _=>by cases e;rfl
  have hty:Typ 29 w3 (w.heap.size + 1):=⟨_,HX.out⟩
  have htz:Tz enc w3 t (Cx.dec enc zs):=⟨zs,ps,HOP.out.1,by rw [← sh_fst enc,HOP.out.2.1,ctn_fst]⟩
  have hle:w.heap.size≤wc.heap.size:=(zxt HB0.out HBC.out).size
  refine ⟨enc,Cx.dec enc zs,HEN.out,((HO2.out.ext HB3.out).oth hk hty (by decide)).le hle,htz.other hk hty (by decide) (by decide) (fun e=>?_),?_,Nat.le_trans (Nat.le_trans hle HB2.out.size) HOP.out.2.2⟩
  ·rw [e] at hty
   exact absurd (Typ.uniq hty htz.typ) (by decide)
  ·unfold ln
   rw [(Cx.back_all enc HEN.out _ zs (Nat.le_refl _) HI.out.2.1).1]
   exact HI.out.2.2.1
 ·obtain ⟨h1,g1⟩:=set1 HX.out 0 (.pointer (some ⟨t,0,none⟩))
  obtain ⟨h2,g2⟩:=set1 h1 1 (.slice a2 n2 k2)
  exact zbp (zxt HB0.out HW3.out) (zxt HB0.out HW3.out).size (zgt g1 g2) (by omega)
end Go.Proofs.YtjomfbegghgbdaaGreat.P
