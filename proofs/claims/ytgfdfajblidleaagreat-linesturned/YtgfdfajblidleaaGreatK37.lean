import Derived.Test.YtgfdfajblidleaaGreatK36
import Derived.Deep.RegionHeld3
import Derived.OrdersHeld
import Derived.Deep.LoopGhost
import Derived.Deep.CutRange
import Derived.Deep.CutBlock
set_option maxRecDepth 100000
namespace Go.Proofs.YtgfdfajblidleaaGreat.P
open Go.RowKit
theorem fits_pln {enc a:Int} (he:Cx.En enc) (h:Pln a):Cx.fits enc a=true:=by
 unfold Pln at h
 rcases he with rfl | rfl | rfl | rfl <;> (unfold Cx.fits Cx.isSc;simp;omega)
theorem ap_one (l:List (Int × Int)) (f t:Nat) (put:List Int):apE l 0 [((f:Int),(t:Int),put)]=l.take f ++ (put.map fun a=>(a,-1)) ++ l.drop t:=by simp [apE]
theorem ap_one_fst (l:List (Int × Int)) (f t:Nat) (put:List Int):(apE l 0 [((f:Int),(t:Int),put)]).map Prod.fst=spl (l.map Prod.fst) f t put:=by
 rw [ap_one]
 simp [spl,List.map_take,List.map_drop,List.map_map,Function.comp_def]
theorem ln_spl (enc:Int) (A put:List Int) (f t:Nat) (hf:f≤t):ln enc (spl A f t put)≤ln enc A + 4 * put.length:=by
 unfold spl
 rw [ln_app,ln_app]
 have h1:=ln_le enc put
 have h2:=ln_app enc (A.take f) (A.drop f)
 have h3:=ln_app enc ((A.drop f).take (t - f)) ((A.drop f).drop (t - f))
 rw [List.take_append_drop] at h2 h3
 rw [List.drop_drop,show f + (t - f)=t by omega] at h3
 omega
theorem Change_z (enc:Int) (w:World) (t:Nat) (A:List Int) (v:Value) (f g:Nat) (put:List Int) (h:Tz enc w t A) (hE:EdR w v [((f:Int),(g:Int),put)]) (hf:f≤g) (hg:g≤A.length) (hp:∀ a ∈ put,Cx.fits enc a=true) (hl:ln enc A + 4 * put.length≤65536) :
  Calls Tryz.prog 46 #[.pointer (some ⟨t,0,none⟩),v] w fun e w'=>e=.returned (.int .i64 0)∧Tz enc w' t (spl A f g put)∧Kps (fun k=>k=t) w w':=by
 obtain ⟨L,ps,h1,rfl⟩:=h
 have hpu:puts [((f:Int),(g:Int),put)]=put:=by simp [puts]
 have hpl:put.length≤16384:=by omega
 have hck:ckA enc 65536 (sh enc ps).length [((f:Int),(g:Int),put)]=0:=by
  unfold ckA
  rw [if_neg (by simp),if_pos (by rw [rg_cons];refine ⟨⟨Int.natCast_nonneg _,?_,?_⟩,rfl⟩ <;> (simp only [sh_len];omega))]
  unfold cpA
  rw [hpu,if_pos hp,if_neg (by have:=ln_le enc put;omega)]
 have hf1:=ap_one_fst (sh enc ps) f g put
 rw [sh_fst] at hf1
 have hA:chA enc 65536 (sh enc ps) [((f:Int),(g:Int),put)]=0:=by
  unfold chA
  rw [if_pos hck,hf1,if_neg (by have:=ln_spl enc (asOf ps) put f g hf;omega)]
 refine (Change_any enc 65536 L w t ps v _ h1 hE (fun _=>by rw [hpu];omega)).mono fun e w' ⟨k1,ps',k2,k3,k4⟩=>?_
 rw [hA] at k1
 refine ⟨k1,⟨L,ps',k2,?_⟩,k4⟩
 rw [← sh_fst enc,k3]
 unfold chT
 rw [if_pos hA,hf1]
theorem Tz.other {enc:Int} {w w':World} {t g:Nat} {A:List Int} {T:TypeId} (h:Tz enc w t A) (hk:Kps (fun k=>k=g) w w') (hg:Typ T w g) (h1:T≠5) (h2:T≠144) (h3:g≠t):Tz enc w' t A:=by
 obtain ⟨L,ps,k1,k2⟩:=h
 have hs:∀ b,b < w.heap.size→b≠g→w'.heap[b]?=w.heap[b]?:=fun b hb hn=>hk.same b hb hn
 obtain ⟨lv,u,q1,q2,q3⟩:=k1.ex
 refine ⟨L,ps,⟨⟨lv,u,(hs t (Array.getElem?_eq_some_iff.1 q1).1 (fun e=>h3 e.symm)).trans q1,q2.same ?_,q3.same ?_⟩,k1.pc.same ?_,k1.en,k1.by',k1.ll,k1.l0,k1.lm,k1.sz⟩,k2⟩
 ·exact fun b hb=>hs b hb.lt (fun e=>by subst e;exact h1 (hg.uniq hb))
 ·exact fun b hb=>hs b hb.lt (fun e=>by subst e;exact h2 (hg.uniq hb))
 ·exact fun b hb=>hs b hb.lt (fun e=>by subst e;exact h1 (hg.uniq hb))
open Go.RowKit
theorem OwnI.le {w:World} {base base':Nat} {v:Value} {zs:List Int} (h:OwnI w base v zs) (hb:base'≤base):OwnI w base' v zs:=by
 obtain ⟨h1,h2⟩:=h
 refine ⟨h1,?_⟩
 rcases h2 with h2 | ⟨g,cap,cur,hv,hg,r⟩
 ·exact .inl h2
 ·exact .inr ⟨g,cap,cur,hv,Nat.le_trans hb hg,r⟩
theorem OwnI.oth {w w':World} {base t:Nat} {v:Value} {zs:List Int} {T:TypeId} (h:OwnI w base v zs) (hk:Kps (fun k=>k=t) w w') (ht:Typ T w t) (hT:T≠3):OwnI w' base v zs:=by
 obtain ⟨h1,h2⟩:=id h
 refine ⟨h1,?_⟩
 rcases h2 with h2 | ⟨k,cap,cur,hv,hb,hgg,r⟩
 ·exact .inl h2
 ·refine .inr ⟨k,cap,cur,hv,hb,(hk.same k (Array.getElem?_eq_some_iff.1 hgg).1 (fun e=>?_)).trans hgg,r⟩
  subst e
  exact hT (Typ.uniq ht ⟨_,hgg⟩)
theorem OwnI.rdi {w:World} {base:Nat} {v:Value} {zs:List Int} (h:OwnI w base v zs):Rd .i64 w v zs:=Rd.of_own h
structure BtW (enc:Int) (w:World) (g t:Nat) (A:List Int) (m:Nat):Prop where
 ex:∃ v,w.heap[g]?=some (.cells #[.pointer (some ⟨t,0,none⟩),v] 29 (0,0))∧OwnI w 0 v A
 tz:Tz enc w t A
 bd:ln enc A≤50000 + 64 * m
 en:Cx.En enc
theorem BtW.lt {enc:Int} {w:World} {g t:Nat} {A:List Int} {m:Nat} (h:BtW enc w g t A m):g < w.heap.size:=by obtain ⟨_,h1,_⟩:=h.ex;exact (Array.getElem?_eq_some_iff.1 h1).1
theorem BtW.typ {enc:Int} {w:World} {g t:Nat} {A:List Int} {m:Nat} (h:BtW enc w g t A m):Typ 29 w g:=by obtain ⟨_,h1,_⟩:=h.ex;exact ⟨_,h1⟩
theorem BtW.ne {enc:Int} {w:World} {g t:Nat} {A:List Int} {m:Nat} (h:BtW enc w g t A m):g≠t:=fun e=>by
 subst e
 exact absurd (Typ.uniq h.typ h.tz.typ) (by decide)
theorem BtW.ext {enc:Int} {w w':World} {g t:Nat} {A:List Int} {m:Nat} (h:BtW enc w g t A m) (hb:Below w.heap.size w w'):BtW enc w' g t A m:=by
 obtain ⟨v,h1,h2⟩:=h.ex
 exact ⟨⟨v,(hb.block g (Array.getElem?_eq_some_iff.1 h1).1).trans h1,h2.ext hb⟩,h.tz.ext hb,h.bd,h.en⟩
theorem cells2 {w:World} {b:Nat} {T:TypeId} {v0 v1:Value} (h:w.heap[b]?=some (.cells #[v0,v1] T (0,0))):b < w.heap.size∧w.cell? ⟨b,0,none⟩=some v0∧w.cell? ⟨b,1,none⟩=some v1∧(∀ i,w.frozen? ⟨b,i,none⟩=false):=by
 refine ⟨(Array.getElem?_eq_some_iff.1 h).1,?_,?_,fun i=>by simp [World.frozen?,h]⟩ <;> (rw [cell_of_row _ _ _ _ _ _ h];rfl)
theorem BtW.put {enc:Int} {w:World} {g t:Nat} {A:List Int} {m:Nat} {v v':Value} (hg:w.heap[g]?=some (.cells #[.pointer (some ⟨t,0,none⟩),v] 29 (0,0))) (ho:OwnI w 0 v' A) (ht:Tz enc w t A) (hgt:g≠t) (hb:ln enc A≤50000 + 64 * m) (he:Cx.En enc) :
  BtW enc (w.setCell ⟨g,1,none⟩ v') g t A m∧Kps (fun k=>k=g) w (w.setCell ⟨g,1,none⟩ v'):=by
 obtain ⟨h1,h2⟩:=set1 hg 1 v'
 have hk:Kps (fun k=>k=g) w (w.setCell ⟨g,1,none⟩ v'):=Kps.grown h2 fun j e _=>by cases e;rfl
 exact ⟨⟨⟨v',by rw [h1];rfl,ho.oth hk ⟨_,hg⟩ (by decide)⟩,ht.other hk ⟨_,hg⟩ (by decide) (by decide) hgt,hb,he⟩,hk⟩
open Go.RowKit
def OwnB (w:World) (base:Nat) (v:Value) (zs:List Int):Prop:=w.ownsRow base 5 1 v zs.length (zs.map (Value.int .u8))
theorem OwnB.form {w:World} {base:Nat} {v:Value} {zs:List Int} (h:OwnB w base v zs):∃ ao cap,v=.slice ao zs.length cap:=by
 rcases h.2 with ⟨rfl,hn⟩ | ⟨g,cap,cur,hv,_⟩
 ·exact ⟨none,0,by rw [hn]⟩
 ·exact ⟨_,cap,hv⟩
theorem OwnB.ext {w w':World} {base:Nat} {v:Value} {zs:List Int} (h:OwnB w base v zs) (hb:Below w.heap.size w w'):OwnB w' base v zs:=World.ownsRow.kept (row:=none) h ⟨hb.os,hb.tape,hb.output,hb.size,fun k hk _=>hb.block k hk⟩ (by cases v.ownBlock <;> simp)
theorem rdb_new (w:World) (x:Int):∀ j u,([x].map (Value.int .u8))[j]?=some u→(w.alloc (.cells #[.int .u8 x] 5)).cell? ((⟨w.heap.size,0,none⟩:Addr).add j)=some u:=fun j u hj=>by
 cases j with
 | zero =>
   simp only [List.map_cons,List.getElem?_cons_zero,Option.some.injEq] at hj
   subst hj
   rw [show ((⟨w.heap.size,0,none⟩:Addr).add 0)=⟨w.heap.size,0,none⟩ from rfl,cell_of_row _ _ _ _ _ _ (heap_alloc_new _ _)]
   rfl
 | succ j=>simp at hj
section
variable {P:Program} {W:World} {ops:Array Oper} {rest:List Oper} {o:Oper} {a:Act} {Q:Exit→Act→World→Prop}
theorem wpl_byte (hgd:o.guard=none) (s x:Operand) (t:TypeId) (ho:o.op=.call { callee:=.builtin .append,args:=#[s,x],argTypes:=#[t,t] })
  (base:Nat) (hinf:(P.info? 5).map (fun i=>(i.zero,i.size,i.bytes))=some (some (.int .u8 0),1,1)) (ht:P.underlying t=some (.slice 5))
  (v:Value) (zs:List Int) (hs:a.eval s=v) (hown:OwnB W base v zs) (y:Int) (g:Nat) (hx:a.eval x=.slice (some ⟨g,0,none⟩) 1 1)
  (hys:∀ j u,([y].map (Value.int .u8))[j]?=some u→W.cell? ((⟨g,0,none⟩:Addr).add j)=some u) (hl:zs.length + 1≤1099511627776) (hbase:base≤W.heap.size)
  (h:∀ v' w',OwnB w' base v' (zs ++ [y])→Below base W w'→wpList P ops Q rest (a.put o.dst v') w'):wpList P ops Q (o :: rest) a W:=by
 obtain ⟨i0,hi,hz0,hz1,hz2⟩:=info_parts hinf
 refine wpList_append_own W hgd s x t ho base 5 i0 (.int .u8 0) 1 1 ht hi hz0 hz1 hz2 rfl (by decide) v zs.length (zs.map (Value.int .u8)) hs hown ⟨g,0,none⟩ 1 1 ([y].map (Value.int .u8)) hx (by simp) hys (fun u hu=>by rw [List.mem_map] at hu;obtain ⟨_,_,rfl⟩:=hu;rfl) (by unfold maxLen;omega) (by omega) hbase ?_
 intro v' w' h1 h2 _
 refine h v' w' ?_ ((Below.refl _ _).grown h2 hbase (fun k hk=>(World.ownsRow.lt hown k hk).1))
 unfold OwnB
 rw [List.length_append,List.map_append]
 exact h1
end
def OpO (w:World) (t:Nat) (v:Value) (w':World):Prop:=∃ enc A,Cx.En enc∧OwnI w' w.heap.size v A∧Tz enc w' t A∧ln enc A≤50000∧w.heap.size≤t
set_option maxHeartbeats 8000000 in
theorem opened_any (e0:Int) (vd:Value) (D:List Int) (w:World) (hD:Rd .u8 w vd D) (hB:Byt D):Calls Tryz.prog 5 #[.agg #[.int .i64 e0,vd]] w fun e w'=>∃ t v,e=.returned (.tuple #[.agg #[.pointer (some ⟨t,0,none⟩),v],.bool true])∧Hid (OpO w t v w')∧Below w.heap.size w w':=by
 obtain ⟨ad,cd,rfl,hd1,hd2,_⟩:=id hD
 have hD9:=hD.len
 obtain ⟨q1,q2⟩:=and_le e0 3 (by decide)
 generalize hq:bits .and .i64 e0 (3:Nat)=q at q1 q2
 have hq':bits .and .i64 e0 3=q:=hq
 obtain ⟨enc,he⟩:∃ enc,enc=1 + q:=⟨_,rfl⟩
 have HEN:Hid (Cx.En enc):=by unfold Hid Cx.En;omega
 have hwe:IntKind.i64.wrap (1 + q)=enc:=by rw [IntKind.wrap_i64];omega
 have HKN:Hid (Cx.known enc=true):=(Cx.known_iff enc).2 HEN.out
 clear hq q1 q2 he
 obtain ⟨w0,hw0⟩:∃ w0,w0=(w.alloc (.cells #[.int .i64 e0,.slice ad D.length cd] 24)).alloc (.cells #[.pointer none,.slice none 0 0] 29):=⟨_,rfl⟩
 have HS0:Hid (w0.heap[w.heap.size]?=some (.cells #[.int .i64 e0,.slice ad D.length cd] 24 (0,0))∧w0.heap[w.heap.size + 1]?=some (.cells #[.pointer none,.slice none 0 0] 29 (0,0))∧Below w.heap.size w w0∧w0.heap.size=w.heap.size + 2):=by
  obtain ⟨v1,hv1⟩:∃ v,v=w.alloc (.cells #[.int .i64 e0,.slice ad D.length cd] 24):=⟨_,rfl⟩
  rw [← hv1] at hw0
  have s1:v1.heap.size=w.heap.size + 1:=by rw [hv1];simp
  have b1:Below w.heap.size w v1:=by rw [hv1];exact zxa (Below.refl _ _) _
  have b2:Below v1.heap.size v1 w0:=by rw [hw0];exact zxa (Below.refl _ _) _
  refine ⟨(b2.block _ (by omega)).trans (by rw [hv1];exact heap_alloc_new _ _),?_,zxt b1 b2,by rw [hw0];simp [s1]⟩
  rw [← s1,hw0];exact heap_alloc_new _ _
 have HC:Hid (∀ w',Below w0.heap.size w0 w'→w'.cell? ⟨w.heap.size,0,none⟩=some (.int .i64 e0)∧w'.cell? ⟨w.heap.size,1,none⟩=some (.slice ad D.length cd)∧w'.heap[w.heap.size + 1]?=some (.cells #[.pointer none,.slice none 0 0] 29 (0,0))):=fun w' hb=>by
  have hs:=HS0.out.2.2.2
  obtain ⟨_,k0,k1,_⟩:=cells2 ((hb.block _ (by omega)).trans HS0.out.1)
  exact ⟨k0,k1,(hb.block _ (by omega)).trans HS0.out.2.1⟩
 have HD:=zh (hD.ext HS0.out.2.2.1)
 have HBY:=zh hB
 have HB0:=zh HS0.out.2.2.1
 clear hD hB
 obtain ⟨c0,c1,_⟩:=HC.out w0 (Below.refl _ _)
 go_enter Tryz.func5,Tryz.ntmps5
 go_upto_region 1 with fail
 rw [← hw0]
 clear hw0
 go_upto_block 0 with fail
 clear hq'
 go_cut [5] from 15 to 33 (fun lv wF=>∃ (ao:Option Addr) (n cap:Nat) (zs:List Int),lv=.slice ao n cap∧Hid (OwnB wF w0.heap.size (.slice ao n cap) zs∧Byt zs∧zs.length≤50000∧Below w0.heap.size w0 wF))
 case first =>
  have HI0:Hid (OwnB w0 w0.heap.size (.slice none 0 0) (D.take 0)∧Below w0.heap.size w0 w0):=⟨World.ownsRow_nil _ _ _ _,Below.refl _ _⟩
  clear c0 c1
  go_wp2_with fail
  go_loopg [5,6] D.length (fun gk lv p wr=>∃ (i:Nat) (ao:Option Addr) (n cap:Nat),i + gk=D.length∧i≤50000∧p=.int .i64 (i:Nat)∧lv=.slice ao n cap∧Hid (OwnB wr w0.heap.size (.slice ao n cap) (D.take i)∧Below w0.heap.size w0 wr))
  case atStart=>exact ⟨0,none,0,0,by omega,by omega,rfl,rfl,HI0.out⟩
  case round =>
   obtain ⟨i,ao,n,cap,hig,hi5,rfl,rfl,HI⟩:=hrel
   have HBT:Hid (Byt (D.take i)):=fun z hz=>HBY.out z (List.mem_of_mem_take hz)
   obtain ⟨c0,c1,_⟩:=HC.out wr HI.out.2
   have HG:=zh hig
   clear hig
   by_cases hlt:i < D.length
   ·have hltI:(i:Int) < (D.length:Int):=by omega
    by_cases hl5:(i:Int) < 50000
    ·obtain ⟨b,o,rfl,hbl,ci,_⟩:=rd_at (HD.out.ext HI.out.2) i hlt
     obtain ⟨x,hx⟩:∃ x,D[i]?=some x:=⟨_,List.getElem?_eq_getElem hlt⟩
     rw [hx,Option.getD_some] at ci
     have HT:=zh (take_snoc hx)
     clear hx
     have HOA:Hid (OwnB (wr.alloc (.cells #[.int .u8 x] 5)) w0.heap.size (.slice ao n cap) (D.take i)):=HI.out.1.ext (zxa (Below.refl _ _) _)
     have HNW:=zh (rdb_new wr x)
     have HBI:=zh HI.out.2
     have HZ:=zh (show w0.heap.size≤(wr.alloc (.cells #[.int .u8 x] 5)).heap.size from Nat.le_trans HBI.out.size (size_alloc_le _ _))
     have HLN:=zh (show (D.take i).length + 1≤1099511627776 by rw [List.length_take];omega)
     go_wp2_with (at_builtin;refine wpl_byte rfl _ _ 22 rfl w0.heap.size Tryz.info_u8 Tryz.underlying22 (.slice ao n cap) (D.take i) rfl HOA.out x wr.heap.size rfl HNW.out HLN.out HZ.out ?_;intro v8 w8 ho8 hb8;obtain ⟨a8,c8,hv8⟩:=ho8.form;generalize hn8:(D.take i ++ [x]).length=n8 at hv8;clear hn8;subst hv8;have HO8:=zh ho8;have HB8:=zh (HBI.out.trans ((zxa (Below.refl wr.heap.size wr) _).mono HBI.out.size |>.trans hb8));clear ho8 hb8)
     go_roundg (D.length - (i + 1))
     case rel=>exact ⟨i + 1,a8,n8,c8,by have:=HG.out;omega,by omega,by go_num,rfl,by rw [HT.out];exact HO8.out,HB8.out⟩
     case measure=>have:=HG.out;omega
    ·go_wp2_with fail
     go_meet
     case rel=>exact ⟨ao,n,cap,D.take i,rfl,HI.out.1,HBT.out,by rw [List.length_take];omega,HI.out.2⟩
   ·have hnl:¬ (i:Int) < (D.length:Int):=by omega
    go_wp2_with fail
    go_meet
    case rel=>exact ⟨ao,n,cap,D.take i,rfl,HI.out.1,HBT.out,by rw [List.length_take];omega,HI.out.2⟩
 obtain ⟨ao,n,cap,zs,rfl,HI⟩:=hcut
 have HRZ:Hid (Rd .u8 wc (.slice ao n cap) zs):=Rd.of_own HI.out.1
 have RD:Hid (Calls Tryz.prog 29 #[.int .i64 enc,.slice ao n cap] wc fun e w'=>∃ v',e=.returned (.tuple #[v',.int .i64 0])∧Hid (OwnI w' wc.heap.size v' (Cx.dec enc zs))∧Below wc.heap.size wc w'):=by
  refine (rDecode_any enc _ zs wc HRZ.out HI.out.2.1 (by have:=HI.out.2.2.1;omega)).mono fun e w' ⟨v',k1,k2,k3⟩=>⟨v',?_,?_,k3⟩
  ·rw [k1];unfold Cx.er;rw [if_pos HKN.out]
  ·rw [Cx.dd_yes enc zs HKN.out] at k2;exact k2
 have OP:Hid (∀ w',Below wc.heap.size wc w'→Calls Tryz.prog 30 #[.int .i64 enc,.slice ao n cap,.int .i64 65536] w' fun e w''=>OpR enc 65536 zs w' e w''):=fun w' hb=>Open_good enc 65536 _ zs w' (HRZ.out.ext hb) HI.out.2.1 (by unfold opE;rw [if_pos HKN.out,if_neg (by omega),if_neg (by have:=HI.out.2.2.1;omega)])
 have HBC:=zh HI.out.2.2.2
 clear c0 c1
 go_upto_region 9 with (first
  | (go_at_call 29;refine RD.out.mono ?_;rintro e w2 ⟨v2,rfl,ho2,hb⟩;obtain ⟨a2,k2,hv2⟩:=ho2.out.form;generalize hn2:(Cx.dec enc zs).length=n2 at hv2;clear hn2;subst hv2;have HO2:=zh ho2.out;have HB2:=zh hb;clear ho2 hb;(try dsimp only))
  | (go_at_call 30;refine (OP.out _ HB2.out).mono ?_;rintro e w3 ⟨t,ps,rfl,hop,hb⟩;have HOP:=zh hop;have HB3:=zh hb;clear hop hb;(try dsimp only)))
 have HW3:=zh (zxt (zxt HBC.out HB2.out) HB3.out)
 have HX:=zh (HC.out w3 HW3.out).2.2
 obtain ⟨_,c0,c1,fz⟩:=cells2 HX.out
 go_wp2_with fail
 refine bodyPost_ret (v:=.tuple #[.agg #[.pointer (some ⟨t,0,none⟩),.slice a2 n2 k2],.bool true]) (by simp [results,Tryz.results5,go_sem,c0,c1]) rfl ⟨t,.slice a2 n2 k2,rfl,?_,?_⟩
 ·obtain ⟨h1,g1⟩:=set1 HX.out 0 (.pointer (some ⟨t,0,none⟩))
  obtain ⟨h2,g2⟩:=set1 h1 1 (.slice a2 n2 k2)
  have hk:Kps (fun k=>k=w.heap.size + 1) w3 ((w3.setCell ⟨w.heap.size + 1,0,none⟩ (.pointer (some ⟨t,0,none⟩))).setCell ⟨w.heap.size + 1,1,none⟩ (.slice a2 n2 k2)):=Kps.grown (zgt g1 g2) fun j e _=>by cases e;rfl
  have hty:Typ 29 w3 (w.heap.size + 1):=⟨_,HX.out⟩
  have htz:Tz enc w3 t (Cx.dec enc zs):=⟨zs,ps,HOP.out.1,by rw [← sh_fst enc,HOP.out.2.1,ctn_fst]⟩
  have hle:w.heap.size≤wc.heap.size:=(zxt HB0.out HBC.out).size
  refine ⟨enc,Cx.dec enc zs,HEN.out,((HO2.out.ext HB3.out).oth hk hty (by decide)).le hle,htz.other hk hty (by decide) (by decide) (fun e=>?_),?_,Nat.le_trans (Nat.le_trans hle HB2.out.size) HOP.out.2.2⟩
  ·rw [e] at hty
   exact absurd (Typ.uniq hty htz.typ) (by decide)
  ·unfold ln
   rw [(Cx.back_all enc HEN.out _ zs (Nat.le_refl _) HI.out.2.1).1]
   exact HI.out.2.2.1
 ·obtain ⟨h1,g1⟩:=set1 HX.out 0 (.pointer (some ⟨t,0,none⟩))
  obtain ⟨h2,g2⟩:=set1 h1 1 (.slice a2 n2 k2)
  exact zbp (zxt HB0.out HW3.out) (zxt HB0.out HW3.out).size (zgt g1 g2) (by omega)
open Go.RowKit
structure AlI (enc:Int) (A:List Int) (w:World) (ao:Option Addr) (n cap:Nat) (i:Nat) (f:Int) (wr:World):Prop where
 n':(n:Int)=bAt enc A i
 f':f=skA enc A (bAt enc A i)
 ok:A[i]?=some 10→i=0∨A[i - 1]?≠some 13
 own:OwnL wr w.heap.size (.slice ao n cap) (lns enc A n)
 bel:Below w.heap.size w wr
theorem AlI.fits {enc:Int} {A:List Int} {w:World} {ao:Option Addr} {n cap:Nat} {i:Nat} {f:Int} {wr:World} (h:AlI enc A w ao n cap i f wr) (hA:A.length≤65536) (hi:i≤A.length):n≤65536∧0≤f∧f≤65536:=by
 have h1:=bAt_lip enc A i
 have h2:=h.n'
 have h3:=skA_in enc A (bAt enc A i) (bAt_nn enc A i) (bAt_le enc A i)
 rw [← h.f'] at h3
 omega
theorem AlI.push {enc:Int} {A:List Int} {w:World} {ao:Option Addr} {n cap:Nat} {i:Nat} {f:Int} {wr:World} (h:AlI enc A w ao n cap i f wr) (i':Nat) (y:Ln) (h1:bAt enc A i'=bAt enc A i + 1) (h2:skA enc A (bAt enc A i + 1)=(i':Nat))
  (h3:lnK enc A (bAt enc A i)=y) (h4:A[i']?=some 10→A[i' - 1]?≠some 13) {a8:Option Addr} {n8 c8:Nat} {w8:World} (ho:OwnL w8 w.heap.size (.slice a8 n8 c8) (lns enc A n ++ [y])) (hn:(lns enc A n ++ [y]).length=n8) (hb:Below w.heap.size w w8):AlI enc A w a8 n8 c8 i' (i':Nat) w8:=by
 rw [List.length_append,lns_len] at hn
 subst hn
 refine ⟨?_,by rw [h1,h2],fun e=>.inr (h4 e),?_,hb⟩
 ·have:=h.n'
  show ((n + 1:Nat):Int)=_
  rw [h1]
  omega
 ·show OwnL w8 w.heap.size (.slice a8 (n + 1) c8) (lns enc A (n + 1))
  rw [lns_succ,h.n',h3]
  exact ho
theorem AlI.last {enc:Int} {A:List Int} {w:World} {ao:Option Addr} {n cap:Nat} {f:Int} {wr:World} (h:AlI enc A w ao n cap A.length f wr) {a8:Option Addr} {n8 c8:Nat} {w8:World} (ho:OwnL w8 w.heap.size (.slice a8 n8 c8) (lns enc A n ++ [⟨f,A.length,A.length,0⟩])) (hn:(lns enc A n ++ [(⟨f,A.length,A.length,0⟩:Ln)]).length=n8):(n8:Int)=(spn enc A).b + 1∧OwnL w8 w.heap.size (.slice a8 n8 c8) (lns enc A n8):=by
 rw [List.length_append,lns_len] at hn
 subst hn
 have e:=h.n'
 have e2:=h.f'
 rw [bAt_len enc A _ (Nat.le_refl _)] at e e2
 refine ⟨by show ((n + 1:Nat):Int)=_;omega,?_⟩
 show OwnL w8 w.heap.size (.slice a8 (n + 1) c8) (lns enc A (n + 1))
 rw [lns_succ,e]
 unfold lnK
 rw [if_pos rfl,← e2]
 exact ho
set_option maxHeartbeats 8000000 in
theorem rAll_any (enc:Int) (va:Value) (A:List Int) (w:World) (hA:Rd .i64 w va A) (hl:A.length≤65536) :
  Calls Tryz.prog 21 #[va] w fun e w'=>∃ (ao:Option Addr) (n cap:Nat),e=.returned (.tuple #[.slice ao n cap,.int .i64 (cnt enc A)])∧Hid ((n:Int)=(spn enc A).b + 1∧OwnL w' w.heap.size (.slice ao n cap) (lns enc A n))∧Below w.heap.size w w':=by
 obtain ⟨aa,ca,rfl,ha1,ha2,_⟩:=id hA
 have HA:=zh hA
 clear hA
 have HI0:Hid (AlI enc A w none 0 0 0 0 w):=⟨by rw [bAt_zero];rfl,by rw [bAt_zero,skA_zero],fun _=>.inl rfl,OwnL.nil _ _,Below.refl _ _⟩
 go_enter Tryz.func21,Tryz.ntmps21
 go_wp2_with fail
 go_loopg [4,5,6] A.length (fun gk lv fv p wr=>∃ (i:Nat) (ao:Option Addr) (n cap:Nat) (f:Int),i≤A.length∧i + gk=A.length∧p=.int .i64 (i:Nat)∧fv=.int .i64 f∧lv=.slice ao n cap∧Hid (AlI enc A w ao n cap i f wr))
 case atStart=>exact ⟨0,none,0,0,0,by omega,by omega,rfl,rfl,rfl,HI0.out⟩
 case round =>
  obtain ⟨i,ao,n,cap,f,hil,hig,rfl,rfl,rfl,HI⟩:=hrel
  obtain ⟨hn1,hf0,hf1⟩:=HI.out.fits hl hil
  have HG:=zh hig
  clear hig
  by_cases hlt:i < A.length
  ·have hltI:(i:Int) < (A.length:Int):=by omega
   obtain ⟨b,o,rfl,hbl,ci,_⟩:=rd_at (HA.out.ext HI.out.bel) i hlt
   obtain ⟨x,hx⟩:∃ x,A[i]?=some x:=⟨_,List.getElem?_eq_getElem hlt⟩
   rw [hx,Option.getD_some] at ci
   have HX:=zh hx
   clear hx
   have hNX:Hid (∀ y,A[i + 1]?=some y→wr.cell? ⟨b,o + (i + 1),none⟩=some (.int .i64 y)):=fun y hy=>by
    obtain ⟨b',o',e1,_,c',_⟩:=rd_at (HA.out.ext HI.out.bel) (i + 1) (List.getElem?_eq_some_iff.1 hy).1
    cases e1
    rw [hy,Option.getD_some] at c'
    exact c'
   have hwi:IntKind.i64.wrap ((i:Int) + 1)=((i + 1:Nat):Int):=by rw [IntKind.wrap_i64];omega
   have hwj:IntKind.i64.wrap ((i:Int) + 2)=((i + 2:Nat):Int):=by rw [IntKind.wrap_i64];omega
   by_cases h10:x=10
   ·subst h10
    obtain ⟨q1,q2,q3,q4⟩:=ln_lf (enc:=enc) HX.out (HI.out.ok HX.out)
    rw [← HI.out.f'] at q4
    have HP:Hid (∀ a8 n8 c8 w8,OwnL w8 w.heap.size (.slice a8 n8 c8) (lns enc A n ++ [⟨f,(i:Nat),(i + 1:Nat),1⟩])→(lns enc A n ++ [(⟨f,(i:Nat),(i + 1:Nat),1⟩:Ln)]).length=n8→Below w.heap.size w w8→AlI enc A w a8 n8 c8 (i + 1) ((i + 1:Nat):Int) w8):=fun a8 n8 c8 w8 o8 e8 b8=>HI.out.push (i + 1) _ q1 q2 q4 (fun _=>by rw [show i + 1 - 1=i by omega,HX.out];decide) o8 e8 b8
    clear q1 q2 q3 q4
    have HOA:Hid (OwnL (wr.alloc (.cells #[.int .i64 f,.int .i64 (i:Nat),.int .i64 (i + 1:Nat),.int .i64 1] 69)) w.heap.size (.slice ao n cap) (lns enc A n)):=HI.out.own.ext (zxa (Below.refl _ _) _)
    have HNW:=zh (lit4 wr 69 ⟨f,(i:Nat),(i + 1:Nat),1⟩)
    have HZ:=zh (show w.heap.size≤(wr.alloc (.cells #[.int .i64 f,.int .i64 (i:Nat),.int .i64 (i + 1:Nat),.int .i64 1] 69)).heap.size from Nat.le_trans HI.out.bel.size (by simp))
    have HLN:=zh (show (lns enc A n).length + 1≤1099511627776 by rw [lns_len];omega)
    have HBI:=zh HI.out.bel
    go_wp2_with (at_builtin;refine wpl_line rfl _ _ 62 rfl w.heap.size Tryz.info_line Tryz.underlying62 (.slice ao n cap) (lns enc A n) rfl HOA.out ⟨f,(i:Nat),(i + 1:Nat),1⟩ wr.heap.size rfl HNW.out HLN.out HZ.out ?_;intro v8 w8 ho8 hb8;obtain ⟨a8,c8,hv8⟩:=ho8.form;generalize hn8:(lns enc A n ++ [(⟨f,(i:Nat),(i + 1:Nat),1⟩:Ln)]).length=n8 at hv8;subst hv8;have HP8:=zh (HP.out a8 n8 c8 w8 ho8 hn8 (HBI.out.trans ((zxa (Below.refl wr.heap.size wr) _).mono HBI.out.size |>.trans hb8)));clear ho8 hb8 hn8)
    go_roundg (A.length - (i + 1))
    case rel=>exact ⟨i + 1,a8,n8,c8,_,by omega,by omega,by go_num,rfl,rfl,HP8.out⟩
    case measure=>have:=HG.out;omega
   ·by_cases h13:x=13
    ·subst h13
     by_cases hn:i + 1 < A.length
     ·have hnI:((i + 1:Nat):Int) < (A.length:Int):=by omega
      obtain ⟨y,hy⟩:∃ y,A[i + 1]?=some y:=⟨_,List.getElem?_eq_getElem hn⟩
      have cy:=hNX.out y hy
      have HY:=zh hy
      clear hy
      by_cases hy10:y=10
      ·subst hy10
       have hwk:IntKind.i64.wrap (((i + 1:Nat):Int) + 1)=((i + 2:Nat):Int):=by rw [IntKind.wrap_i64];omega
       obtain ⟨q1,q2,q3,q4⟩:=ln_crlf (enc:=enc) HX.out HY.out
       rw [← HI.out.f'] at q4
       have HP:Hid (∀ a8 n8 c8 w8,OwnL w8 w.heap.size (.slice a8 n8 c8) (lns enc A n ++ [⟨f,(i:Nat),(i + 2:Nat),2⟩])→(lns enc A n ++ [(⟨f,(i:Nat),(i + 2:Nat),2⟩:Ln)]).length=n8→Below w.heap.size w w8→AlI enc A w a8 n8 c8 (i + 2) ((i + 2:Nat):Int) w8):=fun a8 n8 c8 w8 o8 e8 b8=>HI.out.push (i + 2) _ q1 q2 q4 (fun _=>by rw [show i + 2 - 1=i + 1 by omega,HY.out];decide) o8 e8 b8
       clear q1 q2 q3 q4
       have HOA:Hid (OwnL (wr.alloc (.cells #[.int .i64 f,.int .i64 (i:Nat),.int .i64 (i + 2:Nat),.int .i64 2] 69)) w.heap.size (.slice ao n cap) (lns enc A n)):=HI.out.own.ext (zxa (Below.refl _ _) _)
       have HNW:=zh (lit4 wr 69 ⟨f,(i:Nat),(i + 2:Nat),2⟩)
       have HZ:=zh (show w.heap.size≤(wr.alloc (.cells #[.int .i64 f,.int .i64 (i:Nat),.int .i64 (i + 2:Nat),.int .i64 2] 69)).heap.size from Nat.le_trans HI.out.bel.size (by simp))
       have HLN:=zh (show (lns enc A n).length + 1≤1099511627776 by rw [lns_len];omega)
       have HBI:=zh HI.out.bel
       go_wp2_with (at_builtin;refine wpl_line rfl _ _ 62 rfl w.heap.size Tryz.info_line Tryz.underlying62 (.slice ao n cap) (lns enc A n) rfl HOA.out ⟨f,(i:Nat),(i + 2:Nat),2⟩ wr.heap.size rfl HNW.out HLN.out HZ.out ?_;intro v8 w8 ho8 hb8;obtain ⟨a8,c8,hv8⟩:=ho8.form;generalize hn8:(lns enc A n ++ [(⟨f,(i:Nat),(i + 2:Nat),2⟩:Ln)]).length=n8 at hv8;subst hv8;have HP8:=zh (HP.out a8 n8 c8 w8 ho8 hn8 (HBI.out.trans ((zxa (Below.refl wr.heap.size wr) _).mono HBI.out.size |>.trans hb8)));clear ho8 hb8 hn8)
       go_roundg (A.length - (i + 2))
       case rel=>exact ⟨i + 2,a8,n8,c8,_,by omega,by omega,by go_num,rfl,rfl,HP8.out⟩
       case measure=>have:=HG.out;omega
      ·have HNE:Hid (A[i + 1]?≠some 10):=by unfold Hid;rw [HY.out];intro e;exact hy10 (Option.some.inj e)
       obtain ⟨q1,q2,q3,q4⟩:=ln_cr (enc:=enc) HX.out HNE.out
       rw [← HI.out.f'] at q4
       have HP:Hid (∀ a8 n8 c8 w8,OwnL w8 w.heap.size (.slice a8 n8 c8) (lns enc A n ++ [⟨f,(i:Nat),(i + 1:Nat),3⟩])→(lns enc A n ++ [(⟨f,(i:Nat),(i + 1:Nat),3⟩:Ln)]).length=n8→Below w.heap.size w w8→AlI enc A w a8 n8 c8 (i + 1) ((i + 1:Nat):Int) w8):=fun a8 n8 c8 w8 o8 e8 b8=>HI.out.push (i + 1) _ q1 q2 q4 (fun e=>absurd e HNE.out) o8 e8 b8
       clear q1 q2 q3 q4
       have HOA:Hid (OwnL (wr.alloc (.cells #[.int .i64 f,.int .i64 (i:Nat),.int .i64 (i + 1:Nat),.int .i64 3] 69)) w.heap.size (.slice ao n cap) (lns enc A n)):=HI.out.own.ext (zxa (Below.refl _ _) _)
       have HNW:=zh (lit4 wr 69 ⟨f,(i:Nat),(i + 1:Nat),3⟩)
       have HZ:=zh (show w.heap.size≤(wr.alloc (.cells #[.int .i64 f,.int .i64 (i:Nat),.int .i64 (i + 1:Nat),.int .i64 3] 69)).heap.size from Nat.le_trans HI.out.bel.size (by simp))
       have HLN:=zh (show (lns enc A n).length + 1≤1099511627776 by rw [lns_len];omega)
       have HBI:=zh HI.out.bel
       go_wp2_with (at_builtin;refine wpl_line rfl _ _ 62 rfl w.heap.size Tryz.info_line Tryz.underlying62 (.slice ao n cap) (lns enc A n) rfl HOA.out ⟨f,(i:Nat),(i + 1:Nat),3⟩ wr.heap.size rfl HNW.out HLN.out HZ.out ?_;intro v8 w8 ho8 hb8;obtain ⟨a8,c8,hv8⟩:=ho8.form;generalize hn8:(lns enc A n ++ [(⟨f,(i:Nat),(i + 1:Nat),3⟩:Ln)]).length=n8 at hv8;subst hv8;have HP8:=zh (HP.out a8 n8 c8 w8 ho8 hn8 (HBI.out.trans ((zxa (Below.refl wr.heap.size wr) _).mono HBI.out.size |>.trans hb8)));clear ho8 hb8 hn8)
       go_roundg (A.length - (i + 1))
       case rel=>exact ⟨i + 1,a8,n8,c8,_,by omega,by omega,by go_num,rfl,rfl,HP8.out⟩
       case measure=>have:=HG.out;omega
     ·have hnI:¬ ((i + 1:Nat):Int) < (A.length:Int):=by omega
      have HNE:Hid (A[i + 1]?≠some 10):=by unfold Hid;rw [List.getElem?_eq_none (by omega)];simp
      obtain ⟨q1,q2,q3,q4⟩:=ln_cr (enc:=enc) HX.out HNE.out
      rw [← HI.out.f'] at q4
      have HP:Hid (∀ a8 n8 c8 w8,OwnL w8 w.heap.size (.slice a8 n8 c8) (lns enc A n ++ [⟨f,(i:Nat),(i + 1:Nat),3⟩])→(lns enc A n ++ [(⟨f,(i:Nat),(i + 1:Nat),3⟩:Ln)]).length=n8→Below w.heap.size w w8→AlI enc A w a8 n8 c8 (i + 1) ((i + 1:Nat):Int) w8):=fun a8 n8 c8 w8 o8 e8 b8=>HI.out.push (i + 1) _ q1 q2 q4 (fun e=>absurd e HNE.out) o8 e8 b8
      clear q1 q2 q3 q4
      have HOA:Hid (OwnL (wr.alloc (.cells #[.int .i64 f,.int .i64 (i:Nat),.int .i64 (i + 1:Nat),.int .i64 3] 69)) w.heap.size (.slice ao n cap) (lns enc A n)):=HI.out.own.ext (zxa (Below.refl _ _) _)
      have HNW:=zh (lit4 wr 69 ⟨f,(i:Nat),(i + 1:Nat),3⟩)
      have HZ:=zh (show w.heap.size≤(wr.alloc (.cells #[.int .i64 f,.int .i64 (i:Nat),.int .i64 (i + 1:Nat),.int .i64 3] 69)).heap.size from Nat.le_trans HI.out.bel.size (by simp))
      have HLN:=zh (show (lns enc A n).length + 1≤1099511627776 by rw [lns_len];omega)
      have HBI:=zh HI.out.bel
      go_wp2_with (at_builtin;refine wpl_line rfl _ _ 62 rfl w.heap.size Tryz.info_line Tryz.underlying62 (.slice ao n cap) (lns enc A n) rfl HOA.out ⟨f,(i:Nat),(i + 1:Nat),3⟩ wr.heap.size rfl HNW.out HLN.out HZ.out ?_;intro v8 w8 ho8 hb8;obtain ⟨a8,c8,hv8⟩:=ho8.form;generalize hn8:(lns enc A n ++ [(⟨f,(i:Nat),(i + 1:Nat),3⟩:Ln)]).length=n8 at hv8;subst hv8;have HP8:=zh (HP.out a8 n8 c8 w8 ho8 hn8 (HBI.out.trans ((zxa (Below.refl wr.heap.size wr) _).mono HBI.out.size |>.trans hb8)));clear ho8 hb8 hn8)
      go_roundg (A.length - (i + 1))
      case rel=>exact ⟨i + 1,a8,n8,c8,_,by omega,by omega,by go_num,rfl,rfl,HP8.out⟩
      case measure=>have:=HG.out;omega
    ·have HS:Hid (AlI enc A w ao n cap (i + 1) f wr):=by
      have e:=ln_no (enc:=enc) HX.out h10 h13
      exact ⟨by rw [e];exact HI.out.n',by rw [e];exact HI.out.f',fun _=>.inr (by rw [show i + 1 - 1=i by omega,HX.out];intro e;exact h13 (Option.some.inj e)),HI.out.own,HI.out.bel⟩
     go_wp2_with fail
     go_roundg (A.length - (i + 1))
     case rel=>exact ⟨i + 1,ao,n,cap,f,by omega,by omega,by go_num,rfl,rfl,HS.out⟩
     case measure=>have:=HG.out;omega
  ·obtain rfl:i=A.length:=by omega
   have hnl:¬ (A.length:Int) < (A.length:Int):=by omega
   have HFB:Hid (f=skA enc A (spn enc A).b∧(n:Int)=(spn enc A).b):=by
    have h1:=HI.out.f'
    have h2:=HI.out.n'
    rw [bAt_len enc A _ (Nat.le_refl _)] at h1 h2
    exact ⟨h1,h2⟩
   have HP:Hid (∀ a8 n8 c8 w8,OwnL w8 w.heap.size (.slice a8 n8 c8) (lns enc A n ++ [⟨f,(A.length:Nat),(A.length:Nat),0⟩])→(lns enc A n ++ [(⟨f,(A.length:Nat),(A.length:Nat),0⟩:Ln)]).length=n8→((n8:Int)=(spn enc A).b + 1∧OwnL w8 w.heap.size (.slice a8 n8 c8) (lns enc A n8))):=fun a8 n8 c8 w8 o8 e8=>HI.out.last o8 e8
   have HOA:Hid (OwnL (wr.alloc (.cells #[.int .i64 f,.int .i64 (A.length:Nat),.int .i64 (A.length:Nat),.int .i64 0] 69)) w.heap.size (.slice ao n cap) (lns enc A n)):=HI.out.own.ext (zxa (Below.refl _ _) _)
   have HNW:=zh (lit4 wr 69 ⟨f,(A.length:Nat),(A.length:Nat),0⟩)
   have HBI:=zh HI.out.bel
   have HZ:=zh (show w.heap.size≤(wr.alloc (.cells #[.int .i64 f,.int .i64 (A.length:Nat),.int .i64 (A.length:Nat),.int .i64 0] 69)).heap.size from Nat.le_trans HBI.out.size (by simp))
   have HLN:=zh (show (lns enc A n).length + 1≤1099511627776 by rw [lns_len];omega)
   go_upto_region 18 with (at_builtin;refine wpl_line rfl _ _ 62 rfl w.heap.size Tryz.info_line Tryz.underlying62 (.slice ao n cap) (lns enc A n) rfl HOA.out ⟨f,(A.length:Nat),(A.length:Nat),0⟩ wr.heap.size rfl HNW.out HLN.out HZ.out ?_;intro v8 w8 ho8 hb8;obtain ⟨a8,c8,hv8⟩:=ho8.form;generalize hn8:(lns enc A n ++ [(⟨f,(A.length:Nat),(A.length:Nat),0⟩:Ln)]).length=n8 at hv8;subst hv8;have HP8:=zh (HP.out a8 n8 c8 w8 ho8 hn8);have HB8:=zh (HBI.out.trans ((zxa (Below.refl wr.heap.size wr) _).mono HBI.out.size |>.trans hb8));clear ho8 hb8 hn8)
   by_cases h0:(A.length:Int)=0
   ·have HC:=zh (show cnt enc A=(n8:Nat) by unfold cnt;rw [if_pos (.inl (by omega)),HP8.out.1])
    go_wp2_with fail
    go_ret2
    exact ⟨a8,n8,c8,by rw [HC.out];rfl,HP8.out,HB8.out⟩
   ·have hne:A≠[]:=fun e=>h0 (by rw [e];rfl)
    by_cases h1:f < (A.length:Int)
    ·have HC:=zh (show cnt enc A=(n8:Nat) by unfold cnt;rw [if_pos (.inr (by rw [← HFB.out.1];exact h1)),HP8.out.1])
     go_wp2_with fail
     go_ret2
     exact ⟨a8,n8,c8,by rw [HC.out];rfl,HP8.out,HB8.out⟩
    ·have HC:=zh (show cnt enc A=(n:Nat) by unfold cnt;rw [if_neg (by rw [← HFB.out.1];omega),HFB.out.2])
     go_wp2_with fail
     go_ret2
     exact ⟨a8,n8,c8,by rw [HC.out];rfl,HP8.out,HB8.out⟩
open Go.RowKit
theorem cells4 {w:World} {b:Nat} {T:TypeId} {v0 v1 v2 v3:Value} (h:w.heap[b]?=some (.cells #[v0,v1,v2,v3] T (0,0))):b < w.heap.size∧w.cell? ⟨b,0,none⟩=some v0∧w.cell? ⟨b,1,none⟩=some v1∧w.cell? ⟨b,2,none⟩=some v2∧w.cell? ⟨b,3,none⟩=some v3∧(∀ i,w.frozen? ⟨b,i,none⟩=false):=by
 refine ⟨(Array.getElem?_eq_some_iff.1 h).1,?_,?_,?_,?_,fun i=>by simp [World.frozen?,h]⟩ <;> (rw [cell_of_row _ _ _ _ _ _ h];rfl)
theorem below4 {w w0 w1:World} {T:TypeId} {cs:Array Value} (hb0:Below w.heap.size w w0) (hg:w1.heap[w.heap.size]?=some (.cells cs T (0,0))) (hb:Below w0.heap.size w0 w1) (v0 v1 v2 v3:Value):Below w.heap.size w ((((w1.setCell ⟨w.heap.size,0,none⟩ v0).setCell ⟨w.heap.size,1,none⟩ v1).setCell ⟨w.heap.size,2,none⟩ v2).setCell ⟨w.heap.size,3,none⟩ v3):=by
 obtain ⟨h1,g1⟩:=set1 hg 0 v0
 obtain ⟨h2,g2⟩:=set1 h1 1 v1
 obtain ⟨h3,g3⟩:=set1 h2 2 v2
 obtain ⟨_,g4⟩:=set1 h3 3 v3
 exact zbp (zxt hb0 hb) (zxt hb0 hb).size (zgt (zgt (zgt g1 g2) g3) g4) (Nat.le_refl _)
def lnA (enc:Int) (A:List Int) (k:Int):Ln:=if k < 0∨(spn enc A).b < k then ⟨0,0,0,0⟩ else lnK enc A k
def lnE (enc:Int) (A:List Int) (k:Int):Int:=if k < 0∨(spn enc A).b < k then 2 else 0
open Go.RowKit
end Go.Proofs.YtgfdfajblidleaaGreat.P
