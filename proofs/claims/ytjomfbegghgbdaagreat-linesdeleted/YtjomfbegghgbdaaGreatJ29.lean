import Derived.Test.YtjomfbegghgbdaaGreatJ00
import Derived.Test.YtjomfbegghgbdaaGreatJ12
import Derived.Test.YtjomfbegghgbdaaGreatJ28
import Derived.Deep.RegionHeld3
import Derived.OrdersHeld
import Derived.Deep.LoopGhost
import Derived.Deep.CutRange
import Derived.Deep.CutBlock
namespace Go.Proofs.YtjomfbegghgbdaaGreat.P
open Go.RowKit
theorem OwnI.le {w:World} {base base':Nat} {v:Value} {zs:List Int} (h:OwnI w base v zs) (hb:base'≤base):OwnI w base' v zs:=by
 obtain ⟨h1,h2⟩:=h
 refine ⟨h1,?_⟩
 rcases h2 with h2 | ⟨g,cap,cur,hv,hg,r⟩
 ·exact .inl h2
 ·exact .inr ⟨g,cap,cur,hv,Nat.le_trans hb hg,r⟩
theorem OwnI.oth {w w':World} {base t:Nat} {v:Value} {zs:List Int} {T:TypeId} (h:OwnI w base v zs) (hk:Kps (fun k=>k=t) w w') (ht:Typ T w t) (hT:T≠3):OwnI w' base v zs:=by
 obtain ⟨h1,h2⟩:=id h
 refine ⟨h1,?_⟩
 rcases h2 with h2 | ⟨k,cap,cur,hv,hb,hgg,r⟩
 ·exact .inl h2
 ·refine .inr ⟨k,cap,cur,hv,hb,(hk.same k (Array.getElem?_eq_some_iff.1 hgg).1 (fun e=>?_)).trans hgg,r⟩
  subst e
  exact hT (Typ.uniq ht ⟨_,hgg⟩)
theorem OwnI.rdi {w:World} {base:Nat} {v:Value} {zs:List Int} (h:OwnI w base v zs):Rd .i64 w v zs:=Rd.of_own h
structure BtW (enc:Int) (w:World) (g t:Nat) (A:List Int) (m:Nat):Prop where
 ex:∃ v,w.heap[g]?=some (.cells #[.pointer (some ⟨t,0,none⟩),v] 29 (0,0))∧OwnI w 0 v A
 tz:Tz enc w t A
 bd:ln enc A≤50000 + 64 * m
 en:Cx.En enc
theorem BtW.lt {enc:Int} {w:World} {g t:Nat} {A:List Int} {m:Nat} (h:BtW enc w g t A m):g < w.heap.size:=by obtain ⟨_,h1,_⟩:=h.ex;exact (Array.getElem?_eq_some_iff.1 h1).1
theorem BtW.typ {enc:Int} {w:World} {g t:Nat} {A:List Int} {m:Nat} (h:BtW enc w g t A m):Typ 29 w g:=by obtain ⟨_,h1,_⟩:=h.ex;exact ⟨_,h1⟩
theorem BtW.ne {enc:Int} {w:World} {g t:Nat} {A:List Int} {m:Nat} (h:BtW enc w g t A m):g≠t:=fun e=>by
 subst e
 exact absurd (Typ.uniq h.typ h.tz.typ) (by decide)
theorem BtW.ext {enc:Int} {w w':World} {g t:Nat} {A:List Int} {m:Nat} (h:BtW enc w g t A m) (hb:Below w.heap.size w w'):BtW enc w' g t A m:=by
 obtain ⟨v,h1,h2⟩:=h.ex
 exact ⟨⟨v,(hb.block g (Array.getElem?_eq_some_iff.1 h1).1).trans h1,h2.ext hb⟩,h.tz.ext hb,h.bd,h.en⟩
theorem cells2 {w:World} {b:Nat} {T:TypeId} {v0 v1:Value} (h:w.heap[b]?=some (.cells #[v0,v1] T (0,0))):b < w.heap.size∧w.cell? ⟨b,0,none⟩=some v0∧w.cell? ⟨b,1,none⟩=some v1∧(∀ i,w.frozen? ⟨b,i,none⟩=false):=by
 refine ⟨(Array.getElem?_eq_some_iff.1 h).1,?_,?_,fun i=>by simp [World.frozen?,h]⟩ <;> (rw [cell_of_row _ _ _ _ _ _ h];rfl)
theorem BtW.put {enc:Int} {w:World} {g t:Nat} {A:List Int} {m:Nat} {v v':Value} (hg:w.heap[g]?=some (.cells #[.pointer (some ⟨t,0,none⟩),v] 29 (0,0))) (ho:OwnI w 0 v' A) (ht:Tz enc w t A) (hgt:g≠t) (hb:ln enc A≤50000 + 64 * m) (he:Cx.En enc) :
  BtW enc (w.setCell ⟨g,1,none⟩ v') g t A m∧Kps (fun k=>k=g) w (w.setCell ⟨g,1,none⟩ v'):=by
 obtain ⟨h1,h2⟩:=set1 hg 1 v'
 have hk:Kps (fun k=>k=g) w (w.setCell ⟨g,1,none⟩ v'):=Kps.grown h2 fun j e _=>by cases e;rfl
 exact ⟨⟨⟨v',by rw [h1];rfl,ho.oth hk ⟨_,hg⟩ (by decide)⟩,ht.other hk ⟨_,hg⟩ (by decide) (by decide) hgt,hb,he⟩,hk⟩
set_option maxRecDepth 100000 in
set_option maxHeartbeats 8000000 in
theorem edited_any (enc:Int) (w:World) (g t:Nat) (A:List Int) (m:Nat) (x n:Int) (vp:Value) (put:List Int) (h:BtW enc w g t A m) (hm:m≤199) (hx:-9223372036854775808≤x∧x≤9223372036854775807) (hn:-9223372036854775808≤n∧n≤9223372036854775807) (hp:Rd .i64 w vp put) :
  Calls Tryz.prog 39 #[.pointer (some ⟨g,0,none⟩),.int .i64 x,.int .i64 n,vp] w fun e w'=>e=.returned (.bool true)∧Hid (∃ A',BtW enc w' g t A' (m + 1))∧Kps (fun k=>k=g∨k=t) w w':=by
 obtain ⟨v,hg,ho⟩:=h.ex
 obtain ⟨aa,ca,hv⟩:=ho.form
 subst hv
 have hlen:=h.tz.len
 have HW:=hidIt h
 have HG:=hidIt hg
 have HO:=hidIt ho
 have hgt:=h.ne
 obtain ⟨hgl,_,cg1,_⟩:=cells2 hg
 have PL:=hidIt (plain_any vp put w hp)
 have WI:=hidIt (within_any x A.length w hx (by omega))
 have HNR:=hidIt hn
 clear hp h hg ho hx hn
 go_enter Tryz.func39,Tryz.ntmps39
 go_upto_region 2 with (go_at_call 22;refine WI.out.mono ?_;rintro e w1 ⟨f,rfl,hf,hw1⟩;rw [hw1];clear hw1;(try dsimp only))
 have hws:IntKind.i64.wrap ((A.length:Int) - (f:Int))=((A.length - f:Nat):Int):=by rw [IntKind.wrap_i64];omega
 have WI2:=hidIt (within_any n (A.length - f) w HNR.out (by omega))
 have hwa:∀ d:Nat,d≤A.length - f→IntKind.i64.wrap ((f:Int) + (d:Int))=((f + d:Nat):Int):=fun d hd=>by rw [IntKind.wrap_i64];omega
 go_upto_region 3 with (go_at_call 22;refine WI2.out.mono ?_;rintro e w2 ⟨d,rfl,hd,hw2⟩;rw [hw2];clear hw2;have hwd:=hwa d hd;(try dsimp only))
 clear hwa hws
 go_upto_region 4 with (go_at_call 69;refine PL.out.mono ?_;rintro e w3 ⟨v3,rfl,⟨ps,ho3⟩,hb3⟩;have HB3:=hidIt hb3;clear hb3;obtain ⟨a3,c3,hv3⟩:=ho3.out.1.form;generalize hn3:ps.length=n3 at hv3;clear hn3;subst hv3;have HP3:=hidIt ho3.out;clear ho3;(try dsimp only))
 have HW3:=hidIt (HW.out.ext HB3.out)
 obtain ⟨va,hg3,ho3⟩:=HW3.out.ex
 have HG3:Hid (w3.heap[g]?=some (.cells #[.pointer (some ⟨t,0,none⟩),.slice aa A.length ca] 29 (0,0))):=(HB3.out.block g hgl).trans HG.out
 have HGL:=hidIt HW3.out.lt
 have HFD:=hidIt (show f≤f + d∧f + d≤A.length from ⟨by omega,by omega⟩)
 have CPY:Hid (∀ w',Below w3.heap.size w3 w'→Calls Tryz.prog 20 #[.slice a3 n3 c3] w' fun e w''=>∃ v',e=.returned v'∧Hid (OwnI w'' w'.heap.size v' ps)∧Below w'.heap.size w' w''):=fun w' hb=>copied_any _ ps w' (HP3.out.1.ext hb).rdi (by have:=HP3.out.2.1;omega)
 have CHG:Hid (∀ w' ve,Below w3.heap.size w3 w'→EdR w' ve [((f:Int),((f + d:Nat):Int),ps)]→Calls Tryz.prog 34 #[.pointer (some ⟨t,0,none⟩),ve] w' fun e w''=>e=.returned (.int .i64 0)∧Tz enc w'' t (spl A f (f + d) ps)∧Kps (fun k=>k=t) w' w''):=fun w' ve hb he=>Change_z enc w' t A ve f (f + d) ps (HW3.out.tz.ext hb) he HFD.out.1 HFD.out.2 (fun a ha=>fits_pln HW3.out.en (HP3.out.2.2 a ha)) (by have:=HW3.out.bd;have:=HP3.out.2.1;omega)
 have HCG:Hid (∀ w',Below w3.heap.size w3 w'→w'.cell? ⟨g,0,none⟩=some (.pointer (some ⟨t,0,none⟩))):=fun w' hb=>(cells2 ((hb.block g HGL.out).trans HG3.out)).2.1
 have c1:w3.cell? ⟨g,0,none⟩=some (.pointer (some ⟨t,0,none⟩)):=HCG.out w3 (Below.refl _ _)
 clear hg3 ho3 PL WI WI2 HNR
 refine wp_region_held_drew (S:=fun w''=>w''.cell? ⟨g,0,none⟩=some (.pointer (some ⟨t,0,none⟩))) (by kernel_rfl) (c1) (fun hHeld=>?_)
 refine tkH 0 rfl ?_
 try simp only [Act.put,tS]
 refine tkH 1 rfl ?_
 try simp only [Act.put,tS]
 refine tkH 2 rfl ?_
 try simp only [Act.put,tS]
 refine tkH 3 rfl ?_
 try simp only [Act.put,tS]
 refine tkH 4 rfl ?_
 try simp only [Act.put,tS]
 refine tkH 5 rfl ?_
 try simp only [Act.put,tS]
 refine tkH 6 rfl ?_
 try simp only [Act.put,tS]
 refine rdH 7 rfl fun K hK=>?_
 go_simp
 refine (CPY.out _ (Below.drew (Below.refl _ _))).mono ?_;clear c1;rintro e y2 ⟨v2,rfl,ho2,hb⟩;have HY2:=hidIt (ext_trans (Below.drew (Below.refl w3.heap.size w3)) hb);clear hb;obtain ⟨a2,k2,hv2⟩:=ho2.out.form;generalize hn2:ps.length=n2 at hv2;clear hn2;subst hv2;have HO2:=hidIt ho2.out;clear ho2;have c1:=HCG.out y2 HY2.out;try dsimp only
 refine hK.out _ _ ?_ (fun hHeld=>?_)
 ·(try simp only [World.cell?_drew]);exact c1
 clear hK K
 try simp only [Act.put,tS]
 refine tkH 8 rfl ?_
 try simp only [Act.put,tS]
 refine rdH 9 rfl fun K hK=>?_
 go_simp
 generalize hwN:World.alloc _ _=y3;have hst:Below y2.heap.size y2 y3:=(by rw [← hwN];exact ext_alloc (Below.refl _ _) _);have HED:Hid (EdR y3 (.slice (some ⟨y2.heap.size,0,none⟩) 1 1) [((f:Int),((f + d:Nat):Int),ps)]):=(by unfold Hid;rw [← hwN];exact edr_lit1 y2 _ _ _ ps HO2.out.rdi);have HY3:=hidIt (ext_trans HY2.out hst);clear hwN hst;clear c1;have c1:=HCG.out y3 HY3.out;try dsimp only
 refine hK.out _ _ ?_ (fun hHeld=>?_)
 ·(try simp only [World.cell?_drew]);exact c1
 clear hK K
 try simp only [Act.put,tS]
 refine rdH 10 rfl fun K hK=>?_
 go_simp
 refine (CHG.out _ _ HY3.out HED.out).mono ?_;clear c1;rintro e y4 ⟨rfl,htz,hkp⟩;have HTZ:=hidIt htz;have HKP:=hidIt hkp;have HE4:=hidIt (show y4.heap[g]?=some (.cells #[.pointer (some ⟨t,0,none⟩),.slice aa A.length ca] 29 (0,0)) from (hkp.same g (Nat.lt_of_lt_of_le HGL.out HY3.out.size) (fun e=>hgt e)).trans ((HY3.out.block g HGL.out).trans HG3.out));clear htz hkp;obtain ⟨_,c1,cg1,fz⟩:=cells2 HE4.out;try dsimp only
 refine hK.out _ _ ?_ (fun hHeld=>?_)
 ·(try simp only [World.cell?_drew]);exact c1
 clear hK K
 try simp only [Act.put,tS]
 refine tkH 11 rfl ?_
 try simp only [Act.put,tS]
 refine wpAnyH_done (by kernel_rfl) ?_ _
 have HTY:=hidIt (HW3.out.tz.ext HY3.out).typ
 have HOA:=hidIt (((HO.out.ext HB3.out).ext HY3.out).oth HKP.out HTY.out (by decide))
 have HOP:=hidIt ((HP3.out.1.ext HY3.out).oth HKP.out HTY.out (by decide))
 have SPL:Hid (Calls Tryz.prog 37 #[.slice aa A.length ca,.int .i64 (f:Nat),.int .i64 ((f:Int) + (d:Int)),.slice a3 n3 c3] y4 fun e w'=>∃ v',e=.returned v'∧Hid (OwnI w' y4.heap.size v' (spl A f (f + d) ps))∧Below y4.heap.size y4 w'):=spliced_any _ _ A ps f (f + d) y4 HOA.out.rdi HOP.out.rdi HFD.out.1 HFD.out.2 hlen (by have:=HP3.out.2.1;omega)
 clear hHeld hwd hf hd
 go_wp2_with (go_at_call 37;refine SPL.out.mono ?_;rintro e y5 ⟨v5,rfl,ho5,hb5⟩;have HB5:=hidIt hb5;have HO5:=hidIt ho5.out;have HE5:=hidIt ((hb5.block g (Array.getElem?_eq_some_iff.1 HE4.out).1).trans HE4.out);obtain ⟨a5,k5,hv5⟩:=ho5.out.form;generalize hn5:(spl A f (f + d) ps).length=n5 at hv5;clear hn5;subst hv5;clear ho5 hb5 c1 cg1 fz;obtain ⟨_,c1,cg1,fz⟩:=cells2 HE5.out;(try dsimp only))
 go_ret
 have hfin:=BtW.put (m:=m + 1) HE5.out (HO5.out.le (Nat.zero_le _)) (HTZ.out.ext HB5.out) hgt (by have:=ln_spl enc A ps f (f + d) HFD.out.1;have:=HW3.out.bd;have:=HP3.out.2.1;omega) HW3.out.en
 refine ⟨rfl,⟨_,hfin.1⟩,?_⟩
 exact (((Kps.of_below (fun k=>k=g∨k=t) (ext_trans HB3.out HY3.out)).trans HKP.out (fun _ _ e=>.inr e)).trans (Kps.of_below (fun _=>False) HB5.out) (fun _ _ e=>e.elim)).trans hfin.2 (fun _ _ e=>.inl e)
end Go.Proofs.YtjomfbegghgbdaaGreat.P

namespace Go.Proofs.YtjomfbegghgbdaaGreat.P
open Go.RowKit
def OwnB (w:World) (base:Nat) (v:Value) (zs:List Int):Prop:=w.ownsRow base 5 1 v zs.length (zs.map (Value.int .u8))
theorem OwnB.form {w:World} {base:Nat} {v:Value} {zs:List Int} (h:OwnB w base v zs):∃ ao cap,v=.slice ao zs.length cap:=by
 rcases h.2 with ⟨rfl,hn⟩ | ⟨g,cap,cur,hv,_⟩
 ·exact ⟨none,0,by rw [hn]⟩
 ·exact ⟨_,cap,hv⟩
theorem OwnB.ext {w w':World} {base:Nat} {v:Value} {zs:List Int} (h:OwnB w base v zs) (hb:Below w.heap.size w w'):OwnB w' base v zs:=World.ownsRow.kept (row:=none) h ⟨hb.os,hb.tape,hb.output,hb.size,fun k hk _=>hb.block k hk⟩ (by cases v.ownBlock <;> simp)
theorem rdb_new (w:World) (x:Int):∀ j u,([x].map (Value.int .u8))[j]?=some u→(w.alloc (.cells #[.int .u8 x] 5)).cell? ((⟨w.heap.size,0,none⟩:Addr).add j)=some u:=fun j u hj=>by
 cases j with
 | zero =>
   simp only [List.map_cons,List.getElem?_cons_zero,Option.some.injEq] at hj
   subst hj
   rw [show ((⟨w.heap.size,0,none⟩:Addr).add 0)=⟨w.heap.size,0,none⟩ from rfl,cell_of_row _ _ _ _ _ _ (heap_alloc_new _ _)]
   rfl
 | succ j=>simp at hj
section
variable {P:Program} {W:World} {ops:Array Oper} {rest:List Oper} {o:Oper} {a:Act} {Q:Exit→Act→World→Prop}
theorem wpl_byte (hgd:o.guard=none) (s x:Operand) (t:TypeId) (ho:o.op=.call { callee:=.builtin .append,args:=#[s,x],argTypes:=#[t,t] })
  (base:Nat) (hinf:(P.info? 5).map (fun i=>(i.zero,i.size,i.bytes))=some (some (.int .u8 0),1,1)) (ht:P.underlying t=some (.slice 5))
  (v:Value) (zs:List Int) (hs:a.eval s=v) (hown:OwnB W base v zs) (y:Int) (g:Nat) (hx:a.eval x=.slice (some ⟨g,0,none⟩) 1 1)
  (hys:∀ j u,([y].map (Value.int .u8))[j]?=some u→W.cell? ((⟨g,0,none⟩:Addr).add j)=some u) (hl:zs.length + 1≤1099511627776) (hbase:base≤W.heap.size)
  (h:∀ v' w',OwnB w' base v' (zs ++ [y])→Below base W w'→wpList P ops Q rest (a.put o.dst v') w'):wpList P ops Q (o :: rest) a W:=by
 obtain ⟨i0,hi,hz0,hz1,hz2⟩:=info_parts hinf
 refine wpList_append_own W hgd s x t ho base 5 i0 (.int .u8 0) 1 1 ht hi hz0 hz1 hz2 rfl (by decide) v zs.length (zs.map (Value.int .u8)) hs hown ⟨g,0,none⟩ 1 1 ([y].map (Value.int .u8)) hx (by simp) hys (fun u hu=>by rw [List.mem_map] at hu;obtain ⟨_,_,rfl⟩:=hu;rfl) (by unfold maxLen;omega) (by omega) hbase ?_
 intro v' w' h1 h2 _
 refine h v' w' ?_ ((Below.refl _ _).grown h2 hbase (fun k hk=>(World.ownsRow.lt hown k hk).1))
 unfold OwnB
 rw [List.length_append,List.map_append]
 exact h1
end
def OpO (w:World) (t:Nat) (v:Value) (w':World):Prop:=∃ enc A,Cx.En enc∧OwnI w' w.heap.size v A∧Tz enc w' t A∧ln enc A≤50000∧w.heap.size≤t
set_option maxRecDepth 100000 in
set_option maxHeartbeats 8000000 in
theorem opened_any (e0:Int) (vd:Value) (D:List Int) (w:World) (hD:Rd .u8 w vd D) (hB:Byt D):Calls Tryz.prog 18 #[.agg #[.int .i64 e0,vd]] w fun e w'=>∃ t v,e=.returned (.tuple #[.agg #[.pointer (some ⟨t,0,none⟩),v],.bool true])∧Hid (OpO w t v w')∧Below w.heap.size w w':=by
 obtain ⟨ad,cd,rfl,hd1,hd2,_⟩:=id hD
 have hD9:=hD.len
 obtain ⟨q1,q2⟩:=and_le e0 3 (by decide)
 generalize hq:bits .and .i64 e0 (3:Nat)=q at q1 q2
 have hq':bits .and .i64 e0 3=q:=hq
 obtain ⟨enc,he⟩:∃ enc,enc=1 + q:=⟨_,rfl⟩
 have HEN:Hid (Cx.En enc):=by unfold Hid Cx.En;omega
 have hwe:IntKind.i64.wrap (1 + q)=enc:=by rw [IntKind.wrap_i64];omega
 have HKN:Hid (Cx.known enc=true):=(Cx.known_iff enc).2 HEN.out
 clear hq q1 q2 he
 obtain ⟨w0,hw0⟩:∃ w0,w0=(w.alloc (.cells #[.int .i64 e0,.slice ad D.length cd] 24)).alloc (.cells #[.pointer none,.slice none 0 0] 29):=⟨_,rfl⟩
 have HS0:Hid (w0.heap[w.heap.size]?=some (.cells #[.int .i64 e0,.slice ad D.length cd] 24 (0,0))∧w0.heap[w.heap.size + 1]?=some (.cells #[.pointer none,.slice none 0 0] 29 (0,0))∧Below w.heap.size w w0∧w0.heap.size=w.heap.size + 2):=by
  obtain ⟨v1,hv1⟩:∃ v,v=w.alloc (.cells #[.int .i64 e0,.slice ad D.length cd] 24):=⟨_,rfl⟩
  rw [← hv1] at hw0
  have s1:v1.heap.size=w.heap.size + 1:=by rw [hv1];simp
  have b1:Below w.heap.size w v1:=by rw [hv1];exact ext_alloc (Below.refl _ _) _
  have b2:Below v1.heap.size v1 w0:=by rw [hw0];exact ext_alloc (Below.refl _ _) _
  refine ⟨(b2.block _ (by omega)).trans (by rw [hv1];exact heap_alloc_new _ _),?_,ext_trans b1 b2,by rw [hw0];simp [s1]⟩
  rw [← s1,hw0];exact heap_alloc_new _ _
 have HC:Hid (∀ w',Below w0.heap.size w0 w'→w'.cell? ⟨w.heap.size,0,none⟩=some (.int .i64 e0)∧w'.cell? ⟨w.heap.size,1,none⟩=some (.slice ad D.length cd)∧w'.heap[w.heap.size + 1]?=some (.cells #[.pointer none,.slice none 0 0] 29 (0,0))):=fun w' hb=>by
  have hs:=HS0.out.2.2.2
  obtain ⟨_,k0,k1,_⟩:=cells2 ((hb.block _ (by omega)).trans HS0.out.1)
  exact ⟨k0,k1,(hb.block _ (by omega)).trans HS0.out.2.1⟩
 have HD:=hidIt (hD.ext HS0.out.2.2.1)
 have HBY:=hidIt hB
 have HB0:=hidIt HS0.out.2.2.1
 clear hD hB
 obtain ⟨c0,c1,_⟩:=HC.out w0 (Below.refl _ _)
 go_enter Tryz.func18,Tryz.ntmps18
 go_upto_region 1 with fail
 rw [← hw0]
 clear hw0
 go_upto_block 0 with fail
 clear hq'
 go_cut [5] from 15 to 33 (fun lv wF=>∃ (ao:Option Addr) (n cap:Nat) (zs:List Int),lv=.slice ao n cap∧Hid (OwnB wF w0.heap.size (.slice ao n cap) zs∧Byt zs∧zs.length≤50000∧Below w0.heap.size w0 wF))
 case first =>
  have HI0:Hid (OwnB w0 w0.heap.size (.slice none 0 0) (D.take 0)∧Below w0.heap.size w0 w0):=⟨World.ownsRow_nil _ _ _ _,Below.refl _ _⟩
  clear c0 c1
  go_wp2_with fail
  go_loopg [5,6] D.length (fun gk lv p wr=>∃ (i:Nat) (ao:Option Addr) (n cap:Nat),i + gk=D.length∧i≤50000∧p=.int .i64 (i:Nat)∧lv=.slice ao n cap∧Hid (OwnB wr w0.heap.size (.slice ao n cap) (D.take i)∧Below w0.heap.size w0 wr))
  case atStart=>exact ⟨0,none,0,0,by omega,by omega,rfl,rfl,HI0.out⟩
  case round =>
   obtain ⟨i,ao,n,cap,hig,hi5,rfl,rfl,HI⟩:=hrel
   have HBT:Hid (Byt (D.take i)):=fun z hz=>HBY.out z (List.mem_of_mem_take hz)
   obtain ⟨c0,c1,_⟩:=HC.out wr HI.out.2
   have HG:=hidIt hig
   clear hig
   by_cases hlt:i < D.length
   ·have hltI:(i:Int) < (D.length:Int):=by omega
    by_cases hl5:(i:Int) < 50000
    ·obtain ⟨b,o,rfl,hbl,ci,_⟩:=rd_at (HD.out.ext HI.out.2) i hlt
     obtain ⟨x,hx⟩:∃ x,D[i]?=some x:=⟨_,List.getElem?_eq_getElem hlt⟩
     rw [hx,Option.getD_some] at ci
     have HT:=hidIt (take_snoc hx)
     clear hx
     have HOA:Hid (OwnB (wr.alloc (.cells #[.int .u8 x] 5)) w0.heap.size (.slice ao n cap) (D.take i)):=HI.out.1.ext (ext_alloc (Below.refl _ _) _)
     have HNW:=hidIt (rdb_new wr x)
     have HBI:=hidIt HI.out.2
     have HZ:=hidIt (show w0.heap.size≤(wr.alloc (.cells #[.int .u8 x] 5)).heap.size from Nat.le_trans HBI.out.size (size_alloc_le _ _))
     have HLN:=hidIt (show (D.take i).length + 1≤1099511627776 by rw [List.length_take];omega)
     go_wp2_with (at_builtin;refine wpl_byte rfl _ _ 22 rfl w0.heap.size Tryz.info_u8 Tryz.underlying22 (.slice ao n cap) (D.take i) rfl HOA.out x wr.heap.size rfl HNW.out HLN.out HZ.out ?_;intro v8 w8 ho8 hb8;obtain ⟨a8,c8,hv8⟩:=ho8.form;generalize hn8:(D.take i ++ [x]).length=n8 at hv8;clear hn8;subst hv8;have HO8:=hidIt ho8;have HB8:=hidIt (HBI.out.trans ((ext_alloc (Below.refl wr.heap.size wr) _).mono HBI.out.size |>.trans hb8));clear ho8 hb8)
     go_roundg (D.length - (i + 1))
     case rel=>exact ⟨i + 1,a8,n8,c8,by have:=HG.out;omega,by omega,by go_num,rfl,by rw [HT.out];exact HO8.out,HB8.out⟩
     case measure=>have:=HG.out;omega
    ·go_wp2_with fail
     go_meet
     case rel=>exact ⟨ao,n,cap,D.take i,rfl,HI.out.1,HBT.out,by rw [List.length_take];omega,HI.out.2⟩
   ·have hnl:¬ (i:Int) < (D.length:Int):=by omega
    go_wp2_with fail
    go_meet
    case rel=>exact ⟨ao,n,cap,D.take i,rfl,HI.out.1,HBT.out,by rw [List.length_take];omega,HI.out.2⟩
 obtain ⟨ao,n,cap,zs,rfl,HI⟩:=hcut
 have HRZ:Hid (Rd .u8 wc (.slice ao n cap) zs):=Rd.of_own HI.out.1
 have RD:Hid (Calls Tryz.prog 50 #[.int .i64 enc,.slice ao n cap] wc fun e w'=>∃ v',e=.returned (.tuple #[v',.int .i64 0])∧Hid (OwnI w' wc.heap.size v' (Cx.dec enc zs))∧Below wc.heap.size wc w'):=by
  refine (rDecode_any enc _ zs wc HRZ.out HI.out.2.1 (by have:=HI.out.2.2.1;omega)).mono fun e w' ⟨v',k1,k2,k3⟩=>⟨v',?_,?_,k3⟩
  ·rw [k1];unfold Cx.er;rw [if_pos HKN.out]
  ·rw [Cx.dd_yes enc zs HKN.out] at k2;exact k2
 have OP:Hid (∀ w',Below wc.heap.size wc w'→Calls Tryz.prog 51 #[.int .i64 enc,.slice ao n cap,.int .i64 65536] w' fun e w''=>OpR enc 65536 zs w' e w''):=fun w' hb=>Open_good enc 65536 _ zs w' (HRZ.out.ext hb) HI.out.2.1 (by unfold opE;rw [if_pos HKN.out,if_neg (by omega),if_neg (by have:=HI.out.2.2.1;omega)])
 have HBC:=hidIt HI.out.2.2.2
 clear c0 c1
 go_upto_region 9 with (first
  | (go_at_call 50;refine RD.out.mono ?_;rintro e w2 ⟨v2,rfl,ho2,hb⟩;obtain ⟨a2,k2,hv2⟩:=ho2.out.form;generalize hn2:(Cx.dec enc zs).length=n2 at hv2;clear hn2;subst hv2;have HO2:=hidIt ho2.out;have HB2:=hidIt hb;clear ho2 hb;(try dsimp only))
  | (go_at_call 51;refine (OP.out _ HB2.out).mono ?_;rintro e w3 ⟨t,ps,rfl,hop,hb⟩;have HOP:=hidIt hop;have HB3:=hidIt hb;clear hop hb;(try dsimp only)))
 have HW3:=hidIt (ext_trans (ext_trans HBC.out HB2.out) HB3.out)
 have HX:=hidIt (HC.out w3 HW3.out).2.2
 obtain ⟨_,c0,c1,fz⟩:=cells2 HX.out
 go_wp2_with fail
 refine bodyPost_ret (v:=.tuple #[.agg #[.pointer (some ⟨t,0,none⟩),.slice a2 n2 k2],.bool true]) (by simp [results,Tryz.results18,go_sem,c0,c1]) rfl ⟨t,.slice a2 n2 k2,rfl,?_,?_⟩
 ·obtain ⟨h1,g1⟩:=set1 HX.out 0 (.pointer (some ⟨t,0,none⟩))
  obtain ⟨h2,g2⟩:=set1 h1 1 (.slice a2 n2 k2)
  have hk:Kps (fun k=>k=w.heap.size + 1) w3 ((w3.setCell ⟨w.heap.size + 1,0,none⟩ (.pointer (some ⟨t,0,none⟩))).setCell ⟨w.heap.size + 1,1,none⟩ (.slice a2 n2 k2)):=Kps.grown (grown_trans g1 g2) fun j e _=>by cases e;rfl
  have hty:Typ 29 w3 (w.heap.size + 1):=⟨_,HX.out⟩
  have htz:Tz enc w3 t (Cx.dec enc zs):=⟨zs,ps,HOP.out.1,by rw [← sh_fst enc,HOP.out.2.1,ctn_fst]⟩
  have hle:w.heap.size≤wc.heap.size:=(ext_trans HB0.out HBC.out).size
  refine ⟨enc,Cx.dec enc zs,HEN.out,((HO2.out.ext HB3.out).oth hk hty (by decide)).le hle,htz.other hk hty (by decide) (by decide) (fun e=>?_),?_,Nat.le_trans (Nat.le_trans hle HB2.out.size) HOP.out.2.2⟩
  ·rw [e] at hty
   exact absurd (Typ.uniq hty htz.typ) (by decide)
  ·unfold ln
   rw [(Cx.back_all enc HEN.out _ zs (Nat.le_refl _) HI.out.2.1).1]
   exact HI.out.2.2.1
 ·obtain ⟨h1,g1⟩:=set1 HX.out 0 (.pointer (some ⟨t,0,none⟩))
  obtain ⟨h2,g2⟩:=set1 h1 1 (.slice a2 n2 k2)
  exact below_put (ext_trans HB0.out HW3.out) (ext_trans HB0.out HW3.out).size (grown_trans g1 g2) (by omega)
end Go.Proofs.YtjomfbegghgbdaaGreat.P

namespace Go.Proofs.YtjomfbegghgbdaaGreat.P
open Go.RowKit
structure AlI (enc:Int) (A:List Int) (w:World) (ao:Option Addr) (n cap:Nat) (i:Nat) (f:Int) (wr:World):Prop where
 n':(n:Int)=bAt enc A i
 f':f=skA enc A (bAt enc A i)
 ok:A[i]?=some 10→i=0∨A[i - 1]?≠some 13
 own:OwnL wr w.heap.size (.slice ao n cap) (lns enc A n)
 bel:Below w.heap.size w wr
theorem AlI.fits {enc:Int} {A:List Int} {w:World} {ao:Option Addr} {n cap:Nat} {i:Nat} {f:Int} {wr:World} (h:AlI enc A w ao n cap i f wr) (hA:A.length≤65536) (hi:i≤A.length):n≤65536∧0≤f∧f≤65536:=by
 have h1:=bAt_lip enc A i
 have h2:=h.n'
 have h3:=skA_in enc A (bAt enc A i) (bAt_nn enc A i) (bAt_le enc A i)
 rw [← h.f'] at h3
 omega
theorem AlI.push {enc:Int} {A:List Int} {w:World} {ao:Option Addr} {n cap:Nat} {i:Nat} {f:Int} {wr:World} (h:AlI enc A w ao n cap i f wr) (i':Nat) (y:Ln) (h1:bAt enc A i'=bAt enc A i + 1) (h2:skA enc A (bAt enc A i + 1)=(i':Nat))
  (h3:lnK enc A (bAt enc A i)=y) (h4:A[i']?=some 10→A[i' - 1]?≠some 13) {a8:Option Addr} {n8 c8:Nat} {w8:World} (ho:OwnL w8 w.heap.size (.slice a8 n8 c8) (lns enc A n ++ [y])) (hn:(lns enc A n ++ [y]).length=n8) (hb:Below w.heap.size w w8):AlI enc A w a8 n8 c8 i' (i':Nat) w8:=by
 rw [List.length_append,lns_len] at hn
 subst hn
 refine ⟨?_,by rw [h1,h2],fun e=>.inr (h4 e),?_,hb⟩
 ·have:=h.n'
  show ((n + 1:Nat):Int)=_
  rw [h1]
  omega
 ·show OwnL w8 w.heap.size (.slice a8 (n + 1) c8) (lns enc A (n + 1))
  rw [lns_succ,h.n',h3]
  exact ho
theorem AlI.last {enc:Int} {A:List Int} {w:World} {ao:Option Addr} {n cap:Nat} {f:Int} {wr:World} (h:AlI enc A w ao n cap A.length f wr) {a8:Option Addr} {n8 c8:Nat} {w8:World} (ho:OwnL w8 w.heap.size (.slice a8 n8 c8) (lns enc A n ++ [⟨f,A.length,A.length,0⟩])) (hn:(lns enc A n ++ [(⟨f,A.length,A.length,0⟩:Ln)]).length=n8):(n8:Int)=(spn enc A).b + 1∧OwnL w8 w.heap.size (.slice a8 n8 c8) (lns enc A n8):=by
 rw [List.length_append,lns_len] at hn
 subst hn
 have e:=h.n'
 have e2:=h.f'
 rw [bAt_len enc A _ (Nat.le_refl _)] at e e2
 refine ⟨by show ((n + 1:Nat):Int)=_;omega,?_⟩
 show OwnL w8 w.heap.size (.slice a8 (n + 1) c8) (lns enc A (n + 1))
 rw [lns_succ,e]
 unfold lnK
 rw [if_pos rfl,← e2]
 exact ho
set_option maxRecDepth 100000 in
set_option maxHeartbeats 8000000 in
theorem rAll_any (enc:Int) (va:Value) (A:List Int) (w:World) (hA:Rd .i64 w va A) (hl:A.length≤65536) :
  Calls Tryz.prog 40 #[va] w fun e w'=>∃ (ao:Option Addr) (n cap:Nat),e=.returned (.tuple #[.slice ao n cap,.int .i64 (cnt enc A)])∧Hid ((n:Int)=(spn enc A).b + 1∧OwnL w' w.heap.size (.slice ao n cap) (lns enc A n))∧Below w.heap.size w w':=by
 obtain ⟨aa,ca,rfl,ha1,ha2,_⟩:=id hA
 have HA:=hidIt hA
 clear hA
 have HI0:Hid (AlI enc A w none 0 0 0 0 w):=⟨by rw [bAt_zero];rfl,by rw [bAt_zero,skA_zero],fun _=>.inl rfl,OwnL.nil _ _,Below.refl _ _⟩
 go_enter Tryz.func40,Tryz.ntmps40
 go_wp2_with fail
 go_loopg [4,5,6] A.length (fun gk lv fv p wr=>∃ (i:Nat) (ao:Option Addr) (n cap:Nat) (f:Int),i≤A.length∧i + gk=A.length∧p=.int .i64 (i:Nat)∧fv=.int .i64 f∧lv=.slice ao n cap∧Hid (AlI enc A w ao n cap i f wr))
 case atStart=>exact ⟨0,none,0,0,0,by omega,by omega,rfl,rfl,rfl,HI0.out⟩
 case round =>
  obtain ⟨i,ao,n,cap,f,hil,hig,rfl,rfl,rfl,HI⟩:=hrel
  obtain ⟨hn1,hf0,hf1⟩:=HI.out.fits hl hil
  have HG:=hidIt hig
  clear hig
  by_cases hlt:i < A.length
  ·have hltI:(i:Int) < (A.length:Int):=by omega
   obtain ⟨b,o,rfl,hbl,ci,_⟩:=rd_at (HA.out.ext HI.out.bel) i hlt
   obtain ⟨x,hx⟩:∃ x,A[i]?=some x:=⟨_,List.getElem?_eq_getElem hlt⟩
   rw [hx,Option.getD_some] at ci
   have HX:=hidIt hx
   clear hx
   have hNX:Hid (∀ y,A[i + 1]?=some y→wr.cell? ⟨b,o + (i + 1),none⟩=some (.int .i64 y)):=fun y hy=>by
    obtain ⟨b',o',e1,_,c',_⟩:=rd_at (HA.out.ext HI.out.bel) (i + 1) (List.getElem?_eq_some_iff.1 hy).1
    cases e1
    rw [hy,Option.getD_some] at c'
    exact c'
   have hwi:IntKind.i64.wrap ((i:Int) + 1)=((i + 1:Nat):Int):=by rw [IntKind.wrap_i64];omega
   have hwj:IntKind.i64.wrap ((i:Int) + 2)=((i + 2:Nat):Int):=by rw [IntKind.wrap_i64];omega
   by_cases h10:x=10
   ·subst h10
    obtain ⟨q1,q2,q3,q4⟩:=ln_lf (enc:=enc) HX.out (HI.out.ok HX.out)
    rw [← HI.out.f'] at q4
    have HP:Hid (∀ a8 n8 c8 w8,OwnL w8 w.heap.size (.slice a8 n8 c8) (lns enc A n ++ [⟨f,(i:Nat),(i + 1:Nat),1⟩])→(lns enc A n ++ [(⟨f,(i:Nat),(i + 1:Nat),1⟩:Ln)]).length=n8→Below w.heap.size w w8→AlI enc A w a8 n8 c8 (i + 1) ((i + 1:Nat):Int) w8):=fun a8 n8 c8 w8 o8 e8 b8=>HI.out.push (i + 1) _ q1 q2 q4 (fun _=>by rw [show i + 1 - 1=i by omega,HX.out];decide) o8 e8 b8
    clear q1 q2 q3 q4
    have HOA:Hid (OwnL (wr.alloc (.cells #[.int .i64 f,.int .i64 (i:Nat),.int .i64 (i + 1:Nat),.int .i64 1] 85)) w.heap.size (.slice ao n cap) (lns enc A n)):=HI.out.own.ext (ext_alloc (Below.refl _ _) _)
    have HNW:=hidIt (lit4 wr 85 ⟨f,(i:Nat),(i + 1:Nat),1⟩)
    have HZ:=hidIt (show w.heap.size≤(wr.alloc (.cells #[.int .i64 f,.int .i64 (i:Nat),.int .i64 (i + 1:Nat),.int .i64 1] 85)).heap.size from Nat.le_trans HI.out.bel.size (by simp))
    have HLN:=hidIt (show (lns enc A n).length + 1≤1099511627776 by rw [lns_len];omega)
    have HBI:=hidIt HI.out.bel
    go_wp2_with (at_builtin;refine wpl_line rfl _ _ 75 rfl w.heap.size Tryz.info_line Tryz.underlying75 (.slice ao n cap) (lns enc A n) rfl HOA.out ⟨f,(i:Nat),(i + 1:Nat),1⟩ wr.heap.size rfl HNW.out HLN.out HZ.out ?_;intro v8 w8 ho8 hb8;obtain ⟨a8,c8,hv8⟩:=ho8.form;generalize hn8:(lns enc A n ++ [(⟨f,(i:Nat),(i + 1:Nat),1⟩:Ln)]).length=n8 at hv8;subst hv8;have HP8:=hidIt (HP.out a8 n8 c8 w8 ho8 hn8 (HBI.out.trans ((ext_alloc (Below.refl wr.heap.size wr) _).mono HBI.out.size |>.trans hb8)));clear ho8 hb8 hn8)
    go_roundg (A.length - (i + 1))
    case rel=>exact ⟨i + 1,a8,n8,c8,_,by omega,by omega,by go_num,rfl,rfl,HP8.out⟩
    case measure=>have:=HG.out;omega
   ·by_cases h13:x=13
    ·subst h13
     by_cases hn:i + 1 < A.length
     ·have hnI:((i + 1:Nat):Int) < (A.length:Int):=by omega
      obtain ⟨y,hy⟩:∃ y,A[i + 1]?=some y:=⟨_,List.getElem?_eq_getElem hn⟩
      have cy:=hNX.out y hy
      have HY:=hidIt hy
      clear hy
      by_cases hy10:y=10
      ·subst hy10
       have hwk:IntKind.i64.wrap (((i + 1:Nat):Int) + 1)=((i + 2:Nat):Int):=by rw [IntKind.wrap_i64];omega
       obtain ⟨q1,q2,q3,q4⟩:=ln_crlf (enc:=enc) HX.out HY.out
       rw [← HI.out.f'] at q4
       have HP:Hid (∀ a8 n8 c8 w8,OwnL w8 w.heap.size (.slice a8 n8 c8) (lns enc A n ++ [⟨f,(i:Nat),(i + 2:Nat),2⟩])→(lns enc A n ++ [(⟨f,(i:Nat),(i + 2:Nat),2⟩:Ln)]).length=n8→Below w.heap.size w w8→AlI enc A w a8 n8 c8 (i + 2) ((i + 2:Nat):Int) w8):=fun a8 n8 c8 w8 o8 e8 b8=>HI.out.push (i + 2) _ q1 q2 q4 (fun _=>by rw [show i + 2 - 1=i + 1 by omega,HY.out];decide) o8 e8 b8
       clear q1 q2 q3 q4
       have HOA:Hid (OwnL (wr.alloc (.cells #[.int .i64 f,.int .i64 (i:Nat),.int .i64 (i + 2:Nat),.int .i64 2] 85)) w.heap.size (.slice ao n cap) (lns enc A n)):=HI.out.own.ext (ext_alloc (Below.refl _ _) _)
       have HNW:=hidIt (lit4 wr 85 ⟨f,(i:Nat),(i + 2:Nat),2⟩)
       have HZ:=hidIt (show w.heap.size≤(wr.alloc (.cells #[.int .i64 f,.int .i64 (i:Nat),.int .i64 (i + 2:Nat),.int .i64 2] 85)).heap.size from Nat.le_trans HI.out.bel.size (by simp))
       have HLN:=hidIt (show (lns enc A n).length + 1≤1099511627776 by rw [lns_len];omega)
       have HBI:=hidIt HI.out.bel
       go_wp2_with (at_builtin;refine wpl_line rfl _ _ 75 rfl w.heap.size Tryz.info_line Tryz.underlying75 (.slice ao n cap) (lns enc A n) rfl HOA.out ⟨f,(i:Nat),(i + 2:Nat),2⟩ wr.heap.size rfl HNW.out HLN.out HZ.out ?_;intro v8 w8 ho8 hb8;obtain ⟨a8,c8,hv8⟩:=ho8.form;generalize hn8:(lns enc A n ++ [(⟨f,(i:Nat),(i + 2:Nat),2⟩:Ln)]).length=n8 at hv8;subst hv8;have HP8:=hidIt (HP.out a8 n8 c8 w8 ho8 hn8 (HBI.out.trans ((ext_alloc (Below.refl wr.heap.size wr) _).mono HBI.out.size |>.trans hb8)));clear ho8 hb8 hn8)
       go_roundg (A.length - (i + 2))
       case rel=>exact ⟨i + 2,a8,n8,c8,_,by omega,by omega,by go_num,rfl,rfl,HP8.out⟩
       case measure=>have:=HG.out;omega
      ·have HNE:Hid (A[i + 1]?≠some 10):=by unfold Hid;rw [HY.out];intro e;exact hy10 (Option.some.inj e)
       obtain ⟨q1,q2,q3,q4⟩:=ln_cr (enc:=enc) HX.out HNE.out
       rw [← HI.out.f'] at q4
       have HP:Hid (∀ a8 n8 c8 w8,OwnL w8 w.heap.size (.slice a8 n8 c8) (lns enc A n ++ [⟨f,(i:Nat),(i + 1:Nat),3⟩])→(lns enc A n ++ [(⟨f,(i:Nat),(i + 1:Nat),3⟩:Ln)]).length=n8→Below w.heap.size w w8→AlI enc A w a8 n8 c8 (i + 1) ((i + 1:Nat):Int) w8):=fun a8 n8 c8 w8 o8 e8 b8=>HI.out.push (i + 1) _ q1 q2 q4 (fun e=>absurd e HNE.out) o8 e8 b8
       clear q1 q2 q3 q4
       have HOA:Hid (OwnL (wr.alloc (.cells #[.int .i64 f,.int .i64 (i:Nat),.int .i64 (i + 1:Nat),.int .i64 3] 85)) w.heap.size (.slice ao n cap) (lns enc A n)):=HI.out.own.ext (ext_alloc (Below.refl _ _) _)
       have HNW:=hidIt (lit4 wr 85 ⟨f,(i:Nat),(i + 1:Nat),3⟩)
       have HZ:=hidIt (show w.heap.size≤(wr.alloc (.cells #[.int .i64 f,.int .i64 (i:Nat),.int .i64 (i + 1:Nat),.int .i64 3] 85)).heap.size from Nat.le_trans HI.out.bel.size (by simp))
       have HLN:=hidIt (show (lns enc A n).length + 1≤1099511627776 by rw [lns_len];omega)
       have HBI:=hidIt HI.out.bel
       go_wp2_with (at_builtin;refine wpl_line rfl _ _ 75 rfl w.heap.size Tryz.info_line Tryz.underlying75 (.slice ao n cap) (lns enc A n) rfl HOA.out ⟨f,(i:Nat),(i + 1:Nat),3⟩ wr.heap.size rfl HNW.out HLN.out HZ.out ?_;intro v8 w8 ho8 hb8;obtain ⟨a8,c8,hv8⟩:=ho8.form;generalize hn8:(lns enc A n ++ [(⟨f,(i:Nat),(i + 1:Nat),3⟩:Ln)]).length=n8 at hv8;subst hv8;have HP8:=hidIt (HP.out a8 n8 c8 w8 ho8 hn8 (HBI.out.trans ((ext_alloc (Below.refl wr.heap.size wr) _).mono HBI.out.size |>.trans hb8)));clear ho8 hb8 hn8)
       go_roundg (A.length - (i + 1))
       case rel=>exact ⟨i + 1,a8,n8,c8,_,by omega,by omega,by go_num,rfl,rfl,HP8.out⟩
       case measure=>have:=HG.out;omega
     ·have hnI:¬ ((i + 1:Nat):Int) < (A.length:Int):=by omega
      have HNE:Hid (A[i + 1]?≠some 10):=by unfold Hid;rw [List.getElem?_eq_none (by omega)];simp
      obtain ⟨q1,q2,q3,q4⟩:=ln_cr (enc:=enc) HX.out HNE.out
      rw [← HI.out.f'] at q4
      have HP:Hid (∀ a8 n8 c8 w8,OwnL w8 w.heap.size (.slice a8 n8 c8) (lns enc A n ++ [⟨f,(i:Nat),(i + 1:Nat),3⟩])→(lns enc A n ++ [(⟨f,(i:Nat),(i + 1:Nat),3⟩:Ln)]).length=n8→Below w.heap.size w w8→AlI enc A w a8 n8 c8 (i + 1) ((i + 1:Nat):Int) w8):=fun a8 n8 c8 w8 o8 e8 b8=>HI.out.push (i + 1) _ q1 q2 q4 (fun e=>absurd e HNE.out) o8 e8 b8
      clear q1 q2 q3 q4
      have HOA:Hid (OwnL (wr.alloc (.cells #[.int .i64 f,.int .i64 (i:Nat),.int .i64 (i + 1:Nat),.int .i64 3] 85)) w.heap.size (.slice ao n cap) (lns enc A n)):=HI.out.own.ext (ext_alloc (Below.refl _ _) _)
      have HNW:=hidIt (lit4 wr 85 ⟨f,(i:Nat),(i + 1:Nat),3⟩)
      have HZ:=hidIt (show w.heap.size≤(wr.alloc (.cells #[.int .i64 f,.int .i64 (i:Nat),.int .i64 (i + 1:Nat),.int .i64 3] 85)).heap.size from Nat.le_trans HI.out.bel.size (by simp))
      have HLN:=hidIt (show (lns enc A n).length + 1≤1099511627776 by rw [lns_len];omega)
      have HBI:=hidIt HI.out.bel
      go_wp2_with (at_builtin;refine wpl_line rfl _ _ 75 rfl w.heap.size Tryz.info_line Tryz.underlying75 (.slice ao n cap) (lns enc A n) rfl HOA.out ⟨f,(i:Nat),(i + 1:Nat),3⟩ wr.heap.size rfl HNW.out HLN.out HZ.out ?_;intro v8 w8 ho8 hb8;obtain ⟨a8,c8,hv8⟩:=ho8.form;generalize hn8:(lns enc A n ++ [(⟨f,(i:Nat),(i + 1:Nat),3⟩:Ln)]).length=n8 at hv8;subst hv8;have HP8:=hidIt (HP.out a8 n8 c8 w8 ho8 hn8 (HBI.out.trans ((ext_alloc (Below.refl wr.heap.size wr) _).mono HBI.out.size |>.trans hb8)));clear ho8 hb8 hn8)
      go_roundg (A.length - (i + 1))
      case rel=>exact ⟨i + 1,a8,n8,c8,_,by omega,by omega,by go_num,rfl,rfl,HP8.out⟩
      case measure=>have:=HG.out;omega
    ·have HS:Hid (AlI enc A w ao n cap (i + 1) f wr):=by
      have e:=ln_no (enc:=enc) HX.out h10 h13
      exact ⟨by rw [e];exact HI.out.n',by rw [e];exact HI.out.f',fun _=>.inr (by rw [show i + 1 - 1=i by omega,HX.out];intro e;exact h13 (Option.some.inj e)),HI.out.own,HI.out.bel⟩
     go_wp2_with fail
     go_roundg (A.length - (i + 1))
     case rel=>exact ⟨i + 1,ao,n,cap,f,by omega,by omega,by go_num,rfl,rfl,HS.out⟩
     case measure=>have:=HG.out;omega
  ·obtain rfl:i=A.length:=by omega
   have hnl:¬ (A.length:Int) < (A.length:Int):=by omega
   have HFB:Hid (f=skA enc A (spn enc A).b∧(n:Int)=(spn enc A).b):=by
    have h1:=HI.out.f'
    have h2:=HI.out.n'
    rw [bAt_len enc A _ (Nat.le_refl _)] at h1 h2
    exact ⟨h1,h2⟩
   have HP:Hid (∀ a8 n8 c8 w8,OwnL w8 w.heap.size (.slice a8 n8 c8) (lns enc A n ++ [⟨f,(A.length:Nat),(A.length:Nat),0⟩])→(lns enc A n ++ [(⟨f,(A.length:Nat),(A.length:Nat),0⟩:Ln)]).length=n8→((n8:Int)=(spn enc A).b + 1∧OwnL w8 w.heap.size (.slice a8 n8 c8) (lns enc A n8))):=fun a8 n8 c8 w8 o8 e8=>HI.out.last o8 e8
   have HOA:Hid (OwnL (wr.alloc (.cells #[.int .i64 f,.int .i64 (A.length:Nat),.int .i64 (A.length:Nat),.int .i64 0] 85)) w.heap.size (.slice ao n cap) (lns enc A n)):=HI.out.own.ext (ext_alloc (Below.refl _ _) _)
   have HNW:=hidIt (lit4 wr 85 ⟨f,(A.length:Nat),(A.length:Nat),0⟩)
   have HBI:=hidIt HI.out.bel
   have HZ:=hidIt (show w.heap.size≤(wr.alloc (.cells #[.int .i64 f,.int .i64 (A.length:Nat),.int .i64 (A.length:Nat),.int .i64 0] 85)).heap.size from Nat.le_trans HBI.out.size (by simp))
   have HLN:=hidIt (show (lns enc A n).length + 1≤1099511627776 by rw [lns_len];omega)
   go_upto_region 18 with (at_builtin;refine wpl_line rfl _ _ 75 rfl w.heap.size Tryz.info_line Tryz.underlying75 (.slice ao n cap) (lns enc A n) rfl HOA.out ⟨f,(A.length:Nat),(A.length:Nat),0⟩ wr.heap.size rfl HNW.out HLN.out HZ.out ?_;intro v8 w8 ho8 hb8;obtain ⟨a8,c8,hv8⟩:=ho8.form;generalize hn8:(lns enc A n ++ [(⟨f,(A.length:Nat),(A.length:Nat),0⟩:Ln)]).length=n8 at hv8;subst hv8;have HP8:=hidIt (HP.out a8 n8 c8 w8 ho8 hn8);have HB8:=hidIt (HBI.out.trans ((ext_alloc (Below.refl wr.heap.size wr) _).mono HBI.out.size |>.trans hb8));clear ho8 hb8 hn8)
   by_cases h0:(A.length:Int)=0
   ·have HC:=hidIt (show cnt enc A=(n8:Nat) by unfold cnt;rw [if_pos (.inl (by omega)),HP8.out.1])
    go_wp2_with fail
    go_ret2
    exact ⟨a8,n8,c8,by rw [HC.out];rfl,HP8.out,HB8.out⟩
   ·have hne:A≠[]:=fun e=>h0 (by rw [e];rfl)
    by_cases h1:f < (A.length:Int)
    ·have HC:=hidIt (show cnt enc A=(n8:Nat) by unfold cnt;rw [if_pos (.inr (by rw [← HFB.out.1];exact h1)),HP8.out.1])
     go_wp2_with fail
     go_ret2
     exact ⟨a8,n8,c8,by rw [HC.out];rfl,HP8.out,HB8.out⟩
    ·have HC:=hidIt (show cnt enc A=(n:Nat) by unfold cnt;rw [if_neg (by rw [← HFB.out.1];omega),HFB.out.2])
     go_wp2_with fail
     go_ret2
     exact ⟨a8,n8,c8,by rw [HC.out];rfl,HP8.out,HB8.out⟩
end Go.Proofs.YtjomfbegghgbdaaGreat.P

namespace Go.Proofs.YtjomfbegghgbdaaGreat.P
open Go.RowKit
set_option maxRecDepth 100000 in
theorem rCount_any (enc:Int) (va:Value) (A:List Int) (w:World) (hA:Rd .i64 w va A) (hl:A.length≤65536):Calls Tryz.prog 71 #[va] w fun e w'=>e=.returned (.int .i64 (cnt enc A))∧Below w.heap.size w w':=by
 have AL:=hidIt (rAll_any enc va A w hA hl)
 clear hA hl
 go_enter Tryz.func71,Tryz.ntmps71
 go_wp2_with (go_at_call 40;refine AL.out.mono ?_;rintro e w1 ⟨ao,n,cap,rfl,_,hb⟩;have HB:=hidIt hb;clear hb;(try dsimp only))
 go_ret
 exact ⟨rfl,HB.out⟩
theorem cells4 {w:World} {b:Nat} {T:TypeId} {v0 v1 v2 v3:Value} (h:w.heap[b]?=some (.cells #[v0,v1,v2,v3] T (0,0))):b < w.heap.size∧w.cell? ⟨b,0,none⟩=some v0∧w.cell? ⟨b,1,none⟩=some v1∧w.cell? ⟨b,2,none⟩=some v2∧w.cell? ⟨b,3,none⟩=some v3∧(∀ i,w.frozen? ⟨b,i,none⟩=false):=by
 refine ⟨(Array.getElem?_eq_some_iff.1 h).1,?_,?_,?_,?_,fun i=>by simp [World.frozen?,h]⟩ <;> (rw [cell_of_row _ _ _ _ _ _ h];rfl)
theorem below4 {w w0 w1:World} {T:TypeId} {cs:Array Value} (hb0:Below w.heap.size w w0) (hg:w1.heap[w.heap.size]?=some (.cells cs T (0,0))) (hb:Below w0.heap.size w0 w1) (v0 v1 v2 v3:Value):Below w.heap.size w ((((w1.setCell ⟨w.heap.size,0,none⟩ v0).setCell ⟨w.heap.size,1,none⟩ v1).setCell ⟨w.heap.size,2,none⟩ v2).setCell ⟨w.heap.size,3,none⟩ v3):=by
 obtain ⟨h1,g1⟩:=set1 hg 0 v0
 obtain ⟨h2,g2⟩:=set1 h1 1 v1
 obtain ⟨h3,g3⟩:=set1 h2 2 v2
 obtain ⟨_,g4⟩:=set1 h3 3 v3
 exact below_put (ext_trans hb0 hb) (ext_trans hb0 hb).size (grown_trans (grown_trans (grown_trans g1 g2) g3) g4) (Nat.le_refl _)
def lnA (enc:Int) (A:List Int) (k:Int):Ln:=if k < 0∨(spn enc A).b < k then ⟨0,0,0,0⟩ else lnK enc A k
def lnE (enc:Int) (A:List Int) (k:Int):Int:=if k < 0∨(spn enc A).b < k then 2 else 0
set_option maxRecDepth 100000 in
set_option maxHeartbeats 4000000 in
theorem rAt_any (enc:Int) (va:Value) (A:List Int) (k:Int) (w:World) (hA:Rd .i64 w va A) (hl:A.length≤65536):Calls Tryz.prog 126 #[va,.int .i64 k] w fun e w'=>e=.returned (.tuple #[.agg #[.int .i64 (lnA enc A k).f,.int .i64 (lnA enc A k).t,.int .i64 (lnA enc A k).n,.int .i64 (lnA enc A k).b],.int .i64 (lnE enc A k)])∧Below w.heap.size w w':=by
 have sL:=spn_len enc A
 have sN:=spn_nn enc A
 obtain ⟨w0,hw0,kk0,hb0⟩:∃ w0,w0=w.alloc (.cells #[.int .i64 0,.int .i64 0,.int .i64 0,.int .i64 0] 85)∧w0.heap[w.heap.size]?=some (.cells #[.int .i64 0,.int .i64 0,.int .i64 0,.int .i64 0] 85 (0,0))∧Below w.heap.size w w0:=⟨_,rfl,heap_alloc_new _ _,ext_alloc (Below.refl _ _) _⟩
 have AL:=hidIt (rAll_any enc va A w0 (hA.ext hb0) hl)
 clear hA
 have HB0:=hidIt hb0
 have HK0:=hidIt kk0
 by_cases h0:k < 0
 ·have HE:Hid (lnA enc A k=⟨0,0,0,0⟩∧lnE enc A k=2):=⟨by unfold lnA;rw [if_pos (.inl h0)],by unfold lnE;rw [if_pos (.inl h0)]⟩
  clear hb0 kk0
  go_enter Tryz.func126,Tryz.ntmps126
  go_upto_region 1 with fail
  rw [← hw0]
  clear hw0
  go_wp2_with (go_at_call 40;refine AL.out.mono ?_;rintro e w1 ⟨ao,n,cap,rfl,hn,hb⟩;have HB:=hidIt hb;have HX:=hidIt ((hb.block _ (Array.getElem?_eq_some_iff.1 HK0.out).1).trans HK0.out);obtain ⟨hlt,c0,c1,c2,c3,fz⟩:=cells4 HX.out;clear hb;(try dsimp only))
  exact bodyPost_ret (v:=.tuple #[.agg #[.int .i64 0,.int .i64 0,.int .i64 0,.int .i64 0],.int .i64 2]) (by simp [results,Tryz.results126,go_sem,c0,c1,c2,c3]) rfl ⟨by rw [HE.out.1,HE.out.2],below4 HB0.out HX.out HB.out _ _ _ _⟩
 ·by_cases h1:(spn enc A).b < k
  ·have HE:Hid (lnA enc A k=⟨0,0,0,0⟩∧lnE enc A k=2):=⟨by unfold lnA;rw [if_pos (.inr h1)],by unfold lnE;rw [if_pos (.inr h1)]⟩
   have HK1:=hidIt h1
   clear hb0 kk0 h1 sL sN
   go_enter Tryz.func126,Tryz.ntmps126
   go_upto_region 1 with fail
   rw [← hw0]
   clear hw0
   go_wp2_with (go_at_call 40;refine AL.out.mono ?_;rintro e w1 ⟨ao,n,cap,rfl,hn,hb⟩;have HB:=hidIt hb;have HX:=hidIt ((hb.block _ (Array.getElem?_eq_some_iff.1 HK0.out).1).trans HK0.out);obtain ⟨hlt,c0,c1,c2,c3,fz⟩:=cells4 HX.out;clear hb;have hkn:((n:Nat):Int)≤k:=(by have:=hn.out.1;have:=HK1.out;omega);(try dsimp only))
   exact bodyPost_ret (v:=.tuple #[.agg #[.int .i64 0,.int .i64 0,.int .i64 0,.int .i64 0],.int .i64 2]) (by simp [results,Tryz.results126,go_sem,c0,c1,c2,c3]) rfl ⟨by rw [HE.out.1,HE.out.2],below4 HB0.out HX.out HB.out _ _ _ _⟩
  ·have HE:Hid (lnA enc A k=lnK enc A k∧lnE enc A k=0):=⟨by unfold lnA;rw [if_neg (by omega)],by unfold lnE;rw [if_neg (by omega)]⟩
   obtain ⟨i,rfl⟩:∃ i:Nat,k=i:=⟨k.toNat,by omega⟩
   have HK1:=hidIt h1
   have hi9:i≤65536:=by have:=spn_len enc A;omega
   clear hb0 kk0 h1 sL sN
   go_enter Tryz.func126,Tryz.ntmps126
   go_upto_region 1 with fail
   rw [← hw0]
   clear hw0
   go_wp2_with (go_at_call 40;refine AL.out.mono ?_;rintro e w1 ⟨ao,n,cap,rfl,hn,hb⟩;have HB:=hidIt hb;have HX:=hidIt ((hb.block _ (Array.getElem?_eq_some_iff.1 HK0.out).1).trans HK0.out);obtain ⟨hlt,c0,c1,c2,c3,fz⟩:=cells4 HX.out;clear hb;have hkn:¬ ((n:Nat):Int)≤(i:Int):=(by have:=hn.out.1;have:=HK1.out;omega);have hin:i < n:=(by omega);obtain ⟨ao',cap',e1,_,_,r5⟩:=hn.out.2.rd;rw [lns_len] at e1;simp only [Value.slice.injEq] at e1;obtain ⟨rfl,_,rfl⟩:=e1;obtain ⟨g,rfl,hg,hc⟩:=r5 (by intro e;have:=congrArg List.length e;rw [lns_len] at this;simp at this;omega);obtain ⟨d0,d1,d2,d3⟩:=hc i _ (lns_at enc A n i hin);generalize lnK enc A ((i:Nat):Int)=y at *;clear hc hn;(try dsimp only))
   exact bodyPost_ret (v:=.tuple #[.agg #[.int .i64 y.f,.int .i64 y.t,.int .i64 y.n,.int .i64 y.b],.int .i64 0]) (by simp [results,Tryz.results126,go_sem,c0,c1,c2,c3]) rfl ⟨by rw [HE.out.1,HE.out.2],below4 HB0.out HX.out HB.out _ _ _ _⟩
set_option maxRecDepth 100000 in
set_option maxHeartbeats 4000000 in
theorem rOf_any (enc:Int) (va:Value) (A:List Int) (z:Int) (w:World) (hA:Rd .i64 w va A) (hl:A.length≤65536):Calls Tryz.prog 103 #[va,.int .i64 z] w fun e w'=>e=.returned (.int .i64 (brk enc A z))∧Below w.heap.size w w':=by
 have AL:=hidIt (rAll_any enc va A w hA hl)
 obtain ⟨k,hk⟩:∃ k:Nat,(k:Int)=brk enc A z:=⟨(brk enc A z).toNat,by rw [brk_at];have:=bAt_nn enc A z.toNat;omega⟩
 obtain ⟨hF1,hF2⟩:=of_first enc A z k hk
 have hkB:(k:Int)≤(spn enc A).b:=by rw [hk,brk_at];exact bAt_le enc A _
 have sL:=spn_len enc A
 have HF1:=hidIt hF1
 have HF2:=hidIt hF2
 have HK:=hidIt hk
 have HKB:=hidIt hkB
 have HSL:Hid ((spn enc A).b≤65536):=by unfold Hid;omega
 clear hA hF1 hF2 hk hkB sL
 rw [← HK.out]
 go_enter Tryz.func103,Tryz.ntmps103
 go_upto_block 0 with (go_at_call 40;refine AL.out.mono ?_;rintro e w1 ⟨ao,n,cap,rfl,hn,hb⟩;have HB:=hidIt hb;have hn9:n≤65537:=(by have:=hn.out.1;have:=HSL.out;omega);have hkn:k < n:=(by have:=hn.out.1;have:=HKB.out;omega);have HN:=hidIt hn.out.1;obtain ⟨ao',cap',e1,hcap,_,r5⟩:=hn.out.2.rd;rw [lns_len] at e1 hcap;simp only [Value.slice.injEq] at e1;obtain ⟨rfl,_,rfl⟩:=e1;obtain ⟨g,rfl,hg,hc⟩:=r5 (by intro e;have:=congrArg List.length e;rw [lns_len] at this;simp at this;omega);have HC:Hid (∀ i,i < n→w1.cell? ⟨g,i * 4 + 2,none⟩=some (.int .i64 (lnK enc A (i:Nat)).n)):=(fun i hi=>(hc i _ (lns_at enc A n i hi)).2.2.1);clear hb hn r5 hc;(try dsimp only))
 go_wp2_with fail
 go_loopg [7] n (fun gk p wr=>∃ i:Nat,i + gk=n∧p=.int .i64 (i:Nat)∧i≤k + 1∧(i≤k∨i=n)∧wr=w1)
 case atStart=>exact ⟨0,by omega,rfl,by omega,by omega,rfl⟩
 case round =>
  obtain ⟨i,hig,rfl,hi1,hi2,rfl⟩:=hrel
  by_cases hlt:i < n
  ·have hik:i≤k:=by omega
   have hltI:(i:Int) < (n:Int):=by omega
   have ci:=HC.out i hlt
   rcases Nat.lt_or_eq_of_le hik with h1 | h1
   ·have hz:¬ z < (lnK enc A (i:Nat)).n:=by have:=HF1.out i h1;omega
    generalize (lnK enc A (i:Nat)).n=q at *
    go_wp2_with fail
    go_roundg (n - (i + 1))
    case rel=>exact ⟨i + 1,by omega,by go_num,by omega,by omega,rfl⟩
    case measure=>omega
   ·subst h1
    by_cases hz:z < (lnK enc A (i:Nat)).n
    ·generalize (lnK enc A (i:Nat)).n=q at *
     go_wp2_with fail
     go_ret
     exact ⟨rfl,HB.out⟩
    ·have hin:i + 1=n:=by
      have:=HN.out
      rcases Int.lt_or_le (i:Int) (spn enc A).b with h | h
      ·exact absurd (HF2.out h) hz
      ·have:=HKB.out;omega
     generalize (lnK enc A (i:Nat)).n=q at *
     go_wp2_with fail
     go_roundg (n - (i + 1))
     case rel=>exact ⟨i + 1,by omega,by go_num,by omega,by omega,rfl⟩
     case measure=>omega
  ·have hin:i=n:=by omega
   subst hin
   have hnl:¬ (i:Int) < (i:Int):=by omega
   have hw:IntKind.i64.wrap ((i:Int) - 1)=(k:Nat):=by rw [IntKind.wrap_i64];omega
   go_wp2_with fail
   go_ret
   exact ⟨rfl,HB.out⟩
end Go.Proofs.YtjomfbegghgbdaaGreat.P

namespace Go.Proofs.YtjomfbegghgbdaaGreat.P
open Go.RowKit
theorem sub_one (A:List Int) (p:Int):sub A p (p + 1)=if 0≤p then (A[p.toNat]?).toList else []:=by
 unfold sub clp
 by_cases h0:0≤p
 ·rw [if_pos h0]
  by_cases h1:p.toNat < A.length
  ·rw [if_neg (by omega),List.getElem?_eq_getElem h1]
   simp only
   rw [show (max p 0).toNat=p.toNat by omega,show (min (p + 1) (A.length:Int)).toNat - p.toNat=1 by omega,List.drop_eq_getElem_cons h1]
   rfl
  ·rw [if_pos (by omega),List.getElem?_eq_none (by omega)]
   simp
 ·rw [if_neg h0,if_pos (by omega)]
  simp
def isA (A:List Int) (p x:Int):Bool:=decide (0≤p∧A[p.toNat]?=some x)
set_option maxRecDepth 100000 in
theorem isAtom_any (enc:Int) (w:World) (t:Nat) (A:List Int) (p x:Int) (h:Tz enc w t A) (h1:-9≤p) (h2:p≤1099511627776):Calls Tryz.prog 58 #[.pointer (some ⟨t,0,none⟩),.int .i64 p,.int .i64 x] w fun e w'=>e=.returned (.bool (isA A p x))∧Below w.heap.size w w':=by
 have hw:IntKind.i64.wrap (p + 1)=p + 1:=by rw [IntKind.wrap_i64];omega
 have AT:=hidIt (Atoms_z enc w t A p (p + 1) h)
 rw [sub_one] at AT
 clear h
 by_cases hc:0≤p∧p.toNat < A.length
 ·obtain ⟨y,hy⟩:∃ y,A[p.toNat]?=some y:=⟨_,List.getElem?_eq_getElem hc.2⟩
  rw [if_pos hc.1,hy] at AT
  have HA:Hid (isA A p x=decide (y=x)):=by unfold Hid isA;simp [hc.1,hy]
  clear hc
  go_enter Tryz.func58,Tryz.ntmps58
  go_wp2_with (go_at_call 32;refine AT.out.mono ?_;rintro e w1 ⟨v,rfl,ho,hb⟩;obtain ⟨g,cap,rfl,hg,hl,hm,hcc⟩:=OwnI.row ho (by simp);have c0:w1.cell? ⟨g,0,none⟩=some (.int .i64 y):=hcc 0 _ rfl;have HB:=hidIt hb;clear hb ho hcc;(try dsimp only [Option.toList,List.length_cons,List.length_nil,Nat.zero_add] at *))
  go_ret
  exact ⟨by rw [HA.out];rfl,HB.out⟩
 ·have e:(if 0≤p then (A[p.toNat]?).toList else [])=[]:=by
   split
   ·rw [List.getElem?_eq_none (by omega)];rfl
   ·rfl
  rw [e] at AT
  have HA:Hid (isA A p x=false):=by
   unfold Hid isA
   rw [decide_eq_false_iff_not]
   rintro ⟨q1,q2⟩
   exact hc ⟨q1,(List.getElem?_eq_some_iff.1 q2).1⟩
  clear e hc
  go_enter Tryz.func58,Tryz.ntmps58
  go_wp2_with (go_at_call 32;refine AT.out.mono ?_;rintro e w1 ⟨v,rfl,ho,hb⟩;obtain ⟨ao,cap,rfl⟩:=ho.form;have HB:=hidIt hb;clear hb ho;(try dsimp only [List.length_nil]))
  go_ret
  exact ⟨by rw [HA.out];rfl,HB.out⟩
end Go.Proofs.YtjomfbegghgbdaaGreat.P
