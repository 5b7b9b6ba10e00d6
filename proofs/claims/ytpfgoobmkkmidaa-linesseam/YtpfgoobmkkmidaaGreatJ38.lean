import Derived.Test.YtpfgoobmkkmidaaGreatJ00
import Derived.Test.YtpfgoobmkkmidaaGreatJ18
import Derived.Test.YtpfgoobmkkmidaaGreatJ37
import Derived.Deep.LoopGhost
import Derived.Deep.CutRange
import Derived.Deep.CutBlock
namespace Go.Proofs.YtpfgoobmkkmidaaGreat.P
open Go.RowKit
def OwnB (w:World) (base:Nat) (v:Value) (zs:List Int):Prop:=w.ownsRow base 5 1 v zs.length (zs.map (Value.int .u8))
theorem OwnB.form {w:World} {base:Nat} {v:Value} {zs:List Int} (h:OwnB w base v zs):∃ ao cap,v=.slice ao zs.length cap:=by
 rcases h.2 with ⟨rfl,hn⟩ | ⟨g,cap,cur,hv,_⟩
 ·exact ⟨none,0,by rw [hn]⟩
 ·exact ⟨_,cap,hv⟩
theorem OwnB.ext {w w':World} {base:Nat} {v:Value} {zs:List Int} (h:OwnB w base v zs) (hb:Below w.heap.size w w'):OwnB w' base v zs:=World.ownsRow.kept (row:=none) h ⟨hb.os,hb.tape,hb.output,hb.size,fun k hk _=>hb.block k hk⟩ (by cases v.ownBlock <;> simp)
theorem rdb_new (w:World) (x:Int):∀ j u,([x].map (Value.int .u8))[j]?=some u→(w.alloc (.cells #[.int .u8 x] 5)).cell? ((⟨w.heap.size,0,none⟩:Addr).add j)=some u:=fun j u hj=>by
 cases j with
 | zero =>
   simp only [List.map_cons,List.getElem?_cons_zero,Option.some.injEq] at hj
   subst hj
   rw [show ((⟨w.heap.size,0,none⟩:Addr).add 0)=⟨w.heap.size,0,none⟩ from rfl,cell_of_row _ _ _ _ _ _ (heap_alloc_new _ _)]
   rfl
 | succ j=>simp at hj
section
variable {P:Program} {W:World} {ops:Array Oper} {rest:List Oper} {o:Oper} {a:Act} {Q:Exit→Act→World→Prop}
theorem wpl_byte (hgd:o.guard=none) (s x:Operand) (t:TypeId) (ho:o.op=.call { callee:=.builtin .append,args:=#[s,x],argTypes:=#[t,t] })
  (base:Nat) (hinf:(P.info? 5).map (fun i=>(i.zero,i.size,i.bytes))=some (some (.int .u8 0),1,1)) (ht:P.underlying t=some (.slice 5))
  (v:Value) (zs:List Int) (hs:a.eval s=v) (hown:OwnB W base v zs) (y:Int) (g:Nat) (hx:a.eval x=.slice (some ⟨g,0,none⟩) 1 1)
  (hys:∀ j u,([y].map (Value.int .u8))[j]?=some u→W.cell? ((⟨g,0,none⟩:Addr).add j)=some u) (hl:zs.length + 1≤1099511627776) (hbase:base≤W.heap.size)
  (h:∀ v' w',OwnB w' base v' (zs ++ [y])→Below base W w'→wpList P ops Q rest (a.put o.dst v') w'):wpList P ops Q (o :: rest) a W:=by
 obtain ⟨i0,hi,hz0,hz1,hz2⟩:=info_parts hinf
 refine wpList_append_own W hgd s x t ho base 5 i0 (.int .u8 0) 1 1 ht hi hz0 hz1 hz2 rfl (by decide) v zs.length (zs.map (Value.int .u8)) hs hown ⟨g,0,none⟩ 1 1 ([y].map (Value.int .u8)) hx (by simp) hys (fun u hu=>by rw [List.mem_map] at hu;obtain ⟨_,_,rfl⟩:=hu;rfl) (by unfold maxLen;omega) (by omega) hbase ?_
 intro v' w' h1 h2 _
 refine h v' w' ?_ ((Below.refl _ _).grown h2 hbase (fun k hk=>(World.ownsRow.lt hown k hk).1))
 unfold OwnB
 rw [List.length_append,List.map_append]
 exact h1
end
def OpO (w:World) (t:Nat) (v:Value) (w':World):Prop:=∃ enc A,Cx.En enc∧OwnI w' w.heap.size v A∧Tz enc w' t A∧ln enc A≤50000∧w.heap.size≤t
set_option maxRecDepth 100000 in
set_option maxHeartbeats 8000000 in
theorem opened_any (e0:Int) (vd:Value) (D:List Int) (w:World) (hD:Rd .u8 w vd D) (hB:Byt D):Calls Tryz.prog 18 #[.agg #[.int .i64 e0,vd]] w fun e w'=>∃ t v,e=.returned (.tuple #[.agg #[.pointer (some ⟨t,0,none⟩),v],.bool true])∧Hid (OpO w t v w')∧Below w.heap.size w w':=by
 obtain ⟨ad,cd,rfl,hd1,hd2,_⟩:=id hD
 have hD9:=hD.len
 obtain ⟨q1,q2⟩:=and_le e0 3 (by decide)
 generalize hq:bits .and .i64 e0 (3:Nat)=q at q1 q2
 have hq':bits .and .i64 e0 3=q:=hq
 obtain ⟨enc,he⟩:∃ enc,enc=1 + q:=⟨_,rfl⟩
 have HEN:Hid (Cx.En enc):=by unfold Hid Cx.En;omega
 have hwe:IntKind.i64.wrap (1 + q)=enc:=by rw [IntKind.wrap_i64];omega
 have HKN:Hid (Cx.known enc=true):=(Cx.known_iff enc).2 HEN.out
 clear hq q1 q2 he
 obtain ⟨w0,hw0⟩:∃ w0,w0=(w.alloc (.cells #[.int .i64 e0,.slice ad D.length cd] 24)).alloc (.cells #[.pointer none,.slice none 0 0] 29):=⟨_,rfl⟩
 have HS0:Hid (w0.heap[w.heap.size]?=some (.cells #[.int .i64 e0,.slice ad D.length cd] 24 (0,0))∧w0.heap[w.heap.size + 1]?=some (.cells #[.pointer none,.slice none 0 0] 29 (0,0))∧Below w.heap.size w w0∧w0.heap.size=w.heap.size + 2):=by
  obtain ⟨v1,hv1⟩:∃ v,v=w.alloc (.cells #[.int .i64 e0,.slice ad D.length cd] 24):=⟨_,rfl⟩
  rw [← hv1] at hw0
  have s1:v1.heap.size=w.heap.size + 1:=by rw [hv1];simp
  have b1:Below w.heap.size w v1:=by rw [hv1];exact ext_alloc (Below.refl _ _) _
  have b2:Below v1.heap.size v1 w0:=by rw [hw0];exact ext_alloc (Below.refl _ _) _
  refine ⟨(b2.block _ (by omega)).trans (by rw [hv1];exact heap_alloc_new _ _),?_,ext_trans b1 b2,by rw [hw0];simp [s1]⟩
  rw [← s1,hw0];exact heap_alloc_new _ _
 have HC:Hid (∀ w',Below w0.heap.size w0 w'→w'.cell? ⟨w.heap.size,0,none⟩=some (.int .i64 e0)∧w'.cell? ⟨w.heap.size,1,none⟩=some (.slice ad D.length cd)∧w'.heap[w.heap.size + 1]?=some (.cells #[.pointer none,.slice none 0 0] 29 (0,0))):=fun w' hb=>by
  have hs:=HS0.out.2.2.2
  obtain ⟨_,k0,k1,_⟩:=cells2 ((hb.block _ (by omega)).trans HS0.out.1)
  exact ⟨k0,k1,(hb.block _ (by omega)).trans HS0.out.2.1⟩
 have HD:=hidIt (hD.ext HS0.out.2.2.1)
 have HBY:=hidIt hB
 have HB0:=hidIt HS0.out.2.2.1
 clear hD hB
 obtain ⟨c0,c1,_⟩:=HC.out w0 (Below.refl _ _)
 go_enter Tryz.func18,Tryz.ntmps18
 go_upto_region 1 with fail
 rw [← hw0]
 clear hw0
 go_upto_block 0 with fail
 clear hq'
 go_cut [5] from 15 to 33 (fun lv wF=>∃ (ao:Option Addr) (n cap:Nat) (zs:List Int),lv=.slice ao n cap∧Hid (OwnB wF w0.heap.size (.slice ao n cap) zs∧Byt zs∧zs.length≤50000∧Below w0.heap.size w0 wF))
 case first =>
  have HI0:Hid (OwnB w0 w0.heap.size (.slice none 0 0) (D.take 0)∧Below w0.heap.size w0 w0):=⟨World.ownsRow_nil _ _ _ _,Below.refl _ _⟩
  clear c0 c1
  go_wp2_with fail
  go_loopg [5,6] D.length (fun gk lv p wr=>∃ (i:Nat) (ao:Option Addr) (n cap:Nat),i + gk=D.length∧i≤50000∧p=.int .i64 (i:Nat)∧lv=.slice ao n cap∧Hid (OwnB wr w0.heap.size (.slice ao n cap) (D.take i)∧Below w0.heap.size w0 wr))
  case atStart=>exact ⟨0,none,0,0,by omega,by omega,rfl,rfl,HI0.out⟩
  case round =>
   obtain ⟨i,ao,n,cap,hig,hi5,rfl,rfl,HI⟩:=hrel
   have HBT:Hid (Byt (D.take i)):=fun z hz=>HBY.out z (List.mem_of_mem_take hz)
   obtain ⟨c0,c1,_⟩:=HC.out wr HI.out.2
   have HG:=hidIt hig
   clear hig
   by_cases hlt:i < D.length
   ·have hltI:(i:Int) < (D.length:Int):=by omega
    by_cases hl5:(i:Int) < 50000
    ·obtain ⟨b,o,rfl,hbl,ci,_⟩:=rd_at (HD.out.ext HI.out.2) i hlt
     obtain ⟨x,hx⟩:∃ x,D[i]?=some x:=⟨_,List.getElem?_eq_getElem hlt⟩
     rw [hx,Option.getD_some] at ci
     have HT:=hidIt (take_snoc hx)
     clear hx
     have HOA:Hid (OwnB (wr.alloc (.cells #[.int .u8 x] 5)) w0.heap.size (.slice ao n cap) (D.take i)):=HI.out.1.ext (ext_alloc (Below.refl _ _) _)
     have HNW:=hidIt (rdb_new wr x)
     have HBI:=hidIt HI.out.2
     have HZ:=hidIt (show w0.heap.size≤(wr.alloc (.cells #[.int .u8 x] 5)).heap.size from Nat.le_trans HBI.out.size (size_alloc_le _ _))
     have HLN:=hidIt (show (D.take i).length + 1≤1099511627776 by rw [List.length_take];omega)
     go_wp2_with (at_builtin;refine wpl_byte rfl _ _ 22 rfl w0.heap.size Tryz.info_u8 Tryz.underlying22 (.slice ao n cap) (D.take i) rfl HOA.out x wr.heap.size rfl HNW.out HLN.out HZ.out ?_;intro v8 w8 ho8 hb8;obtain ⟨a8,c8,hv8⟩:=ho8.form;generalize hn8:(D.take i ++ [x]).length=n8 at hv8;clear hn8;subst hv8;have HO8:=hidIt ho8;have HB8:=hidIt (HBI.out.trans ((ext_alloc (Below.refl wr.heap.size wr) _).mono HBI.out.size |>.trans hb8));clear ho8 hb8)
     go_roundg (D.length - (i + 1))
     case rel=>exact ⟨i + 1,a8,n8,c8,by have:=HG.out;omega,by omega,by go_num,rfl,by rw [HT.out];exact HO8.out,HB8.out⟩
     case measure=>have:=HG.out;omega
    ·go_wp2_with fail
     go_meet
     case rel=>exact ⟨ao,n,cap,D.take i,rfl,HI.out.1,HBT.out,by rw [List.length_take];omega,HI.out.2⟩
   ·have hnl:¬ (i:Int) < (D.length:Int):=by omega
    go_wp2_with fail
    go_meet
    case rel=>exact ⟨ao,n,cap,D.take i,rfl,HI.out.1,HBT.out,by rw [List.length_take];omega,HI.out.2⟩
 obtain ⟨ao,n,cap,zs,rfl,HI⟩:=hcut
 have HRZ:Hid (Rd .u8 wc (.slice ao n cap) zs):=Rd.of_own HI.out.1
 have RD:Hid (Calls Tryz.prog 50 #[.int .i64 enc,.slice ao n cap] wc fun e w'=>∃ v',e=.returned (.tuple #[v',.int .i64 0])∧Hid (OwnI w' wc.heap.size v' (Cx.dec enc zs))∧Below wc.heap.size wc w'):=by
  refine (rDecode_any enc _ zs wc HRZ.out HI.out.2.1 (by have:=HI.out.2.2.1;omega)).mono fun e w' ⟨v',k1,k2,k3⟩=>⟨v',?_,?_,k3⟩
  ·rw [k1];unfold Cx.er;rw [if_pos HKN.out]
  ·rw [Cx.dd_yes enc zs HKN.out] at k2;exact k2
 have OP:Hid (∀ w',Below wc.heap.size wc w'→Calls Tryz.prog 51 #[.int .i64 enc,.slice ao n cap,.int .i64 65536] w' fun e w''=>OpR enc 65536 zs w' e w''):=fun w' hb=>Open_good enc 65536 _ zs w' (HRZ.out.ext hb) HI.out.2.1 (by unfold opE;rw [if_pos HKN.out,if_neg (by omega),if_neg (by have:=HI.out.2.2.1;omega)])
 have HBC:=hidIt HI.out.2.2.2
 clear c0 c1
 go_upto_region 9 with (first
  | (go_at_call 50;refine RD.out.mono ?_;rintro e w2 ⟨v2,rfl,ho2,hb⟩;obtain ⟨a2,k2,hv2⟩:=ho2.out.form;generalize hn2:(Cx.dec enc zs).length=n2 at hv2;clear hn2;subst hv2;have HO2:=hidIt ho2.out;have HB2:=hidIt hb;clear ho2 hb;(try dsimp only))
  | (go_at_call 51;refine (OP.out _ HB2.out).mono ?_;rintro e w3 ⟨t,ps,rfl,hop,hb⟩;have HOP:=hidIt hop;have HB3:=hidIt hb;clear hop hb;(try dsimp only)))
 have HW3:=hidIt (ext_trans (ext_trans HBC.out HB2.out) HB3.out)
 have HX:=hidIt (HC.out w3 HW3.out).2.2
 obtain ⟨_,c0,c1,fz⟩:=cells2 HX.out
 go_wp2_with fail
 refine bodyPost_ret (v:=.tuple #[.agg #[.pointer (some ⟨t,0,none⟩),.slice a2 n2 k2],.bool true]) (by simp [results,Tryz.results18,go_sem,c0,c1]) rfl ⟨t,.slice a2 n2 k2,rfl,?_,?_⟩
 ·obtain ⟨h1,g1⟩:=set1 HX.out 0 (.pointer (some ⟨t,0,none⟩))
  obtain ⟨h2,g2⟩:=set1 h1 1 (.slice a2 n2 k2)
  have hk:Kps (fun k=>k=w.heap.size + 1) w3 ((w3.setCell ⟨w.heap.size + 1,0,none⟩ (.pointer (some ⟨t,0,none⟩))).setCell ⟨w.heap.size + 1,1,none⟩ (.slice a2 n2 k2)):=Kps.grown (grown_trans g1 g2) fun j e _=>by cases e;rfl
  have hty:Typ 29 w3 (w.heap.size + 1):=⟨_,HX.out⟩
  have htz:Tz enc w3 t (Cx.dec enc zs):=⟨zs,ps,HOP.out.1,by rw [← sh_fst enc,HOP.out.2.1,ctn_fst]⟩
  have hle:w.heap.size≤wc.heap.size:=(ext_trans HB0.out HBC.out).size
  refine ⟨enc,Cx.dec enc zs,HEN.out,((HO2.out.ext HB3.out).oth hk hty (by decide)).le hle,htz.other hk hty (by decide) (by decide) (fun e=>?_),?_,Nat.le_trans (Nat.le_trans hle HB2.out.size) HOP.out.2.2⟩
  ·rw [e] at hty
   exact absurd (Typ.uniq hty htz.typ) (by decide)
  ·unfold ln
   rw [(Cx.back_all enc HEN.out _ zs (Nat.le_refl _) HI.out.2.1).1]
   exact HI.out.2.2.1
 ·obtain ⟨h1,g1⟩:=set1 HX.out 0 (.pointer (some ⟨t,0,none⟩))
  obtain ⟨h2,g2⟩:=set1 h1 1 (.slice a2 n2 k2)
  exact below_put (ext_trans HB0.out HW3.out) (ext_trans HB0.out HW3.out).size (grown_trans g1 g2) (by omega)
end Go.Proofs.YtpfgoobmkkmidaaGreat.P

namespace Go.Proofs.YtpfgoobmkkmidaaGreat.P
open Go.RowKit
structure AlI (enc:Int) (A:List Int) (w:World) (ao:Option Addr) (n cap:Nat) (i:Nat) (f:Int) (wr:World):Prop where
 n':(n:Int)=bAt enc A i
 f':f=skA enc A (bAt enc A i)
 ok:A[i]?=some 10→i=0∨A[i - 1]?≠some 13
 own:OwnL wr w.heap.size (.slice ao n cap) (lns enc A n)
 bel:Below w.heap.size w wr
theorem AlI.fits {enc:Int} {A:List Int} {w:World} {ao:Option Addr} {n cap:Nat} {i:Nat} {f:Int} {wr:World} (h:AlI enc A w ao n cap i f wr) (hA:A.length≤65536) (hi:i≤A.length):n≤65536∧0≤f∧f≤65536:=by
 have h1:=bAt_lip enc A i
 have h2:=h.n'
 have h3:=skA_in enc A (bAt enc A i) (bAt_nn enc A i) (bAt_le enc A i)
 rw [← h.f'] at h3
 omega
theorem AlI.push {enc:Int} {A:List Int} {w:World} {ao:Option Addr} {n cap:Nat} {i:Nat} {f:Int} {wr:World} (h:AlI enc A w ao n cap i f wr) (i':Nat) (y:Ln) (h1:bAt enc A i'=bAt enc A i + 1) (h2:skA enc A (bAt enc A i + 1)=(i':Nat))
  (h3:lnK enc A (bAt enc A i)=y) (h4:A[i']?=some 10→A[i' - 1]?≠some 13) {a8:Option Addr} {n8 c8:Nat} {w8:World} (ho:OwnL w8 w.heap.size (.slice a8 n8 c8) (lns enc A n ++ [y])) (hn:(lns enc A n ++ [y]).length=n8) (hb:Below w.heap.size w w8):AlI enc A w a8 n8 c8 i' (i':Nat) w8:=by
 rw [List.length_append,lns_len] at hn
 subst hn
 refine ⟨?_,by rw [h1,h2],fun e=>.inr (h4 e),?_,hb⟩
 ·have:=h.n'
  show ((n + 1:Nat):Int)=_
  rw [h1]
  omega
 ·show OwnL w8 w.heap.size (.slice a8 (n + 1) c8) (lns enc A (n + 1))
  rw [lns_succ,h.n',h3]
  exact ho
theorem AlI.last {enc:Int} {A:List Int} {w:World} {ao:Option Addr} {n cap:Nat} {f:Int} {wr:World} (h:AlI enc A w ao n cap A.length f wr) {a8:Option Addr} {n8 c8:Nat} {w8:World} (ho:OwnL w8 w.heap.size (.slice a8 n8 c8) (lns enc A n ++ [⟨f,A.length,A.length,0⟩])) (hn:(lns enc A n ++ [(⟨f,A.length,A.length,0⟩:Ln)]).length=n8):(n8:Int)=(spn enc A).b + 1∧OwnL w8 w.heap.size (.slice a8 n8 c8) (lns enc A n8):=by
 rw [List.length_append,lns_len] at hn
 subst hn
 have e:=h.n'
 have e2:=h.f'
 rw [bAt_len enc A _ (Nat.le_refl _)] at e e2
 refine ⟨by show ((n + 1:Nat):Int)=_;omega,?_⟩
 show OwnL w8 w.heap.size (.slice a8 (n + 1) c8) (lns enc A (n + 1))
 rw [lns_succ,e]
 unfold lnK
 rw [if_pos rfl,← e2]
 exact ho
end Go.Proofs.YtpfgoobmkkmidaaGreat.P

namespace Go.Proofs.YtpfgoobmkkmidaaGreat.P
open Go.RowKit
theorem cells4 {w:World} {b:Nat} {T:TypeId} {v0 v1 v2 v3:Value} (h:w.heap[b]?=some (.cells #[v0,v1,v2,v3] T (0,0))):b < w.heap.size∧w.cell? ⟨b,0,none⟩=some v0∧w.cell? ⟨b,1,none⟩=some v1∧w.cell? ⟨b,2,none⟩=some v2∧w.cell? ⟨b,3,none⟩=some v3∧(∀ i,w.frozen? ⟨b,i,none⟩=false):=by
 refine ⟨(Array.getElem?_eq_some_iff.1 h).1,?_,?_,?_,?_,fun i=>by simp [World.frozen?,h]⟩ <;> (rw [cell_of_row _ _ _ _ _ _ h];rfl)
theorem below4 {w w0 w1:World} {T:TypeId} {cs:Array Value} (hb0:Below w.heap.size w w0) (hg:w1.heap[w.heap.size]?=some (.cells cs T (0,0))) (hb:Below w0.heap.size w0 w1) (v0 v1 v2 v3:Value):Below w.heap.size w ((((w1.setCell ⟨w.heap.size,0,none⟩ v0).setCell ⟨w.heap.size,1,none⟩ v1).setCell ⟨w.heap.size,2,none⟩ v2).setCell ⟨w.heap.size,3,none⟩ v3):=by
 obtain ⟨h1,g1⟩:=set1 hg 0 v0
 obtain ⟨h2,g2⟩:=set1 h1 1 v1
 obtain ⟨h3,g3⟩:=set1 h2 2 v2
 obtain ⟨_,g4⟩:=set1 h3 3 v3
 exact below_put (ext_trans hb0 hb) (ext_trans hb0 hb).size (grown_trans (grown_trans (grown_trans g1 g2) g3) g4) (Nat.le_refl _)
def lnA (enc:Int) (A:List Int) (k:Int):Ln:=if k < 0∨(spn enc A).b < k then ⟨0,0,0,0⟩ else lnK enc A k
def lnE (enc:Int) (A:List Int) (k:Int):Int:=if k < 0∨(spn enc A).b < k then 2 else 0
end Go.Proofs.YtpfgoobmkkmidaaGreat.P

namespace Go.Proofs.YtpfgoobmkkmidaaGreat.P
open Go.RowKit
theorem sub_one (A:List Int) (p:Int):sub A p (p + 1)=if 0≤p then (A[p.toNat]?).toList else []:=by
 unfold sub clp
 by_cases h0:0≤p
 ·rw [if_pos h0]
  by_cases h1:p.toNat < A.length
  ·rw [if_neg (by omega),List.getElem?_eq_getElem h1]
   simp only
   rw [show (max p 0).toNat=p.toNat by omega,show (min (p + 1) (A.length:Int)).toNat - p.toNat=1 by omega,List.drop_eq_getElem_cons h1]
   rfl
  ·rw [if_pos (by omega),List.getElem?_eq_none (by omega)]
   simp
 ·rw [if_neg h0,if_pos (by omega)]
  simp
def isA (A:List Int) (p x:Int):Bool:=decide (0≤p∧A[p.toNat]?=some x)
set_option maxRecDepth 100000 in
theorem isAtom_any (enc:Int) (w:World) (t:Nat) (A:List Int) (p x:Int) (h:Tz enc w t A) (h1:-9≤p) (h2:p≤1099511627776):Calls Tryz.prog 58 #[.pointer (some ⟨t,0,none⟩),.int .i64 p,.int .i64 x] w fun e w'=>e=.returned (.bool (isA A p x))∧Below w.heap.size w w':=by
 have hw:IntKind.i64.wrap (p + 1)=p + 1:=by rw [IntKind.wrap_i64];omega
 have AT:=hidIt (Atoms_z enc w t A p (p + 1) h)
 rw [sub_one] at AT
 clear h
 by_cases hc:0≤p∧p.toNat < A.length
 ·obtain ⟨y,hy⟩:∃ y,A[p.toNat]?=some y:=⟨_,List.getElem?_eq_getElem hc.2⟩
  rw [if_pos hc.1,hy] at AT
  have HA:Hid (isA A p x=decide (y=x)):=by unfold Hid isA;simp [hc.1,hy]
  clear hc
  go_enter Tryz.func58,Tryz.ntmps58
  go_wp2_with (go_at_call 32;refine AT.out.mono ?_;rintro e w1 ⟨v,rfl,ho,hb⟩;obtain ⟨g,cap,rfl,hg,hl,hm,hcc⟩:=OwnI.row ho (by simp);have c0:w1.cell? ⟨g,0,none⟩=some (.int .i64 y):=hcc 0 _ rfl;have HB:=hidIt hb;clear hb ho hcc;(try dsimp only [Option.toList,List.length_cons,List.length_nil,Nat.zero_add] at *))
  go_ret
  exact ⟨by rw [HA.out];rfl,HB.out⟩
 ·have e:(if 0≤p then (A[p.toNat]?).toList else [])=[]:=by
   split
   ·rw [List.getElem?_eq_none (by omega)];rfl
   ·rfl
  rw [e] at AT
  have HA:Hid (isA A p x=false):=by
   unfold Hid isA
   rw [decide_eq_false_iff_not]
   rintro ⟨q1,q2⟩
   exact hc ⟨q1,(List.getElem?_eq_some_iff.1 q2).1⟩
  clear e hc
  go_enter Tryz.func58,Tryz.ntmps58
  go_wp2_with (go_at_call 32;refine AT.out.mono ?_;rintro e w1 ⟨v,rfl,ho,hb⟩;obtain ⟨ao,cap,rfl⟩:=ho.form;have HB:=hidIt hb;clear hb ho;(try dsimp only [List.length_nil]))
  go_ret
  exact ⟨by rw [HA.out];rfl,HB.out⟩
end Go.Proofs.YtpfgoobmkkmidaaGreat.P

namespace Go.Proofs.YtpfgoobmkkmidaaGreat.P
open Go.RowKit
theorem width_any (k:Int) (w:World):Calls Tryz.prog 63 #[.int .i64 k] w fun e w'=>e=.returned (.int .i64 (wid k))∧w'=w:=by
 by_cases h:k=2
 ·subst h
  go_enter Tryz.func63,Tryz.ntmps63
  go_wp2_with fail
  go_ret
  exact ⟨rfl,rfl⟩
 ·have e:wid k=1:=by unfold wid;rw [if_neg h]
  have hb:(k == 2)=false:=by simp [h]
  rw [e]
  clear e
  go_enter Tryz.func63,Tryz.ntmps63
  go_wp2_with fail
  go_ret
  exact ⟨rfl,rfl⟩
set_option maxRecDepth 100000 in
theorem kindAhead_any (enc:Int) (w:World) (t:Nat) (A:List Int) (p:Nat) (h:Tz enc w t A) (h1:1≤p) (h2:p≤1099511627776):Calls Tryz.prog 62 #[.pointer (some ⟨t,0,none⟩),.int .i64 (p:Nat)] w fun e w'=>e=.returned (.int .i64 (knd A p))∧Below w.heap.size w w':=by
 have w1:IntKind.i64.wrap ((p:Int) - 1)=(p:Int) - 1:=by rw [IntKind.wrap_i64];omega
 have w2:IntKind.i64.wrap ((p:Int) - 2)=(p:Int) - 2:=by rw [IntKind.wrap_i64];omega
 have IA:Hid (∀ w',Below w.heap.size w w'→∀ q:Int,-9≤q→q≤1099511627776→Calls Tryz.prog 58 #[.pointer (some ⟨t,0,none⟩),.int .i64 q,.int .i64 13] w' fun e w''=>e=.returned (.bool (isA A q 13))∧Below w'.heap.size w' w''):=fun w' hb q q1 q2=>isAtom_any enc w' t A q 13 (h.ext hb) q1 q2
 have e1:isA A ((p:Int) - 1) 13=decide (A[p - 1]?=some 13):=by unfold isA;rw [show ((p:Int) - 1).toNat=p - 1 by omega];simp;intro _;omega
 have e2:isA A ((p:Int) - 2) 13=decide (2≤p∧A[p - 2]?=some 13):=by unfold isA;rw [show ((p:Int) - 2).toNat=p - 2 by omega];congr 1;rw [show (0≤(p:Int) - 2)=(2≤p) from propext (by omega)]
 have C1:=hidIt (IA.out w (Below.refl _ _) ((p:Int) - 1) (by omega) (by omega))
 have C2:Hid (∀ w',Below w.heap.size w w'→Calls Tryz.prog 58 #[.pointer (some ⟨t,0,none⟩),.int .i64 ((p:Int) - 2),.int .i64 13] w' fun e w''=>e=.returned (.bool (decide (2≤p∧A[p - 2]?=some 13)))∧Below w'.heap.size w' w''):=fun w' hb=>by
  have:=IA.out w' hb ((p:Int) - 2) (by omega) (by omega)
  rwa [e2] at this
 rw [e1] at C1
 clear IA e1 e2 h h1 h2
 by_cases q1:A[p - 1]?=some 13
 ·have HE:=hidIt (show knd A p=3 by unfold knd;rw [if_pos q1])
  rw [decide_eq_true q1] at C1
  clear q1 C2
  go_enter Tryz.func62,Tryz.ntmps62
  go_wp2_with (go_at_call 58;refine C1.out.mono ?_;rintro e w3 ⟨rfl,hb⟩;have HB:=hidIt hb;clear hb;(try dsimp only))
  go_ret
  exact ⟨by rw [HE.out];rfl,HB.out⟩
 ·rw [decide_eq_false q1] at C1
  by_cases q2:2≤p∧A[p - 2]?=some 13
  ·have HE:=hidIt (show knd A p=2 by unfold knd;rw [if_neg q1,if_pos q2])
   rw [decide_eq_true q2] at C2
   clear q1 q2
   go_enter Tryz.func62,Tryz.ntmps62
   go_upto_region 3 with (go_at_call 58;refine C1.out.mono ?_;rintro e w3 ⟨rfl,hb⟩;have HB:=hidIt hb;clear hb;(try dsimp only))
   go_wp2_with (go_at_call 58;refine (C2.out _ HB.out).mono ?_;rintro e w4 ⟨rfl,hb⟩;have HB2:=hidIt (ext_trans HB.out hb);clear hb;(try dsimp only))
   go_ret
   exact ⟨by rw [HE.out];rfl,HB2.out⟩
  ·have HE:=hidIt (show knd A p=1 by unfold knd;rw [if_neg q1,if_neg q2])
   rw [decide_eq_false q2] at C2
   clear q1 q2
   go_enter Tryz.func62,Tryz.ntmps62
   go_upto_region 3 with (go_at_call 58;refine C1.out.mono ?_;rintro e w3 ⟨rfl,hb⟩;have HB:=hidIt hb;clear hb;(try dsimp only))
   go_wp2_with (go_at_call 58;refine (C2.out _ HB.out).mono ?_;rintro e w4 ⟨rfl,hb⟩;have HB2:=hidIt (ext_trans HB.out hb);clear hb;(try dsimp only))
   go_ret
   exact ⟨by rw [HE.out];rfl,HB2.out⟩
set_option maxRecDepth 100000 in
set_option maxHeartbeats 4000000 in
theorem At_z (enc:Int) (w:World) (t:Nat) (A:List Int) (k:Int) (h:Tz enc w t A):Calls Tryz.prog 27 #[.pointer (some ⟨t,0,none⟩),.int .i64 k] w fun e w'=>e=.returned (.tuple #[.agg #[.int .i64 (lnA enc A k).f,.int .i64 (lnA enc A k).t,.int .i64 (lnA enc A k).n,.int .i64 (lnA enc A k).b],.int .i64 (lnE enc A k)])∧Below w.heap.size w w':=by
 obtain ⟨w0,hw0,kk0,hb0⟩:∃ w0,w0=w.alloc (.cells #[.int .i64 0,.int .i64 0,.int .i64 0,.int .i64 0] 50)∧w0.heap[w.heap.size]?=some (.cells #[.int .i64 0,.int .i64 0,.int .i64 0,.int .i64 0] 50 (0,0))∧Below w.heap.size w w0:=⟨_,rfl,heap_alloc_new _ _,ext_alloc (Below.refl _ _) _⟩
 have hl:=h.len
 have HT:=hidIt (h.ext hb0)
 have HB0:=hidIt hb0
 have HK0:=hidIt kk0
 obtain ⟨B,hB⟩:∃ B:Nat,(spn enc A).b=B:=⟨(spn enc A).b.toNat,by have:=spn_nn enc A;omega⟩
 have hBl:B≤A.length:=by have:=spn_len enc A;omega
 have LN:=hidIt (Len_z enc w0 t A HT.out)
 have BR:Hid (∀ w',Below w0.heap.size w0 w'→Calls Tryz.prog 52 #[.pointer (some ⟨t,0,none⟩),.int .i64 (A.length:Nat)] w' fun e w''=>e=.returned (.int .i64 (B:Nat))∧Below w'.heap.size w' w''):=fun w' hb=>by
  have:=Breaks_z enc w' t A (A.length:Nat) (HT.out.ext hb)
  rw [brk_at,bAt_len enc A _ (by simp),hB] at this
  exact this
 have SK:Hid (∀ w' q,Below w0.heap.size w0 w'→Calls Tryz.prog 61 #[.pointer (some ⟨t,0,none⟩),.int .i64 q] w' fun e w''=>e=.returned (.int .i64 (skA enc A q))∧Below w'.heap.size w' w''):=fun w' q hb=>Seek_z enc w' t A q (HT.out.ext hb)
 have CL:Hid (∀ w1,Below w0.heap.size w0 w1→w1.heap[w.heap.size]?=some (.cells #[.int .i64 0,.int .i64 0,.int .i64 0,.int .i64 0] 50 (0,0))):=fun w1 hb=>(hb.block _ (Array.getElem?_eq_some_iff.1 HK0.out).1).trans HK0.out
 clear hb0 kk0 h
 by_cases h0:k < 0
 ·have HE:Hid (lnA enc A k=⟨0,0,0,0⟩∧lnE enc A k=2):=⟨by unfold lnA;rw [if_pos (.inl h0)],by unfold lnE;rw [if_pos (.inl h0)]⟩
  clear hB
  go_enter Tryz.func27,Tryz.ntmps27
  go_upto_region 1 with fail
  rw [← hw0]
  clear hw0
  go_upto_region 3 with (first
   | (go_at_call 53;refine LN.out.mono ?_;rintro e w1 ⟨rfl,hb⟩;have HB1:=hidIt hb;clear hb;(try dsimp only))
   | (go_at_call 52;refine (BR.out _ HB1.out).mono ?_;rintro e w2 ⟨rfl,hb⟩;have HB2:=hidIt (ext_trans HB1.out hb);clear hb;(try dsimp only)))
  obtain ⟨hlt,c0,c1,c2,c3,fz⟩:=cells4 (CL.out _ HB2.out)
  go_wp2_with fail
  exact bodyPost_ret (v:=.tuple #[.agg #[.int .i64 0,.int .i64 0,.int .i64 0,.int .i64 0],.int .i64 2]) (by simp [results,Tryz.results27,go_sem,c0,c1,c2,c3]) rfl ⟨by rw [HE.out.1,HE.out.2],below4 HB0.out (CL.out _ HB2.out) HB2.out _ _ _ _⟩
 by_cases h1:(B:Int) < k
 ·have HE:Hid (lnA enc A k=⟨0,0,0,0⟩∧lnE enc A k=2):=⟨by unfold lnA;rw [if_pos (.inr (by omega))],by unfold lnE;rw [if_pos (.inr (by omega))]⟩
  clear hB
  go_enter Tryz.func27,Tryz.ntmps27
  go_upto_region 1 with fail
  rw [← hw0]
  clear hw0
  go_upto_region 3 with (first
   | (go_at_call 53;refine LN.out.mono ?_;rintro e w1 ⟨rfl,hb⟩;have HB1:=hidIt hb;clear hb;(try dsimp only))
   | (go_at_call 52;refine (BR.out _ HB1.out).mono ?_;rintro e w2 ⟨rfl,hb⟩;have HB2:=hidIt (ext_trans HB1.out hb);clear hb;(try dsimp only)))
  obtain ⟨hlt,c0,c1,c2,c3,fz⟩:=cells4 (CL.out _ HB2.out)
  go_wp2_with fail
  exact bodyPost_ret (v:=.tuple #[.agg #[.int .i64 0,.int .i64 0,.int .i64 0,.int .i64 0],.int .i64 2]) (by simp [results,Tryz.results27,go_sem,c0,c1,c2,c3]) rfl ⟨by rw [HE.out.1,HE.out.2],below4 HB0.out (CL.out _ HB2.out) HB2.out _ _ _ _⟩
 have HE:Hid (lnA enc A k=lnK enc A k∧lnE enc A k=0):=⟨by unfold lnA;rw [if_neg (by omega)],by unfold lnE;rw [if_neg (by omega)]⟩
 obtain ⟨i,rfl⟩:∃ i:Nat,k=i:=⟨k.toNat,by omega⟩
 have hiB:i≤B:=by omega
 have S1:Hid (∀ w',Below w0.heap.size w0 w'→Calls Tryz.prog 61 #[.pointer (some ⟨t,0,none⟩),.int .i64 (i:Nat)] w' fun e w''=>e=.returned (.int .i64 (skA enc A (i:Nat)))∧Below w'.heap.size w' w''):=fun w' hb=>SK.out w' _ hb
 rcases Nat.lt_or_eq_of_le hiB with h2 | h2
 ·obtain ⟨p,hp,hp1,hp2,_⟩:=skA_at enc A ((i:Int) + 1) (by omega) (by omega)
  have HY:Hid (lnK enc A (i:Nat)=⟨skA enc A (i:Nat),(p:Nat) - wid (knd A p),(p:Nat),knd A p⟩):=by
   unfold Hid lnK
   rw [if_neg (by omega),hp]
   simp
  have hwd:1≤wid (knd A p)∧wid (knd A p)≤2:=by unfold wid;split <;> omega
  have S2:Hid (∀ w',Below w0.heap.size w0 w'→Calls Tryz.prog 61 #[.pointer (some ⟨t,0,none⟩),.int .i64 ((i:Int) + 1)] w' fun e w''=>e=.returned (.int .i64 (p:Nat))∧Below w'.heap.size w' w''):=fun w' hb=>by
   have:=SK.out w' ((i:Int) + 1) hb
   rwa [hp] at this
  have KA:Hid (∀ w',Below w0.heap.size w0 w'→Calls Tryz.prog 62 #[.pointer (some ⟨t,0,none⟩),.int .i64 (p:Nat)] w' fun e w''=>e=.returned (.int .i64 (knd A p))∧Below w'.heap.size w' w''):=fun w' hb=>kindAhead_any enc w' t A p (HT.out.ext hb) hp1 (by omega)
  have WD:Hid (∀ w',Calls Tryz.prog 63 #[.int .i64 (knd A p)] w' fun e w''=>e=.returned (.int .i64 (wid (knd A p)))∧w''=w'):=fun w'=>width_any _ w'
  have hwi:IntKind.i64.wrap ((i:Int) + 1)=(i:Int) + 1:=by rw [IntKind.wrap_i64];omega
  have hws:IntKind.i64.wrap ((p:Int) - wid (knd A p))=(p:Int) - wid (knd A p):=by rw [IntKind.wrap_i64];omega
  have hne:¬ ((i:Int)=(B:Int)):=by omega
  have hne':((i:Int) == (B:Int))=false:=by simp;omega
  generalize knd A p=kd at *
  generalize wid kd=wk at *
  generalize skA enc A (i:Nat)=f at *
  clear hB hp SK hwd
  go_enter Tryz.func27,Tryz.ntmps27
  go_upto_region 1 with fail
  rw [← hw0]
  clear hw0
  go_upto_region 3 with (first
   | (go_at_call 53;refine LN.out.mono ?_;rintro e w1 ⟨rfl,hb⟩;have HB1:=hidIt hb;clear hb;(try dsimp only))
   | (go_at_call 52;refine (BR.out _ HB1.out).mono ?_;rintro e w2 ⟨rfl,hb⟩;have HB2:=hidIt (ext_trans HB1.out hb);clear hb;(try dsimp only)))
  go_upto_region 6 with (go_at_call 61;refine (S1.out _ HB2.out).mono ?_;rintro e w3 ⟨rfl,hb⟩;have HB3:=hidIt (ext_trans HB2.out hb);clear hb;(try dsimp only))
  go_upto_region 9 with (go_at_call 61;refine (S2.out _ HB3.out).mono ?_;rintro e w4 ⟨rfl,hb⟩;have HB4:=hidIt (ext_trans HB3.out hb);clear hb;(try dsimp only))
  go_upto_region 10 with (go_at_call 62;refine (KA.out _ HB4.out).mono ?_;rintro e w5 ⟨rfl,hb⟩;have HB5:=hidIt (ext_trans HB4.out hb);clear hb;(try dsimp only))
  obtain ⟨hlt,c0,c1,c2,c3,fz⟩:=cells4 (CL.out _ HB5.out)
  go_wp2_with (go_at_call 63;refine (WD.out _).mono ?_;rintro e w6 ⟨rfl,hb⟩;subst hb;(try dsimp only))
  exact bodyPost_ret (v:=.tuple #[.agg #[.int .i64 f,.int .i64 ((p:Nat) - wk),.int .i64 (p:Nat),.int .i64 kd],.int .i64 0]) (by simp [results,Tryz.results27,go_sem,c0,c1,c2,c3]) rfl ⟨by rw [HE.out.1,HE.out.2,HY.out],below4 HB0.out (CL.out _ HB5.out) HB5.out _ _ _ _⟩
 ·subst h2
  have HY:Hid (lnK enc A (i:Nat)=⟨skA enc A (i:Nat),(A.length:Nat),(A.length:Nat),0⟩):=by
   unfold Hid lnK
   rw [if_pos hB.symm]
  generalize skA enc A (i:Nat)=f at *
  clear hB SK
  go_enter Tryz.func27,Tryz.ntmps27
  go_upto_region 1 with fail
  rw [← hw0]
  clear hw0
  go_upto_region 3 with (first
   | (go_at_call 53;refine LN.out.mono ?_;rintro e w1 ⟨rfl,hb⟩;have HB1:=hidIt hb;clear hb;(try dsimp only))
   | (go_at_call 52;refine (BR.out _ HB1.out).mono ?_;rintro e w2 ⟨rfl,hb⟩;have HB2:=hidIt (ext_trans HB1.out hb);clear hb;(try dsimp only)))
  go_upto_region 6 with (go_at_call 61;refine (S1.out _ HB2.out).mono ?_;rintro e w3 ⟨rfl,hb⟩;have HB3:=hidIt (ext_trans HB2.out hb);clear hb;(try dsimp only))
  obtain ⟨hlt,c0,c1,c2,c3,fz⟩:=cells4 (CL.out _ HB3.out)
  go_wp2_with fail
  exact bodyPost_ret (v:=.tuple #[.agg #[.int .i64 f,.int .i64 (A.length:Nat),.int .i64 (A.length:Nat),.int .i64 0],.int .i64 0]) (by simp [results,Tryz.results27,go_sem,c0,c1,c2,c3]) rfl ⟨by rw [HE.out.1,HE.out.2,HY.out],below4 HB0.out (CL.out _ HB3.out) HB3.out _ _ _ _⟩
end Go.Proofs.YtpfgoobmkkmidaaGreat.P

namespace Go.Proofs.YtpfgoobmkkmidaaGreat.P
open Go.RowKit
def tl (b f n:Int):Bool:=decide (0 < b∧f=n)
set_option maxRecDepth 100000 in
theorem isTail_any (b f n:Int) (w:World):Calls Tryz.prog 54 #[.int .i64 b,.agg #[.int .i64 f,.int .i64 n,.int .i64 n,.int .i64 0]] w fun e w'=>e=.returned (.bool (tl b f n))∧Below w.heap.size w w':=by
 by_cases h0:0 < b
 ·by_cases h1:f=n
  ·subst h1
   have HE:=hidIt (show tl b f f=true by unfold tl;simp [h0])
   go_enter Tryz.func54,Tryz.ntmps54
   go_wp2_with fail
   go_ret
   exact ⟨by rw [HE.out];rfl,ext_alloc (Below.refl _ _) _⟩
  ·have HE:=hidIt (show tl b f n=false by unfold tl;simp [h1])
   have hb1:(n == f)=false:=by simp;omega
   go_enter Tryz.func54,Tryz.ntmps54
   go_wp2_with fail
   go_ret
   exact ⟨by rw [HE.out];rfl,ext_alloc (Below.refl _ _) _⟩
 ·have HE:=hidIt (show tl b f n=false by unfold tl;simp [h0])
  go_enter Tryz.func54,Tryz.ntmps54
  go_wp2_with fail
  go_ret
  exact ⟨by rw [HE.out];rfl,ext_alloc (Below.refl _ _) _⟩
theorem lnA_last (enc:Int) (A:List Int):lnA enc A (spn enc A).b=⟨skA enc A (spn enc A).b,A.length,A.length,0⟩∧lnE enc A (spn enc A).b=0:=by
 have:=spn_nn enc A
 unfold lnA lnE lnK
 rw [if_neg (by omega),if_pos rfl,if_neg (by omega)]
 exact ⟨rfl,rfl⟩
theorem cnt_tl (enc:Int) (A:List Int):cnt enc A=if tl (spn enc A).b (skA enc A (spn enc A).b) A.length=true then (spn enc A).b else (spn enc A).b + 1:=by
 rw [cnt_tail]
 unfold tl
 simp only [decide_eq_true_eq]
set_option maxRecDepth 100000 in
theorem Count_z (enc:Int) (w:World) (t:Nat) (A:List Int) (h:Tz enc w t A):Calls Tryz.prog 19 #[.pointer (some ⟨t,0,none⟩)] w fun e w'=>e=.returned (.int .i64 (cnt enc A))∧Below w.heap.size w w':=by
 have hl:=h.len
 have HT:=hidIt h
 have LN:=hidIt (Len_z enc w t A h)
 have HC:=hidIt (cnt_tl enc A)
 obtain ⟨hA1,hA2⟩:=lnA_last enc A
 obtain ⟨B,hB⟩:∃ B:Nat,(spn enc A).b=B:=⟨(spn enc A).b.toNat,by have:=spn_nn enc A;omega⟩
 have hBl:B≤A.length:=by have:=spn_len enc A;omega
 have BR:Hid (∀ w',Below w.heap.size w w'→Calls Tryz.prog 52 #[.pointer (some ⟨t,0,none⟩),.int .i64 (A.length:Nat)] w' fun e w''=>e=.returned (.int .i64 (B:Nat))∧Below w'.heap.size w' w''):=fun w' hb=>by
  have:=Breaks_z enc w' t A (A.length:Nat) (HT.out.ext hb)
  rw [brk_at,bAt_len enc A _ (by simp),hB] at this
  exact this
 rw [hB] at hA1 hA2 HC
 have AT:Hid (∀ w',Below w.heap.size w w'→Calls Tryz.prog 27 #[.pointer (some ⟨t,0,none⟩),.int .i64 (B:Nat)] w' fun e w''=>e=.returned (.tuple #[.agg #[.int .i64 (skA enc A (B:Nat)),.int .i64 (A.length:Nat),.int .i64 (A.length:Nat),.int .i64 0],.int .i64 0])∧Below w'.heap.size w' w''):=fun w' hb=>by
  have:=At_z enc w' t A (B:Nat) (HT.out.ext hb)
  rwa [hA1,hA2] at this
 have IT:Hid (∀ w':World,Calls Tryz.prog 54 #[.int .i64 (B:Nat),.agg #[.int .i64 (skA enc A (B:Nat)),.int .i64 (A.length:Nat),.int .i64 (A.length:Nat),.int .i64 0]] w' fun e w''=>e=.returned (.bool (tl (B:Nat) (skA enc A (B:Nat)) A.length))∧Below w'.heap.size w' w''):=fun w'=>isTail_any _ _ _ w'
 have hw:IntKind.i64.wrap ((B:Int) + 1)=(B:Int) + 1:=by rw [IntKind.wrap_i64];omega
 generalize skA enc A (B:Nat)=f at *
 generalize htl:tl (B:Nat) f A.length=q at *
 clear h hA1 hA2 hB htl
 cases q with
 | true =>
   go_enter Tryz.func19,Tryz.ntmps19
   go_wp2_with (first
    | (go_at_call 53;refine LN.out.mono ?_;rintro e w1 ⟨rfl,hb⟩;have HB1:=hidIt hb;clear hb;(try dsimp only))
    | (go_at_call 52;refine (BR.out _ HB1.out).mono ?_;rintro e w2 ⟨rfl,hb⟩;have HB2:=hidIt (ext_trans HB1.out hb);clear hb;(try dsimp only))
    | (go_at_call 27;refine (AT.out _ HB2.out).mono ?_;rintro e w3 ⟨rfl,hb⟩;have HB3:=hidIt (ext_trans HB2.out hb);clear hb;(try dsimp only))
    | (go_at_call 54;refine (IT.out _).mono ?_;rintro e w4 ⟨rfl,hb⟩;have HB4:=hidIt (ext_trans (ext_trans HB3.out (ext_alloc (Below.refl _ _) _)) hb);clear hb;(try dsimp only)))
   go_ret
   exact ⟨by rw [HC.out];rfl,HB4.out⟩
 | false =>
   go_enter Tryz.func19,Tryz.ntmps19
   go_wp2_with (first
    | (go_at_call 53;refine LN.out.mono ?_;rintro e w1 ⟨rfl,hb⟩;have HB1:=hidIt hb;clear hb;(try dsimp only))
    | (go_at_call 52;refine (BR.out _ HB1.out).mono ?_;rintro e w2 ⟨rfl,hb⟩;have HB2:=hidIt (ext_trans HB1.out hb);clear hb;(try dsimp only))
    | (go_at_call 27;refine (AT.out _ HB2.out).mono ?_;rintro e w3 ⟨rfl,hb⟩;have HB3:=hidIt (ext_trans HB2.out hb);clear hb;(try dsimp only))
    | (go_at_call 54;refine (IT.out _).mono ?_;rintro e w4 ⟨rfl,hb⟩;have HB4:=hidIt (ext_trans (ext_trans HB3.out (ext_alloc (Below.refl _ _) _)) hb);clear hb;(try dsimp only)))
   go_ret
   exact ⟨by rw [HC.out];rfl,HB4.out⟩
theorem Of_z (enc:Int) (w:World) (t:Nat) (A:List Int) (z:Int) (h:Tz enc w t A):Calls Tryz.prog 31 #[.pointer (some ⟨t,0,none⟩),.int .i64 z] w fun e w'=>e=.returned (.int .i64 (brk enc A z))∧Below w.heap.size w w':=by
 have BR:=hidIt (Breaks_z enc w t A z h)
 clear h
 go_enter Tryz.func31,Tryz.ntmps31
 go_wp2_with (go_at_call 52;refine BR.out.mono ?_;rintro e w2 ⟨rfl,hb⟩;have HB2:=hidIt hb;clear hb;(try dsimp only))
 go_ret
 exact ⟨rfl,HB2.out⟩
end Go.Proofs.YtpfgoobmkkmidaaGreat.P

namespace Go.Proofs.YtpfgoobmkkmidaaGreat.P
open Go.RowKit
structure Opv where
 who:Int
 k:Int
 a:Int
 b:Int
 put:List Int
def Opv.val (o:Opv) (v:Value):Value:=.agg #[.int .i64 o.who,.int .i64 o.k,.int .i64 o.a,.int .i64 o.b,v]
structure Opv.Ok (o:Opv):Prop where
 a:-9223372036854775808≤o.a∧o.a≤9223372036854775807
 b:-9223372036854775808≤o.b∧o.b≤9223372036854775807
 z:o.put.length * 8≤140737488351232
def StO (enc:Int) (w:World) (g t m:Nat) (w':World):Prop:=(∃ A',BtW enc w' g t A' (m + 1))∧Kps (fun k=>k=g∨k=t) w w'
theorem StO.of {enc:Int} {w w':World} {g t:Nat} {A:List Int} {m:Nat} (h:BtW enc w g t A m) (hb:Below w.heap.size w w'):StO enc w g t m w':=by
 have h1:=h.ext hb
 exact ⟨⟨A,h1.ex,h1.tz,by have:=h1.bd;omega,h1.en⟩,Kps.of_below _ hb⟩
end Go.Proofs.YtpfgoobmkkmidaaGreat.P
