import Derived.Test.YtjjfakokakamaaaGreatJ10
import Derived.Deep.RegionHeld3
import Derived.OwnWalk
import Derived.Deep.CutRange
import Derived.Deep.CutBlock
import Derived.Laws.CopyOwn
import Derived.ProofKit
import Derived.OpenShut
import Derived.ChangeOld
import Derived.SizedLaws
import Derived.Below
namespace Go.Proofs.YtjjfakokakamaaaGreat.P
open Go.RowKit
set_option maxRecDepth 100000 in
theorem sameInts_any (v1 v2:Value) (zs:List Int) (w:World) (h1:Rd .i64 w v1 zs) (h2:Rd .i64 w v2 zs) :
  Calls Tryz.prog 22 #[v1,v2] w fun e w'=>e=.returned (.bool true)∧Below w.heap.size w w':=by
 have hlen:=h1.len
 obtain ⟨ao,cap,rfl,hl1,hc1,h1⟩:=h1
 obtain ⟨ao2,cap2,rfl,hl2,hc2,h2⟩:=h2
 by_cases hn:zs=[]
 ·subst hn
  clear h1 h2
  simp only [List.length_nil]
  go_enter Tryz.func22,Tryz.ntmps22
  go_wp2
  refine wp_loop_rounds 1 ?_
  rw [rounds_succ]
  go_wp2
  go_ret
  exact ⟨rfl,Below.refl _ _⟩
 ·obtain ⟨b,off,rfl,hb,hcl⟩:=h1 hn
  obtain ⟨b2,off2,rfl,hb2,hcl2⟩:=h2 hn
  have hq:((zs.length:Int) != (zs.length:Int))=false:=by simp
  clear h1 h2 hn
  go_enter Tryz.func22,Tryz.ntmps22
  go_wp2
  go_loopw [5] (fun i wr=>∃ k:Nat,k≤zs.length∧i=.int .i64 k∧Below w.heap.size w wr) (fun i _=>zs.length - (intOf i).toNat)
  case atStart=>exact ⟨0,Nat.zero_le _,rfl,Below.refl _ _⟩
  case round =>
   obtain ⟨k,hk,rfl,hbw⟩:=hrel
   by_cases hlt:k < zs.length
   ·have c1:wr.cell? ⟨b,off + k,none⟩=some (.int .i64 (zs[k]?.getD 0)):=(hbw.cell (p:=⟨b,off + k,none⟩) hb).trans (hcl _ hlt)
    have c2:wr.cell? ⟨b2,off2 + k,none⟩=some (.int .i64 (zs[k]?.getD 0)):=(hbw.cell (p:=⟨b2,off2 + k,none⟩) hb2).trans (hcl2 _ hlt)
    have hi1:(k:Int) < (zs.length:Int):=by omega
    generalize zs[k]?.getD 0=x at *
    clear hcl hcl2
    go_wp2
    go_quiet (fail)
    go_wp2
    go_roundw
    case rel=>exact ⟨k + 1,by omega,by go_num,below_drewN hbw _⟩
    case measure=>simp [intOf];omega
   ·clear hcl hcl2
    go_wp2
    go_ret
    exact ⟨rfl,hbw⟩
set_option maxRecDepth 100000 in
theorem sameBytes_eq (v1 v2:Value) (zs:List Int) (w:World) (h1:Rd .u8 w v1 zs) (h2:Rd .u8 w v2 zs) :
  Calls Tryz.prog 23 #[v1,v2] w fun e w'=>e=.returned (.bool true)∧Below w.heap.size w w':=by
 have hlen:=h1.len
 obtain ⟨ao,cap,rfl,hl1,hc1,h1⟩:=h1
 obtain ⟨ao2,cap2,rfl,hl2,hc2,h2⟩:=h2
 by_cases hn:zs=[]
 ·subst hn
  clear h1 h2
  simp only [List.length_nil]
  go_enter Tryz.func23,Tryz.ntmps23
  go_wp2
  refine wp_loop_rounds 1 ?_
  rw [rounds_succ]
  go_wp2
  go_ret
  exact ⟨rfl,Below.refl _ _⟩
 ·obtain ⟨b,off,rfl,hb,hcl⟩:=h1 hn
  obtain ⟨b2,off2,rfl,hb2,hcl2⟩:=h2 hn
  have hq:((zs.length:Int) != (zs.length:Int))=false:=by simp
  clear h1 h2 hn
  go_enter Tryz.func23,Tryz.ntmps23
  go_wp2
  go_loopw [5] (fun i wr=>∃ k:Nat,k≤zs.length∧i=.int .i64 k∧Below w.heap.size w wr) (fun i _=>zs.length - (intOf i).toNat)
  case atStart=>exact ⟨0,Nat.zero_le _,rfl,Below.refl _ _⟩
  case round =>
   obtain ⟨k,hk,rfl,hbw⟩:=hrel
   by_cases hlt:k < zs.length
   ·have c1:wr.cell? ⟨b,off + k,none⟩=some (.int .u8 (zs[k]?.getD 0)):=(hbw.cell (p:=⟨b,off + k,none⟩) hb).trans (hcl _ hlt)
    have c2:wr.cell? ⟨b2,off2 + k,none⟩=some (.int .u8 (zs[k]?.getD 0)):=(hbw.cell (p:=⟨b2,off2 + k,none⟩) hb2).trans (hcl2 _ hlt)
    have hi1:(k:Int) < (zs.length:Int):=by omega
    generalize zs[k]?.getD 0=x at *
    clear hcl hcl2
    go_wp2
    go_quiet (fail)
    go_wp2
    go_roundw
    case rel=>exact ⟨k + 1,by omega,by go_num,below_drewN hbw _⟩
    case measure=>simp [intOf];omega
   ·clear hcl hcl2
    go_wp2
    go_ret
    exact ⟨rfl,hbw⟩
theorem clp_all (n:Nat):clp n 0 n=(0,n):=by
 unfold clp
 split
 ·have:n=0:=by omega
  subst this;rfl
 ·simp
theorem btw_all (enc:Int) (ps:List PG):btw enc ps 0 (sh enc ps).length=sh enc ps:=by unfold btw;rw [List.drop_zero,Nat.sub_zero,List.take_length]
theorem OwnI.ext {w w':World} {base:Nat} {v:Value} {zs:List Int} (h:OwnI w base v zs) (hb:Below w.heap.size w w'):OwnI w' base v zs:=World.ownsRow.kept (row:=none) h ⟨hb.os,hb.tape,hb.output,hb.size,fun k hk _=>hb.block k hk⟩ (by cases v.ownBlock <;> simp)
theorem OwnI.kps {w w':World} {base g:Nat} {v:Value} {zs:List Int} (h:OwnI w base v zs) (hk:Kps (fun k=>k=g) w w') (hg:g < base):OwnI w' base v zs:=by
 obtain ⟨h1,h2⟩:=h
 refine ⟨h1,?_⟩
 rcases h2 with h2 | ⟨k,cap,cur,hv,hb,hgg,r⟩
 ·exact .inl h2
 ·exact .inr ⟨k,cap,cur,hv,hb,(hk.same k (Array.getElem?_eq_some_iff.1 hgg).1 (fun e=>by omega)).trans hgg,r⟩
theorem put3 {T:TypeId} {w:World} {g:Nat} {a0 a1 a2:Value} (h:w.heap[g]?=some (.cells #[a0,a1,a2] T (0,0))) (x0 x1 x2:Value) :
  (((w.setCell ⟨g,0,none⟩ x0).setCell ⟨g,1,none⟩ x1).setCell ⟨g,2,none⟩ x2).heap[g]?=some (.cells #[x0,x1,x2] T (0,0))∧Kps (fun k=>k=g) w (((w.setCell ⟨g,0,none⟩ x0).setCell ⟨g,1,none⟩ x1).setCell ⟨g,2,none⟩ x2):=by
 obtain ⟨p0,q0⟩:=set1 h 0 x0
 obtain ⟨p1,q1⟩:=set1 p0 1 x1
 obtain ⟨p2,q2⟩:=set1 p1 2 x2
 have k:∀ {A B:World},A.grownBy B (some g)→Kps (fun k=>k=g) A B:=fun h=>Kps.grown h fun j e _=>(Option.some.inj e).symm
 exact ⟨p2,((k q0).trans (k q1) fun _ _ e=>e).trans (k q2) fun _ _ e=>e⟩
theorem OwnI.mono {w:World} {base base':Nat} {v:Value} {zs:List Int} (h:OwnI w base v zs) (hb:base'≤base):OwnI w base' v zs:=by
 obtain ⟨h1,h2⟩:=h
 refine ⟨h1,?_⟩
 rcases h2 with h2 | ⟨g,cap,cur,hv,hg,r⟩
 ·exact .inl h2
 ·exact .inr ⟨g,cap,cur,hv,by omega,r⟩
end Go.Proofs.YtjjfakokakamaaaGreat.P

namespace Go.Proofs.YtjjfakokakamaaaGreat.P
open Go.RowKit
end Go.Proofs.YtjjfakokakamaaaGreat.P

namespace Go.Proofs.YtjjfakokakamaaaGreat.P
open Go.RowKit
def OwnB (w:World) (base:Nat) (v:Value) (zs:List Int):Prop:=w.ownsRow base 5 1 v zs.length (zs.map (Value.int .u8))
section
variable {P:Program} {W:World} {ops:Array Oper} {rest:List Oper} {o:Oper} {a:Act} {Q:Exit→Act→World→Prop}
theorem wpl_bytes (hgd:o.guard=none) (s x:Operand) (t:TypeId) (ho:o.op=.call { callee:=.builtin .append,args:=#[s,x],argTypes:=#[t,t] })
  (base:Nat) (hinf:(P.info? 5).map (fun i=>(i.zero,i.size,i.bytes))=some (some (.int .u8 0),1,1)) (ht:P.underlying t=some (.slice 5))
  (v:Value) (zs:List Int) (hs:a.eval s=v) (hown:OwnB W base v zs) (ys:List Int) (ao:Option Addr) (m c:Nat) (hx:a.eval x=.slice ao m c) (hm:m=ys.length)
  (hys:(ao=none∧c=0∧ys=[])∨∃ ad,ao=some ad∧∀ j u,(ys.map (Value.int .u8))[j]?=some u→W.cell? (ad.add j)=some u) (hl:zs.length + ys.length≤1099511627776) (hbase:base≤W.heap.size)
  (h:∀ v' w',OwnB w' base v' (zs ++ ys)→Below base W w'→wpList P ops Q rest (a.put o.dst v') w'):wpList P ops Q (o :: rest) a W:=by
 obtain ⟨i0,hi,hz0,hz1,hz2⟩:=info_parts hinf
 subst hm
 rcases hys with ⟨rfl,rfl,rfl⟩ | ⟨ad,rfl,hc⟩
 ·refine wpList_append_own_none hgd s x t ho base 5 i0 1 ht hi v zs.length (zs.map (Value.int .u8)) hs hown hx ?_
  exact h v W (by rw [List.append_nil];exact hown) (Below.refl _ _)
 ·refine wpList_append_own W hgd s x t ho base 5 i0 (.int .u8 0) 1 1 ht hi hz0 hz1 hz2 rfl (by decide) v zs.length (zs.map (Value.int .u8)) hs hown ad ys.length c (ys.map (Value.int .u8)) hx (by simp) hc (fun u hu=>by rw [List.mem_map] at hu;obtain ⟨_,_,rfl⟩:=hu;rfl) (by unfold maxLen;omega) (by omega) hbase ?_
  intro v' w' h1 h2 _
  refine h v' w' ?_ ((Below.refl _ _).grown h2 hbase (fun k hk=>(World.ownsRow.lt hown k hk).1))
  unfold OwnB
  rw [List.length_append,List.map_append]
  exact h1
end
set_option maxRecDepth 100000 in
set_option maxHeartbeats 2000000 in
theorem opened_any (enc:Int) (he:Cx.known enc=true) (ao:Option Addr) (cap:Nat) (zs:List Int) (w:World) (h:Rd .u8 w (.slice ao zs.length cap) zs) (hB:Byt zs) (hz:zs.length≤65536) (hv:ao=none→cap=0∧zs=[]) :
  Calls Tryz.prog 17 #[.int .i64 enc,.slice ao zs.length cap] w fun e w'=>∃ (t:Nat) (ps:List PG),e=.returned (.pointer (some ⟨t,0,none⟩))∧Hid (Tx enc 65536 zs w' t ps∧sh enc ps=ctn enc 0 (Cx.dec enc zs)∧w.heap.size≤t)∧Below w.heap.size w w':=by
 have OP:Hid (∀ v w',Rd .u8 w' v zs→Calls Tryz.prog 37 #[.int .i64 enc,v,.int .i64 65536] w' fun e w''=>OpR enc 65536 zs w' e w''):=fun v w' hr=>Open_good enc 65536 v zs w' hr hB (by unfold opE;rw [if_pos he,if_neg (by omega),if_neg (by omega)])
 have NIL:Hid (OwnB w w.heap.size (.slice none 0 0) []):=World.ownsRow_nil _ _ _ _
 have HL:=hidIt (show ([]:List Int).length + zs.length≤1099511627776 by simp;omega)
 have HY:Hid ((ao=none∧cap=0∧zs=[])∨∃ ad,ao=some ad∧∀ j u,(zs.map (Value.int .u8))[j]?=some u→w.cell? (ad.add j)=some u):=by
  cases ao with
  | none=>exact .inl ⟨rfl,hv rfl⟩
  | some ad =>
    refine .inr ⟨ad,rfl,fun j u hj=>?_⟩
    obtain ⟨ao',cap',e1,_,_,h4⟩:=h
    simp only [Value.slice.injEq] at e1
    obtain ⟨rfl,_,_⟩:=e1
    rw [List.getElem?_map] at hj
    cases hz:zs[j]? with
    | none=>rw [hz] at hj;cases hj
    | some z =>
      rw [hz] at hj
      simp only [Option.map_some,Option.some.injEq] at hj
      subst hj
      have hjl:=(List.getElem?_eq_some_iff.1 hz).1
      obtain ⟨b,o,e2,_,hc⟩:=h4 (by intro e;subst e;simp at hjl)
      cases e2
      have:=hc j hjl
      rw [hz,Option.getD_some] at this
      rw [← this]
      unfold Addr.add
      split
      ·rename_i h0;subst h0;rfl
      ·rfl
 clear hv h
 go_enter Tryz.func17,Tryz.ntmps17
 go_wp2_with (first
  | (at_builtin;refine wpl_bytes rfl _ _ 32 rfl w.heap.size Tryz.info_u8 Tryz.underlying32 (.slice none 0 0) [] rfl NIL.out zs ao zs.length cap rfl rfl HY.out HL.out (Nat.le_refl _) ?_;intro v1 w1 ho1 hb1;rw [List.nil_append] at ho1;have HR1:=hidIt (Rd.of_own ho1);have HB1:=hidIt hb1;obtain ⟨a1,c1,hv1,_⟩:=id (Rd.of_own ho1);subst hv1;have OP1:=hidIt (OP.out _ w1 HR1.out);clear ho1 hb1)
  | (go_at_call 37;refine OP1.out.mono ?_;rintro e w2 ⟨t,ps,rfl,hop,hb2⟩;have HOP:=hidIt hop;have HB2:=hidIt (ext_trans HB1.out hb2);clear hop hb2;(try dsimp only)))
 go_ret
 exact ⟨t,ps,rfl,⟨HOP.out.1,HOP.out.2.1,Nat.le_trans HB1.out.size HOP.out.2.2⟩,HB2.out⟩
end Go.Proofs.YtjjfakokakamaaaGreat.P

namespace Go.Proofs.YtjjfakokakamaaaGreat.P
open Go.RowKit
def SnR (w:World) (va vt vb:Value) (az ts bs:List Int):Prop:=Rd .i64 w va az∧Rd .i64 w vt ts∧Rd .u8 w vb bs
theorem SnR.ext {w w':World} {va vt vb:Value} {az ts bs:List Int} (h:SnR w va vt vb az ts bs) (hb:Below w.heap.size w w'):SnR w' va vt vb az ts bs:=⟨h.1.ext hb,h.2.1.ext hb,h.2.2.ext hb⟩
end Go.Proofs.YtjjfakokakamaaaGreat.P

namespace Go.Proofs.YtjjfakokakamaaaGreat.P
open Go.RowKit
def tgd (l:List (Int × Int)):List (Int × Int):=l.filter fun x=>x.2 != -1
theorem tgd_app (a b:List (Int × Int)):tgd (a ++ b)=tgd a ++ tgd b:=by unfold tgd;exact List.filter_append ..
theorem tgd_new (p:List Int):tgd (p.map fun a=>(a,(-1:Int)))=[]:=by
 induction p with
 | nil=>rfl
 | cons a p ih=>unfold tgd at *;rw [List.map_cons,List.filter_cons_of_neg (by simp)];exact ih
theorem tgd_ap (l:List (Int × Int)):∀ (es:List Ed) (p:Nat),rg l.length p es=true→(tgd (apE l p es)).Sublist (tgd (l.drop p)):=by
 intro es
 induction es with
 | nil=>intro p _;exact List.Sublist.refl _
 | cons e es ih =>
   intro p h
   rw [rg_cons] at h
   obtain ⟨⟨h1,h2,h3⟩,h4⟩:=h
   have k:=ih e.2.1.toNat (by rwa [Int.toNat_of_nonneg (by omega)])
   have e1:tgd (l.drop p)=tgd ((l.drop p).take (e.1.toNat - p)) ++ tgd (l.drop e.1.toNat):=by
    rw [← tgd_app]
    have:l.drop e.1.toNat=(l.drop p).drop (e.1.toNat - p):=by rw [List.drop_drop];congr 1;omega
    rw [this,List.take_append_drop]
   have e2:l.drop e.2.1.toNat=(l.drop e.1.toNat).drop (e.2.1.toNat - e.1.toNat):=by rw [List.drop_drop];congr 1;omega
   rw [apE,tgd_app,tgd_app,tgd_new,List.append_nil,e1]
   refine List.Sublist.append (List.Sublist.refl _) (k.trans ?_)
   rw [e2]
   exact (List.drop_sublist _ _).filter _
theorem tgd_ch (enc lim:Int) (l:List (Int × Int)) (es:List Ed):(tgd (chT enc lim l es)).Sublist (tgd l):=by
 unfold chT
 split
 ·rename_i h
  have hc:ckA enc lim l.length es=0:=by
   unfold chA at h
   split at h
   ·assumption
   ·exact h
  have:=tgd_ap l es 0 (ck_zero hc).2.1
  rwa [List.drop_zero] at this
 ·exact List.Sublist.refl _
theorem ctn_mem (enc:Int):∀ (g:List Int) (pl:Int),0≤pl→∀ x ∈ ctn enc pl g,∃ a b:List Int,g=a ++ x.1 :: b∧x.2=pl + (ln enc a:Nat):=by
 intro g
 induction g with
 | nil=>intro pl _ x hx;simp [ctn] at hx
 | cons a0 g ih =>
   intro pl h x hx
   rw [ctn,List.mem_cons] at hx
   rcases hx with rfl | hx
   ·exact ⟨[],g,rfl,by rw [ln_nil];simp⟩
   ·have ht:tg pl ((Cx.put enc a0).length:Nat)=pl + ((Cx.put enc a0).length:Nat):=by unfold tg;rw [if_neg (by omega)]
    rw [ht] at hx
    obtain ⟨a,b,h1,h2⟩:=ih _ (by omega) x hx
    refine ⟨a0 :: a,b,by rw [h1];rfl,?_⟩
    rw [h2,ln_cons]
    omega
theorem ctn_rise (enc:Int):∀ (g:List Int) (pl:Int),0≤pl→(ctn enc pl g).Pairwise (fun x y=>x.2 < y.2):=by
 intro g
 induction g with
 | nil=>intro pl _;exact List.Pairwise.nil
 | cons a0 g ih =>
   intro pl h
   have ht:tg pl ((Cx.put enc a0).length:Nat)=pl + ((Cx.put enc a0).length:Nat):=by unfold tg;rw [if_neg (by omega)]
   rw [ctn,ht]
   refine List.Pairwise.cons (fun y hy=>?_) (ih _ (by omega))
   obtain ⟨a,b,_,h2⟩:=ctn_mem enc g _ (by omega) y hy
   have:=(Cx.put_len enc a0).1
   rw [h2]
   show pl < _
   omega
def Fai (enc:Int) (L:List Int) (l:List (Int × Int)):Prop:=(tgd l).Sublist (ctn enc 0 (Cx.dec enc L))
theorem Fai.first (enc:Int) (L:List Int):Fai enc L (ctn enc 0 (Cx.dec enc L)):=List.filter_sublist
theorem Fai.ch {enc:Int} {L:List Int} {l:List (Int × Int)} (h:Fai enc L l) (lim:Int) (es:List Ed):Fai enc L (chT enc lim l es):=(tgd_ch enc lim l es).trans h
theorem Fai.at {enc:Int} (he:Cx.En enc) {L:List Int} (hB:Byt L) {l:List (Int × Int)} (h:Fai enc L l) (x:Int × Int) (hx:x ∈ l) (hn:x.2≠-1):∃ k:Nat,x.2=(k:Int)∧k + (Cx.put enc x.1).length≤L.length∧(L.drop k).take (Cx.put enc x.1).length=Cx.put enc x.1:=by
 have hm:x ∈ ctn enc 0 (Cx.dec enc L):=h.subset (by unfold tgd;rw [List.mem_filter];exact ⟨hx,by simpa using hn⟩)
 obtain ⟨a,b,h1,h2⟩:=ctn_mem enc _ 0 (Int.le_refl _) x hm
 have hb:=(Cx.back_all enc he L.length L (Nat.le_refl _) hB).1
 rw [h1,Cx.encB_app,Cx.encB_cons] at hb
 refine ⟨ln enc a,by rw [h2];omega,?_,?_⟩
 ·have:=congrArg List.length hb
  rw [List.length_append,List.length_append] at this
  show (Cx.encB enc a).length + _≤_
  omega
 ·rw [← hb,show ln enc a=(Cx.encB enc a).length from rfl,List.drop_left,List.take_left]
theorem Fai.rise {enc:Int} {L:List Int} {l:List (Int × Int)} (h:Fai enc L l) (i:Nat) (x:Int × Int) (hx:l[i]?=some x) (hn:x.2≠-1):∀ y ∈ l.drop (i + 1),y.2≠-1→x.2 < y.2:=by
 have hp:(tgd l).Pairwise (fun x y=>x.2 < y.2):=(ctn_rise enc _ 0 (Int.le_refl _)).sublist h
 have hi:=(List.getElem?_eq_some_iff.1 hx).1
 have hl:l=l.take i ++ x :: l.drop (i + 1):=by
  have e:l.drop i=x :: l.drop (i + 1):=by
   rw [List.drop_eq_getElem_cons hi]
   congr 1
   exact (List.getElem?_eq_some_iff.1 hx).2
  rw [← e,List.take_append_drop]
 intro y hy hyn
 rw [hl,tgd_app,List.pairwise_append] at hp
 have h2:=hp.2.1
 have e2:tgd (x :: l.drop (i + 1))=x :: tgd (l.drop (i + 1)):=by unfold tgd;rw [List.filter_cons_of_pos (by simpa using hn)]
 rw [e2,List.pairwise_cons] at h2
 exact h2.1 y (by unfold tgd;rw [List.mem_filter];exact ⟨hy,by simpa using hyn⟩)
end Go.Proofs.YtjjfakokakamaaaGreat.P

namespace Go.Proofs.YtjjfakokakamaaaGreat.P
open Go.RowKit
theorem rd_at {k:IntKind} {w:World} {ao:Option Addr} {n c:Nat} {zs:List Int} (h:Rd k w (.slice ao n c) zs) (i:Nat) (hi:i < zs.length):∃ b o,ao=some ⟨b,o,none⟩∧b < w.heap.size∧w.cell? ⟨b,o + i,none⟩=some (.int k (zs[i]?.getD 0))∧n≤c:=by
 obtain ⟨ao',c',e1,h1,_,h3⟩:=h
 simp only [Value.slice.injEq] at e1
 obtain ⟨rfl,rfl,rfl⟩:=e1
 obtain ⟨b,o,rfl,hb,hc⟩:=h3 (by intro e;subst e;simp at hi)
 exact ⟨b,o,rfl,hb,hc i hi,h1⟩
end Go.Proofs.YtjjfakokakamaaaGreat.P

namespace Go.Proofs.YtjjfakokakamaaaGreat.P
open Go.RowKit
def mrk (m r:Nat):List Int:=(List.range r).map fun k=>771 + ((m + k:Nat):Int)
theorem mrk_len (m r:Nat):(mrk m r).length=r:=by simp [mrk]
theorem mrk_succ (m r:Nat):mrk m (r + 1)=mrk m r ++ [771 + ((m + r:Nat):Int)]:=by simp [mrk,List.range_succ]
structure HE where
 e:Ed
 b:Nat
 pv:Value
def HE.row (r:Nat) (h:HE):List Int:=h.e.2.2 ++ mrk h.e.2.2.length r
def HE.sl (r:Nat) (h:HE):Value:=.slice (some ⟨h.b,0,none⟩) (h.e.2.2.length + r) (h.e.2.2.length + r)
def HE.cs (h:HE):List Value:=[.int .i64 h.e.1,.int .i64 h.e.2.1,h.pv]
def mkE (n r:Nat):List Value:=(List.range r).flatMap fun k=>[.int .i64 (-771 - ((n + k:Nat):Int)),.int .i64 (-772),.slice none 0 0]
theorem fm3 {α:Type} (a b c:α→Value) (l:List α) (i:Nat) (x:α) (hi:l[i]?=some x):(l.flatMap fun x=>[a x,b x,c x])[i * 3]?=some (a x)∧(l.flatMap fun x=>[a x,b x,c x])[i * 3 + 1]?=some (b x)∧(l.flatMap fun x=>[a x,b x,c x])[i * 3 + 2]?=some (c x):=by
 induction l generalizing i with
 | nil=>simp at hi
 | cons y ys ih =>
   cases i with
   | zero =>
     simp only [List.getElem?_cons_zero,Option.some.injEq] at hi
     subst hi
     simp [List.flatMap_cons]
   | succ i =>
     rw [List.getElem?_cons_succ] at hi
     obtain ⟨h1,h2,h3⟩:=ih i hi
     rw [List.flatMap_cons,show (i + 1) * 3=i * 3 + 1 + 1 + 1 by omega]
     simp only [List.cons_append,List.nil_append,List.getElem?_cons_succ]
     exact ⟨h1,h2,h3⟩
theorem fm3_len {α:Type} (a b c:α→Value) (l:List α):(l.flatMap fun x=>[a x,b x,c x]).length=l.length * 3:=by
 induction l with
 | nil=>rfl
 | cons y ys ih=>rw [List.flatMap_cons,List.length_append,ih];simp;omega
theorem cs_len (hs:List HE):(hs.flatMap HE.cs).length=hs.length * 3:=fm3_len (fun h:HE=>Value.int .i64 h.e.1) (fun h:HE=>Value.int .i64 h.e.2.1) (fun h:HE=>h.pv) hs
theorem cs_at (hs:List HE) (i:Nat) (h:HE) (hi:hs[i]?=some h):(hs.flatMap HE.cs)[i * 3]?=some (.int .i64 h.e.1)∧(hs.flatMap HE.cs)[i * 3 + 1]?=some (.int .i64 h.e.2.1)∧(hs.flatMap HE.cs)[i * 3 + 2]?=some h.pv:=fm3 (fun h:HE=>Value.int .i64 h.e.1) (fun h:HE=>Value.int .i64 h.e.2.1) (fun h:HE=>h.pv) hs i h hi
theorem mkE_at (n r k:Nat) (h:k < r):(mkE n r)[k * 3]?=some (.int .i64 (-771 - ((n + k:Nat):Int)))∧(mkE n r)[k * 3 + 1]?=some (.int .i64 (-772))∧(mkE n r)[k * 3 + 2]?=some (.slice none 0 0) :=
 fm3 (fun k:Nat=>Value.int .i64 (-771 - ((n + k:Nat):Int))) (fun _=>.int .i64 (-772)) (fun _=>.slice none 0 0) (List.range r) k k (List.getElem?_range h)
theorem mkE_succ (n r:Nat):mkE n (r + 1)=mkE n r ++ [.int .i64 (-771 - ((n + r:Nat):Int)),.int .i64 (-772),.slice none 0 0]:=by simp [mkE,List.range_succ]
theorem take_put3 (zz:List Value) (m:Nat) (a b c:Value) (h:m * 3 + 2 < zz.length):(((zz.set (m * 3) a).set (m * 3 + 1) b).set (m * 3 + 2) c).take ((m + 1) * 3)=zz.take (m * 3) ++ [a,b,c]:=by
 refine List.ext_getElem? fun i=>?_
 rw [List.getElem?_take]
 by_cases h1:i < m * 3
 ·rw [if_pos (by omega),List.getElem?_append_left (by simp;omega),List.getElem?_take,if_pos h1,List.getElem?_set_ne (by omega),List.getElem?_set_ne (by omega),List.getElem?_set_ne (by omega)]
 ·rw [List.getElem?_append_right (by simp;omega),List.length_take,Nat.min_eq_left (by omega)]
  by_cases h2:i=m * 3
  ·subst h2
   rw [if_pos (by omega),List.getElem?_set_ne (by omega),List.getElem?_set_ne (by omega),List.getElem?_set_self (by omega)]
   simp
  ·by_cases h3:i=m * 3 + 1
   ·subst h3
    rw [if_pos (by omega),List.getElem?_set_ne (by omega),List.getElem?_set_self (by rw [List.length_set];omega),show m * 3 + 1 - m * 3=1 by omega]
    rfl
   ·by_cases h4:i=m * 3 + 2
    ·subst h4
     rw [if_pos (by omega),List.getElem?_set_self (by rw [List.length_set,List.length_set];omega),show m * 3 + 2 - m * 3=2 by omega]
     rfl
    ·rw [if_neg (by omega),List.getElem?_eq_none (by simp;omega)]
theorem take_put1 {α:Type} (zz:List α) (m:Nat) (a:α) (h:m < zz.length):(zz.set m a).take (m + 1)=zz.take m ++ [a]:=by
 rw [List.take_add_one,List.getElem?_set_self h,List.take_set_of_le (Nat.le_refl _)]
 rfl
def RoI (w:World) (b:Nat) (zs:List Int):Prop:=w.heap[b]?=some (.cells (zs.map (Value.int .i64)).toArray 3 (0,0))
theorem RoI.rd {w:World} {b:Nat} {zs:List Int} (h:RoI w b zs) (n c:Nat) (hn:n≤zs.length) (h1:n≤c) (h2:c≤9223372036854775807):Rd .i64 w (.slice (some ⟨b,0,none⟩) n c) (zs.take n):=by
 have el:(zs.take n).length=n:=by rw [List.length_take];omega
 refine ⟨_,c,by rw [el],by rw [el];exact h1,by unfold maxLen;exact h2,fun _=>⟨b,0,rfl,(Array.getElem?_eq_some_iff.1 h).1,fun i hi=>?_⟩⟩
 rw [el] at hi
 rw [cell_of_row w b _ _ _ _ h,Nat.zero_add,List.getElem?_toArray,List.getElem?_map,List.getElem?_take,if_pos hi,List.getElem?_eq_getElem (by omega)]
 rfl
structure HEok (w:World) (base r:Nat) (h:HE):Prop where
 ge:base≤h.b
 row:RoI w h.b (h.row r)
 pv:(h.pv=.slice none 0 0∧h.e.2.2=[])∨h.pv=.slice (some ⟨h.b,0,none⟩) h.e.2.2.length (h.e.2.2.length + r)
 ln:h.e.2.2.length + r≤9223372036854775807
theorem HEok.same {w w':World} {base r:Nat} {h:HE} (k:HEok w base r h) (hb:∀ b,Typ 3 w b→w'.heap[b]?=w.heap[b]?):HEok w' base r h:=⟨k.ge,by unfold RoI;rw [hb h.b ⟨_,k.row⟩];exact k.row,k.pv,k.ln⟩
theorem HEok.rd {w:World} {base r:Nat} {h:HE} (k:HEok w base r h):Rd .i64 w h.pv h.e.2.2:=by
 rcases k.pv with ⟨h1,h2⟩ | h1
 ·rw [h1,h2]
  exact ⟨none,0,rfl,Nat.le_refl _,by simp [maxLen],fun e=>absurd rfl e⟩
 ·rw [h1]
  have:=k.row.rd h.e.2.2.length (h.e.2.2.length + r) (by simp [HE.row]) (by omega) k.ln
  rwa [show (h.row r).take h.e.2.2.length=h.e.2.2 by simp [HE.row]] at this
theorem ownsRow_same {w w':World} {base:Nat} {T:TypeId} {size:Nat} {v:Value} {n:Nat} {xs:List Value} (h:w.ownsRow base T size v n xs) (hb:∀ b,Typ T w b→w'.heap[b]?=w.heap[b]?):w'.ownsRow base T size v n xs:=by
 refine ⟨h.1,?_⟩
 rcases h.2 with h2 | ⟨g,cap,cur,hv,h3,hg,r⟩
 ·exact .inl h2
 ·exact .inr ⟨g,cap,cur,hv,h3,(hb g ⟨_,hg⟩).trans hg,r⟩
structure Hd (w:World) (base r g n:Nat) (vp:Value) (hs:List HE) (xs:List Value):Prop where
 each:∀ h ∈ hs,HEok w base r h
 puts:w.ownsRow base 22 1 vp hs.length (hs.map (HE.sl r))
 all:w.ownsRow base 30 3 (.slice (some ⟨g,0,none⟩) n n) n xs
 pre:xs.take (hs.length * 3)=hs.flatMap HE.cs
theorem Hd.same {w w':World} {base r g n:Nat} {vp:Value} {hs:List HE} {xs:List Value} (h:Hd w base r g n vp hs xs) (h1:∀ b,Typ 3 w b→w'.heap[b]?=w.heap[b]?) (h2:∀ b,Typ 22 w b→w'.heap[b]?=w.heap[b]?) (h3:∀ b,Typ 30 w b→w'.heap[b]?=w.heap[b]?):Hd w' base r g n vp hs xs :=
 ⟨fun x hx=>(h.each x hx).same h1,ownsRow_same h.puts h2,ownsRow_same h.all h3,h.pre⟩
theorem Hd.ext {w w':World} {base r g n:Nat} {vp:Value} {hs:List HE} {xs:List Value} (h:Hd w base r g n vp hs xs) (hb:Below w.heap.size w w'):Hd w' base r g n vp hs xs :=
 h.same (fun b hb'=>hb.block b hb'.lt) (fun b hb'=>hb.block b hb'.lt) (fun b hb'=>hb.block b hb'.lt)
theorem Hd.edr {w:World} {base r g n:Nat} {vp:Value} {hs:List HE} {xs:List Value} (h:Hd w base r g n vp hs xs) (hl:hs.length≤n) (hn:n≤9223372036854775807):EdR w (.slice (some ⟨g,0,none⟩) hs.length n) (hs.map HE.e):=by
 refine ⟨_,n,by rw [List.length_map],by rw [List.length_map];exact hl,hn,fun _=>⟨g,0,rfl,(h.all.lt g rfl).2,fun i e he=>?_⟩⟩
 rw [List.getElem?_map,Option.map_eq_some_iff] at he
 obtain ⟨x,hx,rfl⟩:=he
 have hi:=(List.getElem?_eq_some_iff.1 hx).1
 obtain ⟨c0,c1,c2⟩:=cs_at hs i x hx
 rw [← h.pre,List.getElem?_take,if_pos (by omega)] at c0 c1 c2
 rw [Nat.zero_add]
 exact ⟨(h.all.cellAt _ (by omega)).trans c0,(h.all.cellAt _ (by omega)).trans c1,x.pv,(h.all.cellAt _ (by omega)).trans c2,(h.each x (List.mem_of_getElem? hx)).rd⟩
end Go.Proofs.YtjjfakokakamaaaGreat.P

namespace Go.Proofs.YtjjfakokakamaaaGreat.P
open Go.RowKit
theorem Tryz.info_edit:(Tryz.prog.info? 30).map (fun i=>(i.zero,i.size,i.bytes))=some (some (.agg #[.int .i64 0,.int .i64 0,.slice none 0 0]),3,40):=by kernel_rfl
set_option maxRecDepth 100000 in
theorem penEdits_nil (n:Nat) (w:World) (hn:n * 40≤281474976710656):Calls Tryz.prog 110 #[.pointer none,.int .i64 (n:Nat)] w fun e w'=>e=.returned (.slice (some ⟨w.heap.size,0,none⟩) n n)∧(∃ xs,w'.ownsRow w.heap.size 30 3 (.slice (some ⟨w.heap.size,0,none⟩) n n) n xs)∧Below w.heap.size w w':=by
 obtain ⟨i0,hi,hz0,hz1,hz2⟩:=info_parts Tryz.info_edit
 go_enter Tryz.func110,Tryz.ntmps110
 go_wp2_with (refine wpList_make_full w rfl _ _ 31 rfl w.heap.size 30 i0 (.agg #[.int .i64 0,.int .i64 0,.slice none 0 0]) 3 Tryz.underlying31 hi hz0 hz1 .i64 .i64 _ _ n rfl rfl rfl rfl (by rw [hz2];omega) (by unfold maxLen;omega) (Nat.le_refl _) ?_;intro w1 hO hg;have HO:=hidIt hO;have HG:=hidIt hg;clear hO hg)
 go_ret
 exact ⟨rfl,⟨_,HO.out⟩,Below.grown (Below.refl w.heap.size w) HG.out (Nat.le_refl _) (fun k e=>by cases e)⟩
set_option maxRecDepth 100000 in
theorem penPut_nil (i:Int) (n:Nat) (w:World) (hn:n * 8≤281474976710656):Calls Tryz.prog 111 #[.pointer none,.int .i64 i,.int .i64 (n:Nat)] w fun e w'=>e=.returned (.slice (some ⟨w.heap.size,0,none⟩) n n)∧RoI w' w.heap.size (List.replicate n 0)∧Below w.heap.size w w':=by
 obtain ⟨i0,hi,hz0,hz1,hz2⟩:=info_parts Tryz.info_i64
 go_enter Tryz.func111,Tryz.ntmps111
 go_wp2_with (refine wpList_make_full w rfl _ _ 22 rfl w.heap.size 3 i0 (.int .i64 0) 1 Tryz.underlying22 hi hz0 hz1 .i64 .i64 _ _ n rfl rfl rfl rfl (by rw [hz2];omega) (by unfold maxLen;omega) (Nat.le_refl _) ?_;intro w1 hO hg;have HO:=hidIt hO;have HG:=hidIt hg;clear hO hg)
 go_ret
 refine ⟨rfl,?_,Below.grown (Below.refl w.heap.size w) HG.out (Nat.le_refl _) (fun k e=>by cases e)⟩
 obtain ⟨e1,hh⟩:=HO.out
 rcases hh with ⟨hv,_⟩ | ⟨g,cp,cur,hv,_,hcur,hcp1,hcp2,hcs,htk⟩
 ·cases hv
 simp only [Value.slice.injEq,Option.some.injEq,Addr.mk.injEq] at hv
 obtain ⟨⟨hg0,_,_⟩,_,hcp⟩:=hv
 subst hg0
 subst hcp
 unfold RoI
 rw [hcur]
 have e2:cur.toList=(List.replicate n (0:Int)).map (Value.int .i64):=by
  rw [List.take_of_length_le (by rw [Array.length_toList,hcs];exact Nat.le_refl _)] at htk
  rw [htk,List.map_replicate]
  have:=toList_madeCells_one (.int .i64 0) (n * 1)
  rw [Nat.mul_one] at this ⊢
  exact this
 rw [← e2]
set_option maxRecDepth 100000 in
theorem hEdits_any (r g n:Nat) (ap:Option Addr) (lp cp:Nat) (w:World) (hr:r≤n) (hn:n≤9223372036854775807) (h0:0 < n):Calls Tryz.prog 81 #[.agg #[.int .i64 (r:Nat),.slice (some ⟨g,0,none⟩) n n,.slice ap lp cp]] w fun e w'=>e=.returned (.slice (some ⟨g,0,none⟩) (n - r) n)∧Below w.heap.size w w':=by
 obtain ⟨w0,hw0,k2,hb0⟩:∃ w0,w0=w.alloc (.cells #[.int .i64 (r:Nat),.slice (some ⟨g,0,none⟩) n n,.slice ap lp cp] 157)∧w0.heap[w.heap.size]?=some (.cells #[.int .i64 (r:Nat),.slice (some ⟨g,0,none⟩) n n,.slice ap lp cp] 157 (0,0))∧Below w.heap.size w w0:=⟨_,rfl,heap_alloc_new _ _,ext_alloc (Below.refl _ _) _⟩
 have c0:w0.cell? ⟨w.heap.size,0,none⟩=some (.int .i64 (r:Nat)):=by rw [cell_of_row w0 _ _ _ _ _ k2];rfl
 have c1:w0.cell? ⟨w.heap.size,1,none⟩=some (.slice (some ⟨g,0,none⟩) n n):=by rw [cell_of_row w0 _ _ _ _ _ k2];rfl
 have hz:¬ n=0:=by omega
 have hz':¬ 0=n:=by omega
 have hrn:(0:Int)≤(n:Int) - (r:Int):=by omega
 have hrn2:(n:Int) - (r:Int)≤(n:Int):=by omega
 have hE:((n:Int) - (r:Int)).toNat=n - r:=by omega
 have HB0:=hidIt hb0
 clear k2 hb0
 go_enter Tryz.func81,Tryz.ntmps81
 go_upto_region 1 with fail
 rw [← hw0]
 clear hw0
 go_wp2_with fail
 go_ret
 exact ⟨rfl,HB0.out⟩
end Go.Proofs.YtjjfakokakamaaaGreat.P

namespace Go.Proofs.YtjjfakokakamaaaGreat.P
open Go.RowKit
theorem EdR.at {w:World} {ao:Option Addr} {n cap:Nat} {es:List Ed} (h:EdR w (.slice ao n cap) es) (j:Nat) (e:Ed) (he:es[j]?=some e):∃ b off pa pc,ao=some ⟨b,off,none⟩∧b < w.heap.size∧w.cell? ⟨b,off + j * 3,none⟩=some (.int .i64 e.1)∧w.cell? ⟨b,off + j * 3 + 1,none⟩=some (.int .i64 e.2.1)∧w.cell? ⟨b,off + j * 3 + 2,none⟩=some (.slice pa e.2.2.length pc)∧Rd .i64 w (.slice pa e.2.2.length pc) e.2.2:=by
 obtain ⟨ao',cap',e1,_,_,e4⟩:=h
 simp only [Value.slice.injEq] at e1
 obtain ⟨rfl,_,_⟩:=e1
 obtain ⟨b,o,k1,k2,k3⟩:=e4 (by intro hn;subst hn;simp at he)
 obtain ⟨c0,c1,pv,c2,c3⟩:=k3 j e he
 obtain ⟨pa,pc,rfl,_⟩:=id c3
 exact ⟨b,o,pa,pc,k1,k2,c0,c1,c2,c3⟩
set_option maxRecDepth 100000 in
set_option maxHeartbeats 4000000 in
theorem sameEdits_any (v1 v2:Value) (es:List Ed) (w:World) (h1:EdR w v1 es) (h2:EdR w v2 es):Calls Tryz.prog 112 #[v1,v2] w fun e w'=>e=.returned (.bool true)∧Below w.heap.size w w':=by
 obtain ⟨ao,cap,rfl,hc1,hc2,_⟩:=id h1
 obtain ⟨ao2,cap2,rfl,hd1,hd2,_⟩:=id h2
 have HR1:=hidIt h1
 have HR2:=hidIt h2
 have hq:((es.length:Int) != (es.length:Int))=false:=by simp
 clear h1 h2
 go_enter Tryz.func112,Tryz.ntmps112
 go_wp2_with fail
 go_loopg [5] es.length (fun gk p wr=>∃ i:Nat,i + gk=es.length∧p=.int .i64 (i:Nat)∧Hid (Below w.heap.size w wr))
 case atStart=>exact ⟨0,by omega,rfl,Below.refl _ _⟩
 case round =>
  obtain ⟨i,hi,rfl,HB⟩:=hrel
  by_cases hil:i < es.length
  ·have hil2:(i:Int) < (es.length:Int):=by omega
   obtain ⟨e,hej⟩:∃ e,es[i]?=some e:=⟨_,List.getElem?_eq_getElem hil⟩
   obtain ⟨b,o,pa,pc,rfl,_,_⟩:=HR1.out.at i e hej
   obtain ⟨b2,o2,pa2,pc2,rfl,_,_⟩:=HR2.out.at i e hej
   have hbA:=(HR1.out.at i e hej)
   have hbB:=(HR2.out.at i e hej)
   obtain ⟨_,_,pa,pc,e1,hbl,k0,k1,k2,hrd⟩:=hbA
   cases e1
   obtain ⟨_,_,pa2,pc2,e2,hbl2,m0,m1,m2,hrd2⟩:=hbB
   cases e2
   obtain ⟨ef,et,ep⟩:=e
   simp only at *
   have HCD:Hid (∀ w',Below w.heap.size w w'→(w'.cell? ⟨b,o + i * 3,none⟩=some (.int .i64 ef)∧w'.cell? ⟨b,o + i * 3 + 1,none⟩=some (.int .i64 et)∧w'.cell? ⟨b,o + i * 3 + 2,none⟩=some (.slice pa ep.length pc))∧w'.cell? ⟨b2,o2 + i * 3,none⟩=some (.int .i64 ef)∧w'.cell? ⟨b2,o2 + i * 3 + 1,none⟩=some (.int .i64 et)∧w'.cell? ⟨b2,o2 + i * 3 + 2,none⟩=some (.slice pa2 ep.length pc2)):=fun w' hb=>⟨⟨(hb.cell (p:=⟨b,o + i * 3,none⟩) hbl).trans k0,(hb.cell (p:=⟨b,o + i * 3 + 1,none⟩) hbl).trans k1,(hb.cell (p:=⟨b,o + i * 3 + 2,none⟩) hbl).trans k2⟩,(hb.cell (p:=⟨b2,o2 + i * 3,none⟩) hbl2).trans m0,(hb.cell (p:=⟨b2,o2 + i * 3 + 1,none⟩) hbl2).trans m1,(hb.cell (p:=⟨b2,o2 + i * 3 + 2,none⟩) hbl2).trans m2⟩
   have SI:Hid (∀ w',Below w.heap.size w w'→Calls Tryz.prog 22 #[.slice pa ep.length pc,.slice pa2 ep.length pc2] w' fun e w''=>e=.returned (.bool true)∧Below w'.heap.size w' w''):=fun w' hb=>sameInts_any _ _ ep w' (hrd.ext hb) (hrd2.ext hb)
   clear k0 k1 k2 m0 m1 m2 hrd hrd2 hbl hbl2 hej
   obtain ⟨⟨c0,c1,c2⟩,d0,d1,d2⟩:=HCD.out wr HB.out
   go_upto_region 6 with fail
   go_cut [54] from 17 to 53 (fun v wF=>v=.bool false∧Hid (Below w.heap.size w wF))
   case first =>
    go_region_held3 (fun w'=>(w'.cell? ⟨b,o + i * 3,none⟩=some (.int .i64 ef)∧w'.cell? ⟨b,o + i * 3 + 1,none⟩=some (.int .i64 et)∧w'.cell? ⟨b,o + i * 3 + 2,none⟩=some (.slice pa ep.length pc))∧w'.cell? ⟨b2,o2 + i * 3,none⟩=some (.int .i64 ef)∧w'.cell? ⟨b2,o2 + i * 3 + 1,none⟩=some (.int .i64 et)∧w'.cell? ⟨b2,o2 + i * 3 + 2,none⟩=some (.slice pa2 ep.length pc2)) (first | exact HCD.out _ (by repeat (first | exact HB.out | exact HB3.out | apply Below.drew)) | go_keep) (first | (go_at_call 22;refine (SI.out _ (by repeat (first | exact HB.out | apply Below.drew))).mono ?_;clear c0 c1 c2 d0 d1 d2;rintro e w3 ⟨rfl,hb3⟩;have HB3:Hid (Below w.heap.size w w3):=ext_trans (by repeat (first | exact HB.out | apply Below.drew)) hb3;obtain ⟨⟨c0,c1,c2⟩,d0,d1,d2⟩:=HCD.out w3 HB3.out;clear hb3;(try dsimp only)))
    all_goals go_wp2_with fail
    all_goals go_meet
    case rel=>exact ⟨rfl,by repeat (first | exact HB3.out | apply Below.drew)⟩
   obtain ⟨rfl,HBc⟩:=hcut
   clear c0 c1 c2 d0 d1 d2
   go_wp2_with fail
   go_roundg (es.length - (i + 1))
   case rel=>exact ⟨i + 1,by omega,by go_num,HBc.out⟩
   case measure=>omega
  ·have hil2:¬ (i:Int) < (es.length:Int):=by omega
   go_wp2_with fail
   go_ret
   exact ⟨rfl,HB.out⟩
theorem mk_cells (hs:List HE) (n r k:Nat) (hn:hs.length=n) (hk:k < r):(hs.flatMap HE.cs ++ mkE n r)[(n + k) * 3]?=some (.int .i64 (-771 - ((n + k:Nat):Int)))∧(hs.flatMap HE.cs ++ mkE n r)[(n + k) * 3 + 1]?=some (.int .i64 (-772))∧(hs.flatMap HE.cs ++ mkE n r)[(n + k) * 3 + 2]?=some (.slice none 0 0):=by
 have hc:=cs_len hs
 obtain ⟨h1,h2,h3⟩:=mkE_at n r k hk
 refine ⟨?_,?_,?_⟩
 ·rw [List.getElem?_append_right (by omega),hc,hn,show (n + k) * 3 - n * 3=k * 3 by omega];exact h1
 ·rw [List.getElem?_append_right (by omega),hc,hn,show (n + k) * 3 + 1 - n * 3=k * 3 + 1 by omega];exact h2
 ·rw [List.getElem?_append_right (by omega),hc,hn,show (n + k) * 3 + 2 - n * 3=k * 3 + 2 by omega];exact h3
set_option maxRecDepth 100000 in
set_option maxHeartbeats 8000000 in
theorem whole_any (base r g:Nat) (ap:Option Addr) (cp:Nat) (hs:List HE) (es:List Ed) (lv:Value) (w:World) (h:Hd w base r g (es.length + r) (.slice ap es.length cp) hs (hs.flatMap HE.cs ++ mkE es.length r)) (hes:hs.map HE.e=es) (hE:EdR w lv es) (hr:2≤r∧r≤100) (hn:es.length≤17592186044416) (hm:∀ e ∈ es,e.2.2.length≤17592186044416) :
  Calls Tryz.prog 82 #[.agg #[.int .i64 (r:Nat),.slice (some ⟨g,0,none⟩) (es.length + r) (es.length + r),.slice ap es.length cp],lv] w fun e w'=>e=.returned (.bool true)∧Below w.heap.size w w':=by
 have hln:hs.length=es.length:=by rw [← hes,List.length_map]
 obtain ⟨N,hN⟩:∃ N,N=es.length + r:=⟨_,rfl⟩
 rw [← hN] at h ⊢
 obtain ⟨ao,cap,rfl,hc1,hc2,_⟩:=id hE
 obtain ⟨w0,hw0,k2,hb0⟩:∃ w0,w0=w.alloc (.cells #[.int .i64 (r:Nat),.slice (some ⟨g,0,none⟩) N N,.slice ap es.length cp] 157)∧w0.heap[w.heap.size]?=some (.cells #[.int .i64 (r:Nat),.slice (some ⟨g,0,none⟩) N N,.slice ap es.length cp] 157 (0,0))∧Below w.heap.size w w0:=⟨_,rfl,heap_alloc_new _ _,ext_alloc (Below.refl _ _) _⟩
 have HC:Hid (∀ w',Below w0.heap.size w0 w'→w'.cell? ⟨w.heap.size,0,none⟩=some (.int .i64 (r:Nat))∧w'.cell? ⟨w.heap.size,1,none⟩=some (.slice (some ⟨g,0,none⟩) N N)∧w'.cell? ⟨w.heap.size,2,none⟩=some (.slice ap es.length cp)):=fun w' hb=>by
  have e:=(hb.block _ (Array.getElem?_eq_some_iff.1 k2).1).trans k2
  refine ⟨?_,?_,?_⟩ <;> (rw [cell_of_row w' _ _ _ _ _ e];rfl)
 have HD:Hid (∀ w',Below w0.heap.size w0 w'→Hd w' base r g N (.slice ap es.length cp) hs (hs.flatMap HE.cs ++ mkE es.length r)∧EdR w' (.slice ao es.length cap) es):=fun w' hb=>⟨h.ext (ext_trans hb0 hb),hE.ext (ext_trans hb0 hb)⟩
 have HN:=hidIt hN
 have HLN:=hidIt hln
 have HES:=hidIt hes
 have HMM:=hidIt hm
 have HB0:=hidIt hb0
 have hNb:N≤17592186044616:=by omega
 have hr2:2≤r:=hr.1
 have hr1:r≤100:=hr.2
 have hNr:(es.length:Int) + (r:Int)=(N:Int):=by omega
 have hq:((N:Int) != (N:Int))=false:=by simp
 clear h hE k2 hb0 hN hln hes hm hr
 obtain ⟨c0,c1,c2⟩:=HC.out w0 (Below.refl _ _)
 go_enter Tryz.func82,Tryz.ntmps82
 go_upto_region 1 with fail
 rw [← hw0]
 clear hw0
 go_wp2_with fail
 go_loopg [6] r (fun gk p wr=>∃ (k j:Nat),k + gk=r∧j=es.length + k∧p=.int .i64 (j:Nat)∧wr=w0)
 case atStart=>exact ⟨0,es.length,by omega,rfl,rfl,rfl⟩
 case round =>
  obtain ⟨k,j,hk,hj,rfl,hwr⟩:=hrel
  rw [hwr]
  clear hwr
  by_cases hkr:k < r
  ·have hjN:j < N:=by have:=HN.out;omega
   have hjN2:(j:Int) < (N:Int):=by omega
   have hd:=(HD.out w0 (Below.refl _ _)).1.all
   obtain ⟨m0,m1,m2⟩:=mk_cells hs es.length r k HLN.out hkr
   rw [← hj] at m0 m1 m2
   have g0:=(hd.cellAt (j * 3) (by omega)).trans m0
   have g1:=(hd.cellAt (j * 3 + 1) (by omega)).trans m1
   have g2:=(hd.cellAt (j * 3 + 2) (by omega)).trans m2
   have hjq:(-771 - (j:Int) != -771 - (j:Int))=false:=by simp
   have HJJ:=hidIt hj
   clear hd m0 m1 m2 hj
   go_wp2_with fail
   go_roundg (r - (k + 1))
   case rel=>exact ⟨k + 1,j + 1,by omega,by have:=HJJ.out;omega,by go_num,rfl⟩
   case measure=>omega
  ·have hjN2:¬ (j:Int) < (N:Int):=by have:=HN.out;omega
   clear hj hk hkr
   go_wp2_with fail
   go_loopg [7] es.length (fun gk p wr=>∃ i:Nat,i + gk=es.length∧p=.int .i64 (i:Nat)∧Hid (Below w0.heap.size w0 wr))
   case atStart=>exact ⟨0,by omega,rfl,Below.refl _ _⟩
   case round =>
    obtain ⟨i,hi,rfl,HB⟩:=hrel
    clear c0 c1 c2
    obtain ⟨c0,c1,c2⟩:=HC.out wr HB.out
    by_cases hil:i < es.length
    ·have hil2:(i:Int) < (es.length:Int):=by omega
     obtain ⟨x,hx⟩:∃ x,hs[i]?=some x:=⟨_,List.getElem?_eq_getElem (by have:=HLN.out;omega)⟩
     have hex:es[i]?=some x.e:=by rw [← HES.out,List.getElem?_map,hx];rfl
     have hlp:=HMM.out _ (List.mem_of_getElem? hex)
     obtain ⟨hd0,hE0⟩:=HD.out w0 (Below.refl _ _)
     obtain ⟨b,o,pa,pc,rfl,hbl,_,_,k2,hrd⟩:=hE0.at i x.e hex
     have hok:=hd0.each x (List.mem_of_getElem? hx)
     have hpu:=hd0.puts
     rw [HLN.out] at hpu
     rcases hpu.2 with ⟨_,e2⟩ | ⟨gp,cpp,cur,hv,_,hgp,hcp1,_⟩
     ·omega
     simp only [Value.slice.injEq] at hv
     obtain ⟨rfl,_,rfl⟩:=hv
     have hgl:=(Array.getElem?_eq_some_iff.1 hgp).1
     have q0:=(hpu.cellAt i (by omega)).trans (by rw [List.getElem?_map,hx];rfl:_=some (HE.sl r x))
     obtain ⟨⟨ef,et,ep⟩,bx,pv⟩:=x
     unfold HE.sl at q0
     simp only at *
     obtain ⟨M,hM⟩:∃ M,M=ep.length + r:=⟨_,rfl⟩
     rw [← hM] at q0
     have HCD:Hid (∀ w',Below w0.heap.size w0 w'→w'.cell? ⟨gp,i,none⟩=some (.slice (some ⟨bx,0,none⟩) M M)∧w'.cell? ⟨b,o + i * 3 + 2,none⟩=some (.slice pa ep.length pc)∧w'.cell? ⟨w.heap.size,0,none⟩=some (.int .i64 (r:Nat))):=fun w' hb=>⟨(hb.cell (p:=⟨gp,i,none⟩) hgl).trans q0,(hb.cell (p:=⟨b,o + i * 3 + 2,none⟩) hbl).trans k2,(HC.out w' hb).1⟩
     have HRW:Hid (∀ w',Below w0.heap.size w0 w'→RoI w' bx (ep ++ mrk ep.length r)):=fun w' hb=>by
      have:=hok.row
      unfold RoI at this ⊢
      rw [hb.block _ (Array.getElem?_eq_some_iff.1 this).1]
      exact this
     have SI:Hid (∀ w',Below w0.heap.size w0 w'→Calls Tryz.prog 22 #[.slice (some ⟨bx,0,none⟩) ep.length M,.slice pa ep.length pc] w' fun e w''=>e=.returned (.bool true)∧Below w'.heap.size w' w''):=fun w' hb=>by
      have h1:=(HRW.out w' hb).rd ep.length M (by simp) (by omega) (by omega)
      rw [List.take_left] at h1
      exact sameInts_any _ _ ep w' h1 (hrd.ext hb)
     have HM:=hidIt hM
     have hMb:M≤17592186044616:=by omega
     have hMr:ep.length≤M:=by omega
     have hMr2:(ep.length:Int)≤(M:Int):=by omega
     have hM0:¬ M=0:=by omega
     have hM0':¬ 0=M:=by omega
     have hMw:IntKind.i64.wrap ((ep.length:Int) + (r:Int))=(M:Int):=by rw [IntKind.wrap_i64];omega
     have hMq:((M:Int) != (M:Int))=false:=by simp
     clear hx hex hd0 hE0 k2 hrd hok hpu hgp q0 hgl hbl hM
     obtain ⟨e0,e1,e2⟩:=HCD.out wr HB.out
     go_upto_region 14 with fail
     go_cut [91] from 73 to 90 (fun v wF=>v=.bool false∧Hid (Below w0.heap.size w0 wF))
     case first =>
      go_region_held3 (fun w'=>w'.cell? ⟨gp,i,none⟩=some (.slice (some ⟨bx,0,none⟩) M M)∧w'.cell? ⟨b,o + i * 3 + 2,none⟩=some (.slice pa ep.length pc)∧w'.cell? ⟨w.heap.size,0,none⟩=some (.int .i64 (r:Nat))) (first | exact HCD.out _ (by repeat (first | exact HB.out | exact HB3.out | apply Below.drew)) | go_keep) (first | (go_at_call 22;refine (SI.out _ (by repeat (first | exact HB.out | apply Below.drew))).mono ?_;clear e0 e1 e2;rintro e w3 ⟨rfl,hb3⟩;have HB3:Hid (Below w0.heap.size w0 w3):=ext_trans (by repeat (first | exact HB.out | apply Below.drew)) hb3;obtain ⟨e0,e1,e2⟩:=HCD.out w3 HB3.out;clear hb3;(try dsimp only)))
      all_goals go_wp2_with fail
      all_goals go_meet
      case rel=>exact ⟨rfl,by repeat (first | exact HB3.out | apply Below.drew)⟩
     obtain ⟨rfl,HBc⟩:=hcut
     clear c0 c1 c2 e0 e1 e2
     go_wp2_with fail
     go_loopg [10] r (fun gk2 p wr2=>∃ (k j:Nat),k + gk2=r∧j=ep.length + k∧p=.int .i64 (j:Nat)∧wr2=wc)
     case atStart=>exact ⟨0,ep.length,by omega,rfl,rfl,rfl⟩
     case round =>
      obtain ⟨k,j,hk,hj,rfl,hwr⟩:=hrel
      rw [hwr]
      clear hwr
      by_cases hkr:k < r
      ·have hjM:j < M:=by have:=HM.out;omega
       have hjM2:(j:Int) < (M:Int):=by omega
       have hro:=HRW.out wc HBc.out
       have cj:wc.cell? ⟨bx,j,none⟩=some (.int .i64 (771 + (j:Int))):=by
        rw [cell_of_row wc _ _ _ _ _ hro,List.getElem?_toArray,List.getElem?_map,List.getElem?_append_right (by omega),hj,Nat.add_sub_cancel_left]
        unfold mrk
        rw [List.getElem?_map,List.getElem?_range hkr]
        rfl
       have hjq:(771 + (j:Int) != 771 + (j:Int))=false:=by simp
       have HJJ:=hidIt hj
       clear hro hj
       go_wp2_with fail
       go_roundg (r - (k + 1))
       case rel=>exact ⟨k + 1,j + 1,by omega,by have:=HJJ.out;omega,by go_num,rfl⟩
       case measure=>omega
      ·have hjM2:¬ (j:Int) < (M:Int):=by have:=HM.out;omega
       go_wp2_with fail
       go_roundg (es.length - (i + 1))
       case rel=>exact ⟨i + 1,by omega,by go_num,HBc.out⟩
       case measure=>omega
    ·have hil2:¬ (i:Int) < (es.length:Int):=by omega
     have ED:=hidIt (hEdits_any r g N ap es.length cp wr (by have:=HN.out;omega) (by omega) (by omega))
     have SE:Hid (∀ w',Below wr.heap.size wr w'→Calls Tryz.prog 112 #[.slice (some ⟨g,0,none⟩) (N - r) N,.slice ao es.length cap] w' fun e w''=>e=.returned (.bool true)∧Below w'.heap.size w' w''):=fun w' hb=>by
      obtain ⟨hd,hE⟩:=HD.out w' (ext_trans HB.out hb)
      have h1:=hd.edr (by have:=HN.out;have:=HLN.out;omega) (by omega)
      rw [HES.out,HLN.out,show es.length=N - r by have:=HN.out;omega] at h1
      exact sameEdits_any _ _ es w' h1 hE
     go_wp2_with (first
      | (go_at_call 81;refine ED.out.mono ?_;rintro e w4 ⟨rfl,hb4⟩;have HB4:=hidIt hb4;have SE4:=hidIt (SE.out w4 hb4);clear hb4 c0 c1 c2;(try dsimp only))
      | (go_at_call 112;refine SE4.out.mono ?_;rintro e w5 ⟨rfl,hb5⟩;have HB5:=hidIt (ext_trans HB4.out hb5);clear hb5;(try dsimp only)))
     go_ret
     exact ⟨rfl,ext_trans HB0.out (ext_trans HB.out HB5.out)⟩
end Go.Proofs.YtjjfakokakamaaaGreat.P

namespace Go.Proofs.YtjjfakokakamaaaGreat.P
open Go.RowKit
structure Spl (w:World) (base r g n:Nat) (vp:Value) (hs:List HE):Prop where
 each:∀ h ∈ hs,∃ ys,w.ownsRow base 3 1 (h.sl r) (h.e.2.2.length + r) ys
 puts:w.ownsRow base 22 1 vp hs.length (hs.map (HE.sl r))
 all:∃ xs,w.ownsRow base 30 3 (.slice (some ⟨g,0,none⟩) n n) n xs
theorem Hd.sp {w:World} {base r g n:Nat} {vp:Value} {hs:List HE} {xs:List Value} (h:Hd w base r g n vp hs xs):Spl w base r g n vp hs:=by
 refine ⟨fun x hx=>?_,h.puts,⟨xs,h.all⟩⟩
 have k:=h.each x hx
 have hl:(x.row r).length=x.e.2.2.length + r:=by simp [HE.row,mrk_len]
 refine ⟨(x.row r).map (Value.int .i64),by rw [List.length_map,hl,Nat.mul_one],.inr ⟨x.b,x.e.2.2.length + r,_,rfl,k.ge,k.row,Nat.le_refl _,k.ln,by simp [hl],?_⟩⟩
 rw [List.toList_toArray,List.take_of_length_le (by rw [List.length_map,hl];omega)]
theorem ownsRow_put {w:World} {base:Nat} {T U:TypeId} {size:Nat} {v:Value} {n:Nat} {xs:List Value} (h:w.ownsRow base T size v n xs) {b:Nat} (hU:Typ U w b) (hne:T≠U) (j:Nat) (u:Value):(w.setCell ⟨b,j,none⟩ u).ownsRow base T size v n xs :=
 ownsRow_same h fun b' hb'=>heap_setCell_other w ⟨b,j,none⟩ b' u (fun e=>hne (by subst e;exact hb'.uniq hU))
theorem HE.typ {w:World} {base r n:Nat} {h:HE} {ys:List Value} (k:w.ownsRow base 3 1 (h.sl r) n ys):Typ 3 w h.b:=by
 rcases k.2 with ⟨h1,_⟩ | ⟨g,cap,cur,hv,_,hg,_⟩
 ·cases h1
 ·simp only [HE.sl,Value.slice.injEq,Option.some.injEq,Addr.mk.injEq] at hv
  rw [hv.1.1]
  exact ⟨_,hg⟩
theorem Spl.putI {w:World} {base r g n:Nat} {vp:Value} {hs:List HE} (h:Spl w base r g n vp hs) (x:HE) (hx:x ∈ hs) (j:Nat) (u:Value):Spl (w.setCell ⟨x.b,j,none⟩ u) base r g n vp hs∧Kps (fun k=>(∃ y ∈ hs,k=y.b)∨k=g) w (w.setCell ⟨x.b,j,none⟩ u):=by
 obtain ⟨ys,hys⟩:=h.each x hx
 obtain ⟨s1,s2⟩:=World.ownsRow.stored (by unfold HE.sl at hys;exact hys) j u
 refine ⟨⟨fun y hy=>?_,ownsRow_put h.puts (HE.typ hys) (by decide) j u,?_⟩,Kps.grown s2 fun k e _=>.inl ⟨x,hx,(Option.some.inj e).symm⟩⟩
 ·obtain ⟨zs,hzs⟩:=h.each y hy
  by_cases e:y.b=x.b
  ·unfold HE.sl at hzs ⊢
   rw [e] at hzs ⊢
   exact ⟨_,(World.ownsRow.stored hzs j u).1⟩
  ·exact ⟨zs,World.ownsRow.kept hzs s2 (.inr (fun e2=>e (Option.some.inj e2)))⟩
 ·obtain ⟨xs,hxs⟩:=h.all
  exact ⟨xs,ownsRow_put hxs (HE.typ hys) (by decide) j u⟩
theorem Spl.putE {w:World} {base r g n:Nat} {vp:Value} {hs:List HE} (h:Spl w base r g n vp hs) (j:Nat) (u:Value):Spl (w.setCell ⟨g,j,none⟩ u) base r g n vp hs∧Kps (fun k=>(∃ y ∈ hs,k=y.b)∨k=g) w (w.setCell ⟨g,j,none⟩ u):=by
 obtain ⟨xs,hxs⟩:=h.all
 obtain ⟨s1,s2⟩:=World.ownsRow.stored hxs j u
 have ht:Typ 30 w g:=by
  rcases hxs.2 with ⟨h1,_⟩ | ⟨g',cap,cur,hv,_,hg,_⟩
  ·cases h1
  ·simp only [Value.slice.injEq,Option.some.injEq,Addr.mk.injEq] at hv
   rw [hv.1.1]
   exact ⟨_,hg⟩
 refine ⟨⟨fun y hy=>?_,ownsRow_put h.puts ht (by decide) j u,⟨_,s1⟩⟩,Kps.grown s2 fun k e _=>.inr (Option.some.inj e).symm⟩
 obtain ⟨zs,hzs⟩:=h.each y hy
 exact ⟨zs,ownsRow_put hzs ht (by decide) j u⟩
theorem Spl.ext {w w':World} {base r g n:Nat} {vp:Value} {hs:List HE} (h:Spl w base r g n vp hs) (hb:Below w.heap.size w w'):Spl w' base r g n vp hs :=
 ⟨fun x hx=>(h.each x hx).imp fun _ k=>ownsRow_same k fun b hb'=>hb.block b hb'.lt,ownsRow_same h.puts fun b hb'=>hb.block b hb'.lt,h.all.imp fun _ k=>ownsRow_same k fun b hb'=>hb.block b hb'.lt⟩
theorem Spl.row {w:World} {base r g n:Nat} {ap:Option Addr} {cp:Nat} {hs:List HE} (h:Spl w base r g n (.slice ap hs.length cp) hs) (i:Nat) (x:HE) (hx:hs[i]?=some x):∃ gp,ap=some ⟨gp,0,none⟩∧w.cell? ⟨gp,i,none⟩=some (.slice (some ⟨x.b,0,none⟩) (x.e.2.2.length + r) (x.e.2.2.length + r)):=by
 have hi:=(List.getElem?_eq_some_iff.1 hx).1
 have hp:=h.puts
 rcases hp.2 with ⟨h1,h2⟩ | ⟨gp,cap,cur,hv,_,_⟩
 ·omega
 ·simp only [Value.slice.injEq] at hv
  obtain ⟨rfl,_,rfl⟩:=hv
  refine ⟨gp,rfl,?_⟩
  rw [hp.cellAt i (by omega),List.getElem?_map,hx]
  rfl
set_option maxRecDepth 100000 in
set_option maxHeartbeats 4000000 in
theorem spoil_any (base r g n:Nat) (ap:Option Addr) (cp:Nat) (hs:List HE) (w:World) (h:Spl w base r g n (.slice ap hs.length cp) hs) (hn:n≤9223372036854775807) (hl:hs.length≤9223372036854775807) (hm:∀ x ∈ hs,x.e.2.2.length + r≤9223372036854775807) :
  Calls Tryz.prog 83 #[.agg #[.int .i64 (r:Nat),.slice (some ⟨g,0,none⟩) n n,.slice ap hs.length cp]] w fun e w'=>(∃ v,e=.returned v)∧Kps (fun k=>(∃ y ∈ hs,k=y.b)∨k=g) w w':=by
 obtain ⟨w0,hw0,k2,hb0⟩:∃ w0,w0=w.alloc (.cells #[.int .i64 (r:Nat),.slice (some ⟨g,0,none⟩) n n,.slice ap hs.length cp] 157)∧w0.heap[w.heap.size]?=some (.cells #[.int .i64 (r:Nat),.slice (some ⟨g,0,none⟩) n n,.slice ap hs.length cp] 157 (0,0))∧Below w.heap.size w w0:=⟨_,rfl,heap_alloc_new _ _,ext_alloc (Below.refl _ _) _⟩
 have h0:=h.ext hb0
 have HGL:Hid (∀ k,((∃ y ∈ hs,k=y.b)∨k=g)→k≠w.heap.size):=fun k hk e=>by
  rcases hk with ⟨y,hy,rfl⟩ | rfl
  ·obtain ⟨ys,hys⟩:=h.each y hy
   have:=(HE.typ hys).lt
   omega
  ·obtain ⟨xs,hxs⟩:=h.all
   have:=(hxs.lt k rfl).2
   omega
 have HC:Hid (∀ w',Kps (fun k=>(∃ y ∈ hs,k=y.b)∨k=g) w0 w'→w'.cell? ⟨w.heap.size,1,none⟩=some (.slice (some ⟨g,0,none⟩) n n)∧w'.cell? ⟨w.heap.size,2,none⟩=some (.slice ap hs.length cp)):=fun w' hk=>by
  have e:=(hk.same w.heap.size (Array.getElem?_eq_some_iff.1 k2).1 (fun e=>HGL.out _ e rfl)).trans k2
  refine ⟨?_,?_⟩ <;> (rw [cell_of_row w' _ _ _ _ _ e];rfl)
 have HI0:Hid (Spl w0 base r g n (.slice ap hs.length cp) hs∧Kps (fun k=>(∃ y ∈ hs,k=y.b)∨k=g) w0 w0):=⟨h0,Kps.refl _ _⟩
 have HB0:=hidIt hb0
 have HM:=hidIt hm
 clear h h0 k2 hb0 HGL hm
 go_enter Tryz.func83,Tryz.ntmps83
 go_upto_region 1 with fail
 rw [← hw0]
 clear hw0
 go_wp2_with fail
 go_loopg [2] hs.length (fun gk p wr=>∃ i:Nat,i + gk=hs.length∧p=.int .i64 (i:Nat)∧Hid (Spl wr base r g n (.slice ap hs.length cp) hs∧Kps (fun k=>(∃ y ∈ hs,k=y.b)∨k=g) w0 wr))
 case atStart=>exact ⟨0,by omega,rfl,HI0.out⟩
 case round =>
  obtain ⟨i,hi,rfl,HI⟩:=hrel
  obtain ⟨c1,c2⟩:=HC.out wr HI.out.2
  by_cases hil:i < hs.length
  ·have hil2:(i:Int) < (hs.length:Int):=by omega
   obtain ⟨x,hx⟩:∃ x,hs[i]?=some x:=⟨_,List.getElem?_eq_getElem hil⟩
   have hxm:=List.mem_of_getElem? hx
   have hxl:=HM.out x hxm
   obtain ⟨M,hM⟩:∃ M,M=x.e.2.2.length + r:=⟨_,rfl⟩
   have HRW:Hid (∀ w',Spl w' base r g n (.slice ap hs.length cp) hs→∃ gp,ap=some ⟨gp,0,none⟩∧w'.cell? ⟨gp,i,none⟩=some (.slice (some ⟨x.b,0,none⟩) M M)):=fun w' h'=>by rw [hM];exact h'.row i x hx
   have HST:Hid (∀ w',Spl w' base r g n (.slice ap hs.length cp) hs→∀ j,j < M→(∃ u,w'.cell? ⟨x.b,j,none⟩=some u)∧∀ k,w'.frozen? ⟨x.b,k,none⟩=false):=fun w' h' j hj=>by
    obtain ⟨ys,hys⟩:=h'.each x hxm
    unfold HE.sl at hys
    rw [← hM] at hys
    have e:=hys.cellAt j (by omega)
    have e1:=hys.1
    rw [List.getElem?_eq_getElem (by omega)] at e
    exact ⟨⟨_,e⟩,fun k=>hys.frozenAt k⟩
   have HPT:Hid (∀ w' j u,Spl w' base r g n (.slice ap hs.length cp) hs∧Kps (fun k=>(∃ y ∈ hs,k=y.b)∨k=g) w0 w'→Spl (w'.setCell ⟨x.b,j,none⟩ u) base r g n (.slice ap hs.length cp) hs∧Kps (fun k=>(∃ y ∈ hs,k=y.b)∨k=g) w0 (w'.setCell ⟨x.b,j,none⟩ u)):=fun w' j u h'=>by
    obtain ⟨p1,p2⟩:=h'.1.putI x hxm j u
    exact ⟨p1,h'.2.trans p2 fun _ _ e=>e⟩
   rw [← hM] at hxl
   obtain ⟨gp,rfl,cp1⟩:=HRW.out wr HI.out.1
   have hcpx:hs.length≤cp:=by
    have hp:=HI.out.1.puts
    rcases hp.2 with ⟨h1,h2⟩ | ⟨gp',cap,cur,hv,_,_,h3,_⟩
    ·cases h1
    ·simp only [Value.slice.injEq] at hv
     omega
   clear hx hM hxm
   go_wp2_with fail
   go_loopg [3] M (fun gk2 p wr2=>∃ j:Nat,j + gk2=M∧p=.int .i64 (j:Nat)∧Hid (Spl wr2 base r g n (.slice (some ⟨gp,0,none⟩) hs.length cp) hs∧Kps (fun k=>(∃ y ∈ hs,k=y.b)∨k=g) w0 wr2))
   case atStart=>exact ⟨0,by omega,rfl,HI.out⟩
   case round =>
    obtain ⟨j,hj,rfl,HI2⟩:=hrel
    clear c1 c2 cp1
    obtain ⟨c1,c2⟩:=HC.out wr HI2.out.2
    obtain ⟨gp',e5,cp1⟩:=HRW.out wr HI2.out.1
    cases e5
    by_cases hjM:j < M
    ·have hjM2:(j:Int) < (M:Int):=by omega
     obtain ⟨⟨u,cu⟩,fz⟩:=HST.out wr HI2.out.1 j hjM
     have hrem:(33:Int) + Int.tmod (j:Int) 90≤9223372036854775807∧-9223372036854775808≤(33:Int) + Int.tmod (j:Int) 90:=by
      have h1:=Int.tmod_lt_of_pos (j:Int) (show (0:Int) < 90 by omega)
      have h2:=Int.tmod_nonneg 90 (show (0:Int)≤(j:Int) by omega)
      omega
     go_wp2_with fail
     go_roundg (M - (j + 1))
     case rel=>exact ⟨j + 1,by omega,by go_num,HPT.out wr j _ HI2.out⟩
     case measure=>omega
    ·have hjM2:¬ (j:Int) < (M:Int):=by omega
     go_wp2_with fail
     go_roundg (hs.length - (i + 1))
     case rel=>exact ⟨i + 1,by omega,by go_num,HI2.out⟩
     case measure=>omega
  ·have hil2:¬ (i:Int) < (hs.length:Int):=by omega
   have HST:Hid (∀ w',Spl w' base r g n (.slice ap hs.length cp) hs→∀ j,j < n→(∃ u,w'.cell? ⟨g,j * 3,none⟩=some u)∧∀ k,w'.frozen? ⟨g,k,none⟩=false):=fun w' h' j hj=>by
    obtain ⟨ys,hys⟩:=h'.all
    have e:=hys.cellAt (j * 3) (by omega)
    have e1:=hys.1
    rw [List.getElem?_eq_getElem (by omega)] at e
    exact ⟨⟨_,e⟩,fun k=>hys.frozenAt k⟩
   go_wp2_with fail
   go_loopg [4] n (fun gk2 p wr2=>∃ j:Nat,j + gk2=n∧p=.int .i64 (j:Nat)∧Hid (Spl wr2 base r g n (.slice ap hs.length cp) hs∧Kps (fun k=>(∃ y ∈ hs,k=y.b)∨k=g) w0 wr2))
   case atStart=>exact ⟨0,by omega,rfl,HI.out⟩
   case round =>
    obtain ⟨j,hj,rfl,HI2⟩:=hrel
    clear c1 c2
    obtain ⟨c1,c2⟩:=HC.out wr HI2.out.2
    by_cases hjM:j < n
    ·have hjM2:(j:Int) < (n:Int):=by omega
     obtain ⟨⟨u,cu⟩,fz⟩:=HST.out wr HI2.out.1 j hjM
     go_wp2_with fail
     go_roundg (n - (j + 1))
     case rel =>
      obtain ⟨p1,p2⟩:=HI2.out.1.putE (j * 3) (.int .i64 7)
      exact ⟨j + 1,by omega,by go_num,p1,HI2.out.2.trans p2 fun _ _ e=>e⟩
     case measure=>omega
    ·have hjM2:¬ (j:Int) < (n:Int):=by omega
     go_wp2_with fail
     have FIN:Hid ((∀ u:Value,∃ v,Ending.returned u=.returned v)∧Kps (fun k=>(∃ y ∈ hs,k=y.b)∨k=g) w wr):=⟨fun u=>⟨u,rfl⟩,(Kps.of_below _ HB0.out).trans HI2.out.2 fun _ _ e=>e⟩
     refine bodyPost_end (results_none rfl _ _ _) rfl ?_
     exact ⟨FIN.out.1 _,FIN.out.2⟩
end Go.Proofs.YtjjfakokakamaaaGreat.P

namespace Go.Proofs.YtjjfakokakamaaaGreat.P
open Go.RowKit
theorem Tryz.info_sl:(Tryz.prog.info? 22).map (fun i=>(i.zero,i.size,i.bytes))=some (some (.slice none 0 0),1,24):=by kernel_rfl
theorem RoI.set {w:World} {b:Nat} {zs:List Int} (h:RoI w b zs) (j:Nat) (x:Int):RoI (w.setCell ⟨b,j,none⟩ (.int .i64 x)) b (zs.set j x)∧w.grownBy (w.setCell ⟨b,j,none⟩ (.int .i64 x)) (some b):=by
 obtain ⟨p,q⟩:=set1 h j (.int .i64 x)
 refine ⟨?_,q⟩
 unfold RoI
 rw [p,List.map_set]
 simp
theorem RoI.cell {w:World} {b:Nat} {zs:List Int} (h:RoI w b zs) (j:Nat) (hj:j < zs.length):(∃ x,w.cell? ⟨b,j,none⟩=some (.int .i64 x))∧∀ i,w.frozen? ⟨b,i,none⟩=false:=by
 refine ⟨⟨zs[j],?_⟩,fun i=>by simp [World.frozen?,show w.heap[b]?=_ from h]⟩
 rw [cell_of_row w b _ _ _ _ h]
 simp [hj]
theorem own3 {w:World} {base:Nat} {T:TypeId} {g n:Nat} {xs:List Value} (h:w.ownsRow base T 3 (.slice (some ⟨g,0,none⟩) n n) n xs) (k:Nat) (a b c:Value) :
  (((w.setCell ⟨g,k * 3,none⟩ a).setCell ⟨g,k * 3 + 1,none⟩ b).setCell ⟨g,k * 3 + 2,none⟩ c).ownsRow base T 3 (.slice (some ⟨g,0,none⟩) n n) n (((xs.set (k * 3) a).set (k * 3 + 1) b).set (k * 3 + 2) c)∧w.grownBy (((w.setCell ⟨g,k * 3,none⟩ a).setCell ⟨g,k * 3 + 1,none⟩ b).setCell ⟨g,k * 3 + 2,none⟩ c) (some g):=by
 obtain ⟨h1,h2⟩:=h.stored (k * 3) a
 obtain ⟨h3,h4⟩:=h1.stored (k * 3 + 1) b
 obtain ⟨h5,h6⟩:=h3.stored (k * 3 + 2) c
 exact ⟨h5,grown_trans (grown_trans h2 h4) h6⟩
theorem own3_cells {w:World} {base:Nat} {T:TypeId} {g n:Nat} {xs:List Value} (h:w.ownsRow base T 3 (.slice (some ⟨g,0,none⟩) n n) n xs) (k:Nat) (hk:k < n):(∃ a,w.cell? ⟨g,k * 3,none⟩=some a)∧(∃ b,w.cell? ⟨g,k * 3 + 1,none⟩=some b)∧(∃ c,w.cell? ⟨g,k * 3 + 2,none⟩=some c)∧∀ i,w.frozen? ⟨g,i,none⟩=false:=by
 have hl:=h.1
 have e0:=h.cellAt (k * 3) (by omega)
 have e1:=h.cellAt (k * 3 + 1) (by omega)
 have e2:=h.cellAt (k * 3 + 2) (by omega)
 rw [List.getElem?_eq_getElem (by omega)] at e0 e1 e2
 exact ⟨⟨_,e0⟩,⟨_,e1⟩,⟨_,e2⟩,fun i=>h.frozenAt i⟩
theorem own_typ {w:World} {base:Nat} {T:TypeId} {s g n c m:Nat} {xs:List Value} (h:w.ownsRow base T s (.slice (some ⟨g,0,none⟩) n c) m xs):Typ T w g:=by
 rcases h.2 with ⟨h1,_⟩ | ⟨g',cap,cur,hv,_,hg,_⟩
 ·cases h1
 ·simp only [Value.slice.injEq,Option.some.injEq,Addr.mk.injEq] at hv
  rw [hv.1.1]
  exact ⟨_,hg⟩
theorem Hd.snoc {w:World} {base r g n:Nat} {vp':Value} {hs:List HE} {xs:List Value} (he:∀ y ∈ hs,HEok w base r y) (ha:w.ownsRow base 30 3 (.slice (some ⟨g,0,none⟩) n n) n xs) (hpre:xs.take (hs.length * 3)=hs.flatMap HE.cs) (x:HE) (hx:HEok w base r x) (hp:w.ownsRow base 22 1 vp' (hs.length + 1) (hs.map (HE.sl r) ++ [x.sl r])) (hl:hs.length < n) :
  Hd (((w.setCell ⟨g,hs.length * 3,none⟩ (.int .i64 x.e.1)).setCell ⟨g,hs.length * 3 + 1,none⟩ (.int .i64 x.e.2.1)).setCell ⟨g,hs.length * 3 + 2,none⟩ x.pv) base r g n vp' (hs ++ [x]) (((xs.set (hs.length * 3) (.int .i64 x.e.1)).set (hs.length * 3 + 1) (.int .i64 x.e.2.1)).set (hs.length * 3 + 2) x.pv)∧w.grownBy (((w.setCell ⟨g,hs.length * 3,none⟩ (.int .i64 x.e.1)).setCell ⟨g,hs.length * 3 + 1,none⟩ (.int .i64 x.e.2.1)).setCell ⟨g,hs.length * 3 + 2,none⟩ x.pv) (some g):=by
 obtain ⟨p1,p2⟩:=own3 ha hs.length (.int .i64 x.e.1) (.int .i64 x.e.2.1) x.pv
 have ht:=own_typ ha
 have hk:∀ (T:TypeId),T≠30→∀ b,Typ T w b→(((w.setCell ⟨g,hs.length * 3,none⟩ (.int .i64 x.e.1)).setCell ⟨g,hs.length * 3 + 1,none⟩ (.int .i64 x.e.2.1)).setCell ⟨g,hs.length * 3 + 2,none⟩ x.pv).heap[b]?=w.heap[b]?:=fun T hT b hb=>p2.block b hb.lt (fun e=>hT (by have e':=Option.some.inj e;subst e';exact hb.uniq ht))
 refine ⟨⟨fun y hy=>?_,?_,p1,?_⟩,p2⟩
 ·rcases List.mem_append.1 hy with hy | hy
  ·exact (he y hy).same (hk _ (by decide))
  ·rw [List.mem_singleton] at hy
   subst hy
   exact hx.same (hk _ (by decide))
 ·rw [List.length_append,List.map_append]
  exact ownsRow_same hp (hk _ (by decide))
 ·have hxl:=ha.1
  rw [List.length_append,List.length_singleton,take_put3 _ _ _ _ _ (by omega),hpre,List.flatMap_append]
  simp [HE.cs]
theorem ownsRow_mono {w:World} {base base':Nat} {T:TypeId} {s:Nat} {v:Value} {n:Nat} {xs:List Value} (h:w.ownsRow base T s v n xs) (hb:base'≤base):w.ownsRow base' T s v n xs:=by
 refine ⟨h.1,?_⟩
 rcases h.2 with h2 | ⟨g,cap,cur,hv,h3,r⟩
 ·exact .inl h2
 ·exact .inr ⟨g,cap,cur,hv,by omega,r⟩
theorem ownsRow_form {w:World} {base:Nat} {T:TypeId} {s:Nat} {v:Value} {n:Nat} {xs:List Value} (h:w.ownsRow base T s v n xs):∃ a c,v=.slice a n c:=by
 rcases h.2 with ⟨h1,h2⟩ | ⟨g,cap,cur,hv,_⟩
 ·exact ⟨none,0,by rw [h1,h2]⟩
 ·exact ⟨_,_,hv⟩
theorem src_of {w:World} {q:Nat} {pa:Option Addr} {pc:Nat} {ep:List Int} (h:Rd .i64 w (.slice pa ep.length pc) ep) (hp:0 < (ep.map (Value.int .i64)).length):(some (⟨q,0,none⟩:Addr))=some ⟨q,0,none⟩∧∃ ad,pa=some ad∧∀ j u,(ep.map (Value.int .i64))[j]?=some u→w.cell? (ad.add j)=some u:=by
 rw [List.length_map] at hp
 obtain ⟨pa',pc',e1,_,_,h3⟩:=h
 simp only [Value.slice.injEq] at e1
 obtain ⟨rfl,_,rfl⟩:=e1
 obtain ⟨b,off,rfl,hb,hc⟩:=h3 (List.length_pos_iff.1 hp)
 refine ⟨rfl,_,rfl,fun j u hj=>?_⟩
 have hjl:j < ep.length:=by
  have:=(List.getElem?_eq_some_iff.1 hj).1
  rwa [List.length_map] at this
 rw [Addr.add_lit,hc j hjl,← hj,List.getElem?_map,List.getElem?_eq_getElem hjl]
 rfl
structure HdJ (w:World) (r g n i:Nat) (ap:Option Addr) (cp:Nat) (es:List Ed) (hs:List HE) (xs:List Value) (wr:World):Prop where
 blk:wr.heap[w.heap.size + 1]?=some (.cells #[.int .i64 (r:Nat),.slice (some ⟨g,0,none⟩) n n,.slice ap i cp] 157 (0,0))
 res:wr.heap[w.heap.size]?=some (.cells #[.int .i64 0,.slice none 0 0,.slice none 0 0] 157 (0,0))
 hd:Hd wr w.heap.size r g n (.slice ap i cp) hs xs
 es:hs.map HE.e=es.take i
 ln:hs.length=i
 bel:Below w.heap.size w wr
set_option maxRecDepth 100000 in
set_option maxHeartbeats 8000000 in
theorem hand_nil (v:Value) (es:List Ed) (w:World) (hE:EdR w v es) (hp:∀ e ∈ es,e.2.2.length * 8≤140737488351232) (hl:es.length * 40≤140737488351232) :
  Calls Tryz.prog 80 #[.pointer none,v] w fun e w'=>∃ (r g:Nat) (ap:Option Addr) (cp:Nat),e=.returned (.agg #[.int .i64 (r:Nat),.slice (some ⟨g,0,none⟩) (es.length + r) (es.length + r),.slice ap es.length cp])∧Hid (∃ hs:List HE,Hd w' w.heap.size r g (es.length + r) (.slice ap es.length cp) hs (hs.flatMap HE.cs ++ mkE es.length r)∧hs.map HE.e=es∧(r=2∨r=100))∧Below w.heap.size w w':=by
 obtain ⟨ao,cap,rfl,h1,h2,h3⟩:=id hE
 have HE':Hid (∀ w',Below w.heap.size w w'→∀ j e,es[j]?=some e→∃ b off,ao=some ⟨b,off,none⟩∧w'.cell? ⟨b,off + j * 3,none⟩=some (.int .i64 e.1)∧w'.cell? ⟨b,off + j * 3 + 1,none⟩=some (.int .i64 e.2.1)∧∃ pv,w'.cell? ⟨b,off + j * 3 + 2,none⟩=some pv∧Rd .i64 w' pv e.2.2):=fun w' hb j e he=>by
  obtain ⟨ao',cap',e1,_,_,e4⟩:=hE.ext hb
  cases e1
  obtain ⟨b,o,k1,_,k3⟩:=e4 (by intro hn;subst hn;simp at he)
  obtain ⟨c0,c1,c2⟩:=k3 j e he
  exact ⟨b,o,k1,c0,c1,c2⟩
 have HP:=hidIt hp
 clear hE h3 hp
 go_enter Tryz.func80,Tryz.ntmps80
 go_upto_if 15 with fail
 go_cut [15] from 16 to 16 (fun _ wF=>∃ r:Nat,(r=2∨r=100)∧(es.length≤64∨r=2)∧Hid (wF.heap[w.heap.size + 1]?=some (.cells #[.int .i64 (r:Nat),.slice none 0 0,.slice none 0 0] 157 (0,0))∧wF.heap[w.heap.size]?=some (.cells #[.int .i64 0,.slice none 0 0,.slice none 0 0] 157 (0,0))∧Below w.heap.size w wF))
 case first =>
  have hb0:Below w.heap.size w ((w.alloc (.cells #[.int .i64 0,.slice none 0 0,.slice none 0 0] 157)).alloc (.cells #[.int .i64 100,.slice none 0 0,.slice none 0 0] 157)):=ext_alloc (ext_alloc (Below.refl _ _) _) _
  have e0:((w.alloc (.cells #[.int .i64 0,.slice none 0 0,.slice none 0 0] 157)).alloc (.cells #[.int .i64 100,.slice none 0 0,.slice none 0 0] 157)).heap[w.heap.size]?=some (.cells #[.int .i64 0,.slice none 0 0,.slice none 0 0] 157 (0,0)):=(Below.heap_alloc _ _ _ (by simp)).trans (heap_alloc_new _ _)
  have e1:((w.alloc (.cells #[.int .i64 0,.slice none 0 0,.slice none 0 0] 157)).alloc (.cells #[.int .i64 100,.slice none 0 0,.slice none 0 0] 157)).heap[w.heap.size + 1]?=some (.cells #[.int .i64 100,.slice none 0 0,.slice none 0 0] 157 (0,0)):=by
   have e:w.heap.size + 1=(w.alloc (.cells #[.int .i64 0,.slice none 0 0,.slice none 0 0] 157)).heap.size:=by simp
   rw [e]
   exact heap_alloc_new _ _
  generalize hW:(w.alloc (.cells #[.int .i64 0,.slice none 0 0,.slice none 0 0] 157)).alloc (.cells #[.int .i64 100,.slice none 0 0,.slice none 0 0] 157)=W at *
  clear hW
  have HX:=hidIt (⟨e0,e1,hb0⟩:_∧_∧_)
  by_cases hbig:64 < es.length
  ·have hbig2:(64:Int) < (es.length:Int):=by omega
   have c0:W.cell? ⟨w.heap.size + 1,0,none⟩=some (.int .i64 100):=by rw [cell_of_row W _ _ _ _ _ e1];rfl
   have fz:∀ i,W.frozen? ⟨w.heap.size + 1,i,none⟩=false:=fun i=>by simp [World.frozen?,e1]
   clear e0 e1 hb0
   go_wp2_with fail
   go_meet
   case rel =>
    obtain ⟨x0,x1,xb⟩:=HX.out
    obtain ⟨p1,p2⟩:=set1 x1 0 (.int .i64 2)
    refine ⟨2,.inl rfl,.inr rfl,p1,?_,Below.grown xb p2 xb.size (fun k e=>by have:=Option.some.inj e;omega)⟩
    exact (p2.block _ (Array.getElem?_eq_some_iff.1 x0).1 (fun e=>by have:=Option.some.inj e;omega)).trans x0
  ·have hbig2:¬ (64:Int) < (es.length:Int):=by omega
   clear e0 e1 hb0
   go_wp2_with fail
   go_meet
   case rel=>exact ⟨100,.inr rfl,.inl (by omega),HX.out.2.1,HX.out.1,HX.out.2.2⟩
 obtain ⟨r,hr,hr64,HW⟩:=hcut
 have c0:wc.cell? ⟨w.heap.size + 1,0,none⟩=some (.int .i64 (r:Nat)):=by rw [cell_of_row wc _ _ _ _ _ HW.out.1];rfl
 have PE:=hidIt (penEdits_nil (es.length + r) wc (by rcases hr with rfl | rfl <;> omega))
 have hrl:r≤100:=by omega
 have HR:=hidIt hr
 clear hr
 go_wp2_with (go_at_call 110;rw [show ((es.length:Int) + (r:Int))=((es.length + r:Nat):Int) by omega];refine PE.out.mono ?_;rintro e w1 ⟨rfl,hO,hb1⟩;have HO:=hidIt hO;have HB1:=hidIt hb1;have hbk:=(hb1.block _ (Array.getElem?_eq_some_iff.1 HW.out.1).1).trans HW.out.1;have c1:w1.cell? ⟨w.heap.size + 1,1,none⟩=some (.slice none 0 0):=(by rw [cell_of_row w1 _ _ _ _ _ hbk];rfl);have fz:∀ i,w1.frozen? ⟨w.heap.size + 1,i,none⟩=false:=(fun i=>by simp [World.frozen?,hbk]);have HBK:=hidIt hbk;clear hO hb1 hbk;(try dsimp only))
 have hgs:w.heap.size + 1 < wc.heap.size:=(Array.getElem?_eq_some_iff.1 HW.out.1).1
 obtain ⟨g,hg⟩:∃ g,g=wc.heap.size:=⟨_,rfl⟩
 obtain ⟨N,hN⟩:∃ N,N=es.length + r:=⟨_,rfl⟩
 have HJ0:Hid (∃ xs,HdJ w r g N 0 none 0 es [] xs (w1.setCell ⟨w.heap.size + 1,1,none⟩ (.slice (some ⟨wc.heap.size,0,none⟩) (es.length + r) (es.length + r)))):=by
  obtain ⟨xs,hxs⟩:=HO.out
  obtain ⟨p1,p2⟩:=set1 HBK.out 1 (.slice (some ⟨wc.heap.size,0,none⟩) (es.length + r) (es.length + r))
  rw [hg,hN]
  refine ⟨xs,p1,?_,⟨(fun _ h=>by cases h),World.ownsRow_nil _ _ _ _,?_,by simp⟩,rfl,rfl,?_⟩
  ·have x0:=(HB1.out.block _ (by omega)).trans HW.out.2.1
   exact (p2.block _ (Array.getElem?_eq_some_iff.1 x0).1 (fun e=>by have:=Option.some.inj e;omega)).trans x0
  ·exact World.ownsRow.kept (ownsRow_mono hxs (by omega)) p2 (.inr (fun e=>by simp only [Value.ownBlock,Option.some.injEq] at e;omega))
  ·exact Below.grown (HW.out.2.2.trans (HB1.out.mono HW.out.2.2.size)) p2 (Nat.le_trans HW.out.2.2.size HB1.out.size) (fun k e=>by have:=Option.some.inj e;omega)
 generalize hWJ:w1.setCell ⟨w.heap.size + 1,1,none⟩ (.slice (some ⟨wc.heap.size,0,none⟩) (es.length + r) (es.length + r))=wj at *
 have HNN:=hidIt hN
 clear hWJ HO HB1 HBK PE HW c0 c1 fz hgs hg hN
 obtain ⟨i0,hi0,hz00,hz01,hz02⟩:=info_parts Tryz.info_i64
 obtain ⟨i1,hi1,hz10,hz11,hz12⟩:=info_parts Tryz.info_sl
 have hz0':(Tryz.prog.info? 3).map (·.size)=some 1:=by rw [hi0];simp [hz01]
 go_wp2_with fail
 go_loopg [6] es.length (fun gk p wr=>∃ (i:Nat) (hs:List HE) (ap:Option Addr) (cp:Nat) (xs:List Value),i + gk=es.length∧p=.int .i64 (i:Nat)∧Hid (HdJ w r g N i ap cp es hs xs wr))
 case atStart =>
  obtain ⟨xs,h⟩:=HJ0.out
  exact ⟨0,[],none,0,xs,by omega,rfl,h⟩
 case round =>
  obtain ⟨i,hs,ap,cp,xs,hi,rfl,HJ⟩:=hrel
  generalize wr=wo at *
  have HBLK:Hid (∀ w',Below wo.heap.size wo w'→w'.heap[w.heap.size + 1]?=some (.cells #[.int .i64 (r:Nat),.slice (some ⟨g,0,none⟩) N N,.slice ap i cp] 157 (0,0))∧w'.cell? ⟨w.heap.size + 1,0,none⟩=some (.int .i64 (r:Nat))∧w'.cell? ⟨w.heap.size + 1,1,none⟩=some (.slice (some ⟨g,0,none⟩) N N)∧w'.cell? ⟨w.heap.size + 1,2,none⟩=some (.slice ap i cp)):=fun w' hb=>by
   have e:=(hb.block _ (Array.getElem?_eq_some_iff.1 HJ.out.blk).1).trans HJ.out.blk
   refine ⟨e,?_,?_,?_⟩ <;> (rw [cell_of_row w' _ _ _ _ _ e];rfl)
  by_cases hil:i < es.length
  ·have hil2:(i:Int) < (es.length:Int):=by omega
   obtain ⟨e,hej⟩:∃ e,es[i]?=some e:=⟨_,List.getElem?_eq_getElem hil⟩
   obtain ⟨b,o,rfl,k0,k1,pv,k2,hpv⟩:=HE'.out w (Below.refl _ _) i e hej
   obtain ⟨pa,pc,rfl,hp1,hp2,hp3⟩:=id hpv
   have hpl:=HP.out e (List.mem_of_getElem? hej)
   obtain ⟨ef,et,ep⟩:=e
   simp only at *
   have hbl:=World.block_lt_of_cell? w _ k0
   have HCW:Hid (∀ w',Below w.heap.size w w'→w'.cell? ⟨b,o + i * 3,none⟩=some (.int .i64 ef)∧w'.cell? ⟨b,o + i * 3 + 1,none⟩=some (.int .i64 et)∧w'.cell? ⟨b,o + i * 3 + 2,none⟩=some (.slice pa ep.length pc)∧Rd .i64 w' (.slice pa ep.length pc) ep):=fun w' hb=>⟨(hb.cell (p:=⟨b,o + i * 3,none⟩) hbl).trans k0,(hb.cell (p:=⟨b,o + i * 3 + 1,none⟩) hbl).trans k1,(hb.cell (p:=⟨b,o + i * 3 + 2,none⟩) hbl).trans k2,hpv.ext hb⟩
   have HPA:Hid (pa=none→ep=[]):=fun e=>by
    by_cases hn:ep=[]
    ·exact hn
    ·obtain ⟨b',o',e',_⟩:=hp3 hn
     rw [e] at e'
     cases e'
   obtain ⟨M,hM⟩:∃ M,M=ep.length + r:=⟨_,rfl⟩
   have PP:=hidIt (penPut_nil (i:Int) M wo (by omega))
   have HEJ:=hidIt hej
   clear k0 k1 k2 hpv hp3 hej hbl
   obtain ⟨c0,c1,c2,_⟩:=HCW.out wo HJ.out.bel
   obtain ⟨_,d0,d1,d2⟩:=HBLK.out wo (Below.refl _ _)
   have HMM:=hidIt (show (ep.length:Int) + (r:Int)=(M:Int) by omega)
   have HM:=hidIt hM
   have hMb:ep.length≤17592186044416:=by omega
   have hMb2:M≤17592186044616:=by omega
   have hMr:ep.length≤M:=by omega
   clear hM
   go_upto_region 11 with (first
    | (go_at_call 111;rw [HMM.out];refine PP.out.mono ?_;rintro e w2 ⟨rfl,hro,hb2⟩;have HRO:=hidIt hro;have HB2:=hidIt hb2;clear c0 c1 c2 d0 d1 d2;obtain ⟨c0,c1,c2,_⟩:=HCW.out w2 (ext_trans HJ.out.bel hb2);have HSRC:Hid (0 < (ep.map (Value.int .i64)).length→(some (⟨wo.heap.size,0,none⟩:Addr))=some ⟨wo.heap.size,0,none⟩∧∃ ad,pa=some ad∧∀ j u,(ep.map (Value.int .i64))[j]?=some u→w2.cell? (ad.add j)=some u):=(fun hp=>src_of (HCW.out w2 (ext_trans HJ.out.bel HB2.out)).2.2.2 hp);clear hro hb2;(try dsimp only))
    | (refine wpList_copy_splice rfl _ _ 22 22 rfl 3 Tryz.underlying22 hz0' _ _ _ _ _ _ rfl rfl wo.heap.size 0 ((List.replicate M (0:Int)).map (Value.int .i64)) 3 HRO.out (ep.map (Value.int .i64)) (by rw [List.length_map];exact (Nat.min_eq_left (by omega)).symm) HSRC.out (by simp only [List.length_map,List.length_replicate];omega) (by simp [Value.oneCell']) wo.heap.size wo HB2.out (Nat.le_refl _) ?_;intro w3 hE3 hb3;have HE3:=hidIt hE3.out;have HB3:=hidIt hb3;clear hE3 hb3 c0 c1 c2))
   have HZ3:Hid (∃ zs:List Int,zs.length=M∧zs.take ep.length=ep∧RoI w3 wo.heap.size zs):=by
    refine ⟨ep ++ List.replicate r 0,by simp [HM.out],by simp,?_⟩
    have e:=HE3.out
    rw [show splice ((List.replicate M (0:Int)).map (Value.int .i64)) 0 (ep.map (Value.int .i64))=(ep ++ List.replicate r (0:Int)).map (Value.int .i64) by
     unfold splice
     rw [List.take_zero,List.nil_append,Nat.zero_add,List.length_map,List.map_append,HM.out,← List.map_drop,List.drop_replicate,Nat.add_sub_cancel_left]] at e
    exact e
   clear HE3 HRO HSRC PP
   go_wp2_with fail
   go_loopg [9] r (fun gk2 p wr2=>∃ (k j:Nat),k + gk2=r∧j=ep.length + k∧p=.int .i64 (j:Nat)∧Hid (∃ zs:List Int,zs.length=M∧zs.take j=ep ++ mrk ep.length k∧RoI wr2 wo.heap.size zs∧Below wo.heap.size wo wr2))
   case atStart =>
    obtain ⟨zs,z1,z2,z3⟩:=HZ3.out
    exact ⟨0,ep.length,by omega,rfl,rfl,zs,z1,by rw [z2];simp [mrk],z3,HB3.out⟩
   case round =>
    obtain ⟨k,j,hk,hj,rfl,HZ⟩:=hrel
    by_cases hkr:k < r
    ·have hjM:j < M:=by have:=HM.out;omega
     have hjM2:(j:Int) < (M:Int):=by omega
     obtain ⟨zs,z1,z2,z3,z4⟩:=HZ.out
     obtain ⟨⟨x,cx⟩,fz⟩:=z3.cell j (by omega)
     have HNX:Hid (∃ zs':List Int,zs'.length=M∧zs'.take (j + 1)=ep ++ mrk ep.length (k + 1)∧RoI (wr.setCell ⟨wo.heap.size,j,none⟩ (.int .i64 (771 + (j:Int)))) wo.heap.size zs'∧Below wo.heap.size wo (wr.setCell ⟨wo.heap.size,j,none⟩ (.int .i64 (771 + (j:Int))))):=by
      obtain ⟨p1,p2⟩:=z3.set j (771 + (j:Int))
      refine ⟨_,by rw [List.length_set];exact z1,?_,p1,Below.grown z4 p2 z4.size (fun k' e=>by have:=Option.some.inj e;omega)⟩
      rw [take_put1 _ _ _ (by omega),z2,mrk_succ,← hj,List.append_assoc]
     have HJJ:=hidIt hj
     clear z1 z2 z3 z4 hj
     go_wp2_with fail
     go_roundg (r - (k + 1))
     case rel=>exact ⟨k + 1,j + 1,by omega,by have:=HJJ.out;omega,by go_num,HNX.out⟩
     case measure=>omega
    ·have hjM2:¬ (j:Int) < (M:Int):=by have:=HM.out;omega
     have HQ:Hid (RoI wr wo.heap.size (ep ++ mrk ep.length r)∧Below wo.heap.size wo wr):=by
      obtain ⟨zs,z1,z2,z3,z4⟩:=HZ.out
      obtain rfl:k=r:=by omega
      rw [List.take_of_length_le (by have:=HM.out;omega)] at z2
      rw [z2] at z3
      exact ⟨z3,z4⟩
     clear HZ hj hk hkr
     obtain ⟨hbk,d0,d1,d2⟩:=HBLK.out wr HQ.out.2
     have HHB:=hidIt hbk
     clear hbk
     have HNE:Hid (∀ b T,Typ T wr b→T≠22→some b≠(Value.slice ap i cp).ownBlock):=fun b T hb hT e=>by
      have hpu:=HJ.out.hd.puts
      rcases hpu.2 with ⟨e1,_⟩ | ⟨gp,cap',cur,hv,_,hgp,_⟩
      ·rw [e1] at e
       cases e
      ·rw [hv] at e
       have e':b=gp:=by simpa [Value.ownBlock] using e
       subst e'
       exact hT (hb.uniq ⟨_,(HQ.out.2.block _ (Array.getElem?_eq_some_iff.1 hgp).1).trans hgp⟩)
     have HOW:Hid ((wr.alloc (.cells #[.slice (some ⟨wo.heap.size,0,none⟩) M M] 22)).ownsRow w.heap.size 22 1 (.slice ap i cp) i (hs.map (HE.sl r))):=by
      have:=HJ.out.hd.puts
      rw [HJ.out.ln] at this
      exact ownsRow_same this (fun b' hb'=>(ext_alloc HQ.out.2 _).block b' hb'.lt)
     have HNW:Hid (∀ j' u,([.slice (some ⟨wo.heap.size,0,none⟩) M M]:List Value)[j']?=some u→(wr.alloc (.cells #[.slice (some ⟨wo.heap.size,0,none⟩) M M] 22)).cell? ((⟨wr.heap.size,0,none⟩:Addr).add j')=some u):=fun j' u hj'=>by
      cases j' with
      | zero =>
        simp only [List.getElem?_cons_zero,Option.some.injEq] at hj'
        subst hj'
        rw [show ((⟨wr.heap.size,0,none⟩:Addr).add 0)=⟨wr.heap.size,0,none⟩ from rfl,cell_of_row _ _ _ _ _ _ (heap_alloc_new _ _)]
        rfl
      | succ j'=>simp at hj'
     have HSZ:=hidIt (show w.heap.size≤(wr.alloc (.cells #[.slice (some ⟨wo.heap.size,0,none⟩) M M] 22)).heap.size from Nat.le_trans HJ.out.bel.size (Nat.le_trans HQ.out.2.size (size_alloc_le _ _)))
     have HH5:Hid (∀ w5,(wr.alloc (.cells #[.slice (some ⟨wo.heap.size,0,none⟩) M M] 22)).grownBy w5 (Value.slice ap i cp).ownBlock→w5.heap[w.heap.size + 1]?=some (.cells #[.int .i64 (r:Nat),.slice (some ⟨g,0,none⟩) N N,.slice ap i cp] 157 (0,0))):=fun w5 hg5=>by
      have hlt:=(Array.getElem?_eq_some_iff.1 HHB.out).1
      rw [hg5.block _ (Nat.lt_of_lt_of_le hlt (size_alloc_le _ _)) (HNE.out _ _ ⟨_,HHB.out⟩ (by decide)),(ext_alloc (Below.refl wr.heap.size wr) _).block _ hlt]
      exact HHB.out
     go_upto_region 16 with (at_builtin;refine wpList_append_own _ rfl _ _ 93 rfl w.heap.size 22 i1 (.slice none 0 0) 1 24 Tryz.underlying93 hi1 hz10 hz11 hz12 rfl (by decide) (.slice ap i cp) i (hs.map (HE.sl r)) rfl HOW.out ⟨wr.heap.size,0,none⟩ 1 1 [.slice (some ⟨wo.heap.size,0,none⟩) M M] rfl rfl HNW.out (by intro u hu;rw [List.mem_singleton] at hu;subst hu;rfl) (by unfold maxLen;omega) (by omega) HSZ.out ?_;intro v5 w5 ho5 hg5 _;obtain ⟨a5,c5,hv5⟩:=ownsRow_form ho5;subst hv5;have HO5:=hidIt ho5;have HG5:=hidIt hg5;have h5:=HH5.out w5 hg5;have e2:w5.cell? ⟨w.heap.size + 1,2,none⟩=some (.slice ap i cp):=(by rw [cell_of_row w5 _ _ _ _ _ h5];rfl);have f2:∀ k,w5.frozen? ⟨w.heap.size + 1,k,none⟩=false:=(fun k=>by simp [World.frozen?,h5]);have HB5:=hidIt h5;clear ho5 hg5 h5 d0 d1 d2)
     have HK6:Hid ((w5.setCell ⟨w.heap.size + 1,2,none⟩ (.slice a5 (i + 1) c5)).heap[w.heap.size + 1]?=some (.cells #[.int .i64 (r:Nat),.slice (some ⟨g,0,none⟩) N N,.slice a5 (i + 1) c5] 157 (0,0))∧(w5.setCell ⟨w.heap.size + 1,2,none⟩ (.slice a5 (i + 1) c5)).heap[w.heap.size]?=some (.cells #[.int .i64 0,.slice none 0 0,.slice none 0 0] 157 (0,0))∧(∀ y ∈ hs,HEok (w5.setCell ⟨w.heap.size + 1,2,none⟩ (.slice a5 (i + 1) c5)) w.heap.size r y)∧(w5.setCell ⟨w.heap.size + 1,2,none⟩ (.slice a5 (i + 1) c5)).ownsRow w.heap.size 30 3 (.slice (some ⟨g,0,none⟩) N N) N xs∧(w5.setCell ⟨w.heap.size + 1,2,none⟩ (.slice a5 (i + 1) c5)).ownsRow w.heap.size 22 1 (.slice a5 (i + 1) c5) (i + 1) (hs.map (HE.sl r) ++ [.slice (some ⟨wo.heap.size,0,none⟩) M M])∧RoI (w5.setCell ⟨w.heap.size + 1,2,none⟩ (.slice a5 (i + 1) c5)) wo.heap.size (ep ++ mrk ep.length r)∧Below w.heap.size w (w5.setCell ⟨w.heap.size + 1,2,none⟩ (.slice a5 (i + 1) c5))):=by
      obtain ⟨p1,p2⟩:=set1 HB5.out 2 (.slice a5 (i + 1) c5)
      have hsz:wr.heap.size≤w5.heap.size:=Nat.le_trans (size_alloc_le wr _) HG5.out.size
      have hlt:=(Array.getElem?_eq_some_iff.1 HHB.out).1
      have hst:∀ T b,T≠22→b≠w.heap.size + 1→Typ T wr b→(w5.setCell ⟨w.heap.size + 1,2,none⟩ (.slice a5 (i + 1) c5)).heap[b]?=wr.heap[b]?:=fun T b h1 h2 h3=>by
       rw [p2.block b (Nat.lt_of_lt_of_le h3.lt hsz) (fun e=>h2 (Option.some.inj e)),HG5.out.block b (Nat.lt_of_lt_of_le h3.lt (size_alloc_le _ _)) (HNE.out b T h3 h1),(ext_alloc (Below.refl wr.heap.size wr) _).block b h3.lt]
      have hst2:∀ T,T≠22→T≠157→∀ b,Typ T wr b→(w5.setCell ⟨w.heap.size + 1,2,none⟩ (.slice a5 (i + 1) c5)).heap[b]?=wr.heap[b]?:=fun T h1 h2 b h3=>hst T b h1 (fun e=>h2 (by subst e;exact h3.uniq ⟨_,HHB.out⟩)) h3
      have hrs:=(HQ.out.2.block _ (Array.getElem?_eq_some_iff.1 HJ.out.res).1).trans HJ.out.res
      have hd:=HJ.out.hd.ext HQ.out.2
      refine ⟨p1,(hst _ _ (by decide) (by omega) ⟨_,hrs⟩).trans hrs,fun y hy=>(hd.each y hy).same (hst2 _ (by decide) (by decide)),ownsRow_same hd.all (hst2 _ (by decide) (by decide)),?_,?_,?_⟩
      ·exact ownsRow_put HO5.out ⟨_,HB5.out⟩ (by decide) _ _
      ·unfold RoI
       rw [hst2 _ (by decide) (by decide) _ ⟨_,HQ.out.1⟩]
       exact HQ.out.1
      ·have hb5:Below w.heap.size w w5:=Below.grown (ext_alloc (ext_trans HJ.out.bel HQ.out.2) _) HG5.out HSZ.out (fun k e=>(World.ownsRow.lt HOW.out k e).1)
       exact Below.grown hb5 p2 hb5.size (fun k e=>by have:=Option.some.inj e;omega)
     generalize w5.setCell ⟨w.heap.size + 1,2,none⟩ (.slice a5 (i + 1) c5)=w6 at *
     clear HO5 HG5 HB5 HH5 HOW HNW HSZ HNE HHB HQ e2 f2
     have FIN:Hid (∀ wB pv,Below w6.heap.size w6 wB→((pv=.slice none 0 0∧ep=[])∨pv=.slice (some ⟨wo.heap.size,0,none⟩) ep.length M)→∃ hs' xs',HdJ w r g N (i + 1) a5 c5 es hs' xs' (((wB.setCell ⟨g,i * 3,none⟩ (.int .i64 ef)).setCell ⟨g,i * 3 + 1,none⟩ (.int .i64 et)).setCell ⟨g,i * 3 + 2,none⟩ pv)):=fun wB pv hb hpv=>by
      obtain ⟨q1,q2,q3,q4,q5,q6,q7⟩:=HK6.out
      have hln:=HJ.out.ln
      have hx:HEok wB w.heap.size r ⟨(ef,et,ep),wo.heap.size,pv⟩:=by
       refine ⟨HJ.out.bel.size,?_,?_,?_⟩
       ·unfold RoI
        rw [hb.block _ (Array.getElem?_eq_some_iff.1 q6).1]
        exact q6
       ·rcases hpv with ⟨h1,h2⟩ | h1
        ·exact .inl ⟨h1,h2⟩
        ·exact .inr (by rw [h1,HM.out])
       ·show ep.length + r≤_
        omega
      have hq5:wB.ownsRow w.heap.size 22 1 (.slice a5 (i + 1) c5) (hs.length + 1) (hs.map (HE.sl r) ++ [HE.sl r ⟨(ef,et,ep),wo.heap.size,pv⟩]):=by
       rw [hln]
       have:=ownsRow_same q5 (fun b' hb'=>hb.block b' hb'.lt)
       unfold HE.sl at this ⊢
       rw [← HM.out]
       exact this
      obtain ⟨s1,s2⟩:=Hd.snoc (fun y hy=>(q3 y hy).same (fun b' hb'=>hb.block b' hb'.lt)) (ownsRow_same q4 (fun b' hb'=>hb.block b' hb'.lt)) HJ.out.hd.pre ⟨(ef,et,ep),wo.heap.size,pv⟩ hx hq5 (by have:=HNN.out;omega)
      rw [hln] at s1 s2
      have hgt:Typ 30 wB g:=(own_typ q4).ext hb
      have hgl:=(q4.lt g rfl).1
      have r1:=(hb.block _ (Array.getElem?_eq_some_iff.1 q1).1).trans q1
      have r2:=(hb.block _ (Array.getElem?_eq_some_iff.1 q2).1).trans q2
      have hbB:=ext_trans q7 hb
      refine ⟨_,_,?_,?_,s1,?_,?_,Below.grown hbB s2 hbB.size (fun k e=>by have:=Option.some.inj e;omega)⟩
      ·exact (s2.block _ (Array.getElem?_eq_some_iff.1 r1).1 (fun e=>by have e':=Option.some.inj e;subst e';exact absurd (hgt.uniq ⟨_,r1⟩) (by decide))).trans r1
      ·exact (s2.block _ (Array.getElem?_eq_some_iff.1 r2).1 (fun e=>by have e':=Option.some.inj e;subst e';exact absurd (hgt.uniq ⟨_,r2⟩) (by decide))).trans r2
      ·rw [List.map_append,HJ.out.es,List.take_add_one,HEJ.out]
       rfl
      ·simp [hln]
     have HGC:Hid (∀ wB,Below w6.heap.size w6 wB→(wB.cell? ⟨w.heap.size + 1,1,none⟩=some (.slice (some ⟨g,0,none⟩) N N))∧(∃ a,wB.cell? ⟨g,i * 3,none⟩=some a)∧(∃ b,wB.cell? ⟨g,i * 3 + 1,none⟩=some b)∧(∃ c,wB.cell? ⟨g,i * 3 + 2,none⟩=some c)∧(∀ k,wB.frozen? ⟨g,k,none⟩=false)∧g < w6.heap.size):=fun wB hb=>by
      obtain ⟨q1,q2,q3,q4,q5,q6,q7⟩:=HK6.out
      have r1:=(hb.block _ (Array.getElem?_eq_some_iff.1 q1).1).trans q1
      obtain ⟨x1,x2,x3,x4⟩:=own3_cells (ownsRow_same q4 (fun b' hb'=>hb.block b' hb'.lt)) i (by have:=HNN.out;omega)
      exact ⟨by rw [cell_of_row wB _ _ _ _ _ r1];rfl,x1,x2,x3,x4,(q4.lt g rfl).2⟩
     have HB6:=hidIt HK6.out.2.2.2.2.2.2
     have hiN:i < N:=by have:=HNN.out;omega
     have hiN2:(i:Int) < (N:Int):=by omega
     clear HK6
     go_cut [10] from 69 to 79 (fun ve wF=>ve=.pointer (some ⟨w6.heap.size,0,none⟩)∧Hid (Below w6.heap.size w6 wF∧wF.heap[w6.heap.size]?=some (.cells #[.int .i64 ef,.int .i64 et,.slice none 0 0] 30 (0,0))))
     case first =>
      obtain ⟨c0,c1,c2,_⟩:=HCW.out w6 HB6.out
      have HCD:Hid (∀ w',Below w6.heap.size w6 w'→w'.cell? ⟨b,o + i * 3,none⟩=some (.int .i64 ef)∧w'.cell? ⟨b,o + i * 3 + 1,none⟩=some (.int .i64 et)):=fun w' hb=>by
       obtain ⟨c0,c1,_,_⟩:=HCW.out w' (ext_trans HB6.out hb)
       exact ⟨c0,c1⟩
      go_region_held3 (fun w'=>w'.cell? ⟨b,o + i * 3,none⟩=some (.int .i64 ef)∧w'.cell? ⟨b,o + i * 3 + 1,none⟩=some (.int .i64 et)) (first | exact HCD.out _ (by repeat (first | exact Below.refl _ _ | apply Below.drew | refine ext_alloc ?_ _)) | go_keep) (fail)
      all_goals go_wp2_with fail
      all_goals go_meet
      case rel=>exact ⟨rfl,Below.drew (ext_alloc (Below.refl _ _) _),heap_alloc_new _ _⟩
     obtain ⟨rfl,hwc⟩:=hcut
     obtain ⟨wA,hwA⟩:∃ wA,wA=wc:=⟨_,rfl⟩
     rw [← hwA] at hwc ⊢
     obtain ⟨hbA,hkA⟩:=hwc.out
     clear hwc hwA
     have HBA:=hidIt hbA
     have HKA:=hidIt hkA
     obtain ⟨c0,c1,c2,_⟩:=HCW.out wA (ext_trans HB6.out hbA)
     obtain ⟨g1,⟨x0,g2⟩,⟨x1,g3⟩,⟨x2,g4⟩,gf,hgl⟩:=HGC.out wA hbA
     have k0:wA.cell? ⟨w6.heap.size,0,none⟩=some (.int .i64 ef):=by rw [cell_of_row wA _ _ _ _ _ hkA];rfl
     have k1:wA.cell? ⟨w6.heap.size,1,none⟩=some (.int .i64 et):=by rw [cell_of_row wA _ _ _ _ _ hkA];rfl
     have k2:wA.cell? ⟨w6.heap.size,2,none⟩=some (.slice none 0 0):=by rw [cell_of_row wA _ _ _ _ _ hkA];rfl
     have kf:∀ k,wA.frozen? ⟨w6.heap.size,k,none⟩=false:=fun k=>by simp [World.frozen?,hkA]
     have hM0:¬ M=0:=by have:=HM.out;have:=HR.out;omega
     have hM0':¬ 0=M:=by omega
     have hMr2:(ep.length:Int)≤(M:Int):=by omega
     clear hbA hkA
     cases pa with
     | none =>
       go_wp2_with fail
       go_roundg (es.length - (i + 1))
       case rel =>
        obtain ⟨hs',xs',h⟩:=FIN.out wA (.slice none 0 0) HBA.out (.inl ⟨rfl,HPA.out (by trivial)⟩)
        exact ⟨i + 1,hs',a5,c5,xs',by omega,by go_num,h⟩
       case measure=>omega
     | some ad =>
       go_upto_region 19 with fail
       have HSB:Hid (Below w6.heap.size w6 (wA.setCell ⟨w6.heap.size,2,none⟩ (.slice (some ⟨wo.heap.size,0,none⟩) ep.length M))∧(wA.setCell ⟨w6.heap.size,2,none⟩ (.slice (some ⟨wo.heap.size,0,none⟩) ep.length M)).heap[w6.heap.size]?=some (.cells #[.int .i64 ef,.int .i64 et,.slice (some ⟨wo.heap.size,0,none⟩) ep.length M] 30 (0,0))):=by
        obtain ⟨p1,p2⟩:=set1 HKA.out 2 (.slice (some ⟨wo.heap.size,0,none⟩) ep.length M)
        exact ⟨Below.grown HBA.out p2 HBA.out.size (fun k e=>by have:=Option.some.inj e;omega),p1⟩
       clear g1 g2 g3 g4 gf k0 k1 k2 kf c0 c1 c2
       generalize wA.setCell ⟨w6.heap.size,2,none⟩ (.slice (some ⟨wo.heap.size,0,none⟩) ep.length M)=wB at *
       obtain ⟨g1,⟨x0,g2⟩,⟨x1,g3⟩,⟨x2,g4⟩,gf,_⟩:=HGC.out wB HSB.out.1
       have k0:wB.cell? ⟨w6.heap.size,0,none⟩=some (.int .i64 ef):=by rw [cell_of_row wB _ _ _ _ _ HSB.out.2];rfl
       have k1:wB.cell? ⟨w6.heap.size,1,none⟩=some (.int .i64 et):=by rw [cell_of_row wB _ _ _ _ _ HSB.out.2];rfl
       have k2:wB.cell? ⟨w6.heap.size,2,none⟩=some (.slice (some ⟨wo.heap.size,0,none⟩) ep.length M):=by rw [cell_of_row wB _ _ _ _ _ HSB.out.2];rfl
       go_wp2_with fail
       go_roundg (es.length - (i + 1))
       case rel =>
        obtain ⟨hs',xs',h⟩:=FIN.out wB _ HSB.out.1 (.inr rfl)
        exact ⟨i + 1,hs',a5,c5,xs',by omega,by go_num,h⟩
       case measure=>omega
  ·have hil2:¬ (i:Int) < (es.length:Int):=by omega
   obtain rfl:i=es.length:=by omega
   have HX0:Hid (∃ xs,HdJ w r g N es.length ap cp es hs xs wo∧xs.take (es.length * 3)=hs.flatMap HE.cs ++ mkE es.length 0):=by
    refine ⟨xs,HJ.out,?_⟩
    have:=HJ.out.hd.pre
    rw [HJ.out.ln] at this
    rw [this]
    simp [mkE]
   clear HBLK
   go_wp2_with fail
   go_loopg [11] r (fun gk2 p wr2=>∃ (k j:Nat),k + gk2=r∧j=es.length + k∧p=.int .i64 (j:Nat)∧Hid (∃ xs,HdJ w r g N es.length ap cp es hs xs wr2∧xs.take (j * 3)=hs.flatMap HE.cs ++ mkE es.length k))
   case atStart=>exact ⟨0,es.length,by omega,rfl,rfl,HX0.out⟩
   case round =>
    obtain ⟨k,j,hk,hj,rfl,HX⟩:=hrel
    obtain ⟨xs2,hX,hT⟩:=HX.out
    have c1:wr.cell? ⟨w.heap.size + 1,1,none⟩=some (.slice (some ⟨g,0,none⟩) N N):=by rw [cell_of_row wr _ _ _ _ _ hX.blk];rfl
    by_cases hkr:k < r
    ·have hjN:j < N:=by have:=HNN.out;omega
     have hjN2:(j:Int) < (N:Int):=by omega
     obtain ⟨⟨x0,g2⟩,⟨x1,g3⟩,⟨x2,g4⟩,gf⟩:=own3_cells hX.hd.all j hjN
     have HNX:Hid (∃ xs,HdJ w r g N es.length ap cp es hs xs (((wr.setCell ⟨g,j * 3,none⟩ (.int .i64 (-771 - (j:Int)))).setCell ⟨g,j * 3 + 1,none⟩ (.int .i64 (-772))).setCell ⟨g,j * 3 + 2,none⟩ (.slice none 0 0))∧xs.take ((j + 1) * 3)=hs.flatMap HE.cs ++ mkE es.length (k + 1)):=by
      obtain ⟨p1,p2⟩:=own3 hX.hd.all j (.int .i64 (-771 - (j:Int))) (.int .i64 (-772)) (.slice none 0 0)
      have ht:=own_typ hX.hd.all
      have hgl:=(hX.hd.all.lt g rfl).1
      have hxl:=hX.hd.all.1
      have hst:∀ T,T≠30→∀ b,Typ T wr b→(((wr.setCell ⟨g,j * 3,none⟩ (.int .i64 (-771 - (j:Int)))).setCell ⟨g,j * 3 + 1,none⟩ (.int .i64 (-772))).setCell ⟨g,j * 3 + 2,none⟩ (.slice none 0 0)).heap[b]?=wr.heap[b]?:=fun T hT b hb=>p2.block b hb.lt (fun e=>hT (by have e':=Option.some.inj e;subst e';exact hb.uniq ht))
      have hpre:(((xs2.set (j * 3) (.int .i64 (-771 - (j:Int)))).set (j * 3 + 1) (.int .i64 (-772))).set (j * 3 + 2) (.slice none 0 0)).take ((j + 1) * 3)=hs.flatMap HE.cs ++ mkE es.length (k + 1):=by
       rw [take_put3 _ _ _ _ _ (by omega),hT,mkE_succ,← hj,List.append_assoc]
      refine ⟨_,⟨(hst _ (by decide) _ ⟨_,hX.blk⟩).trans hX.blk,(hst _ (by decide) _ ⟨_,hX.res⟩).trans hX.res,⟨fun y hy=>(hX.hd.each y hy).same (hst _ (by decide)),ownsRow_same hX.hd.puts (hst _ (by decide)),p1,?_⟩,hX.es,hX.ln,Below.grown hX.bel p2 hX.bel.size (fun k' e=>by have:=Option.some.inj e;omega)⟩,hpre⟩
      have:=congrArg (List.take (hs.length * 3)) hpre
      rw [List.take_take,Nat.min_eq_left (by have:=hX.ln;omega),List.take_left' (cs_len hs)] at this
      exact this
     have HJJ:=hidIt hj
     have hjb:j≤17592186044416:=by omega
     clear hX hT hj
     go_wp2_with fail
     go_roundg (r - (k + 1))
     case rel=>exact ⟨k + 1,j + 1,by omega,by have:=HJJ.out;omega,by go_num,HNX.out⟩
     case measure=>omega
    ·have hjN2:¬ (j:Int) < (N:Int):=by have:=HNN.out;omega
     have c0:wr.cell? ⟨w.heap.size + 1,0,none⟩=some (.int .i64 (r:Nat)):=by rw [cell_of_row wr _ _ _ _ _ hX.blk];rfl
     have c2:wr.cell? ⟨w.heap.size + 1,2,none⟩=some (.slice ap es.length cp):=by rw [cell_of_row wr _ _ _ _ _ hX.blk];rfl
     have q0:wr.cell? ⟨w.heap.size,0,none⟩=some (.int .i64 0)∧wr.cell? ⟨w.heap.size,1,none⟩=some (.slice none 0 0)∧wr.cell? ⟨w.heap.size,2,none⟩=some (.slice none 0 0):=by refine ⟨?_,?_,?_⟩ <;> (rw [cell_of_row wr _ _ _ _ _ hX.res];rfl)
     have qf:∀ i,wr.frozen? ⟨w.heap.size,i,none⟩=false:=fun i=>by simp [World.frozen?,hX.res]
     have HXX:=hidIt hX
     have HTT:Hid (xs2=hs.flatMap HE.cs ++ mkE es.length r):=by
      obtain rfl:k=r:=by omega
      have hxl:=hX.hd.all.1
      rw [List.take_of_length_le (by have:=HNN.out;omega)] at hT
      exact hT
     clear hX hT
     go_wp2_with fail
     obtain ⟨p1,p2⟩:=put3 HXX.out.res (.int .i64 (r:Nat)) (.slice (some ⟨g,0,none⟩) N N) (.slice ap es.length cp)
     generalize hwz:World.setCell (World.setCell (World.setCell wr _ _) _ _) _ _=z at *
     have r0:z.cell? ⟨w.heap.size,0,none⟩=some (.int .i64 (r:Nat))∧z.cell? ⟨w.heap.size,1,none⟩=some (.slice (some ⟨g,0,none⟩) N N)∧z.cell? ⟨w.heap.size,2,none⟩=some (.slice ap es.length cp):=by refine ⟨?_,?_,?_⟩ <;> (rw [cell_of_row z _ _ _ _ _ p1];rfl)
     have F:Hid (∃ (r' g':Nat) (ap':Option Addr) (cp':Nat),Ending.returned (.agg #[.int .i64 (r:Nat),.slice (some ⟨g,0,none⟩) N N,.slice ap es.length cp])=.returned (.agg #[.int .i64 (r':Nat),.slice (some ⟨g',0,none⟩) (es.length + r') (es.length + r'),.slice ap' es.length cp'])∧Hid (∃ hs:List HE,Hd z w.heap.size r' g' (es.length + r') (.slice ap' es.length cp') hs (hs.flatMap HE.cs ++ mkE es.length r')∧hs.map HE.e=es∧(r'=2∨r'=100))∧Below w.heap.size w z):=by
      have hst:∀ T,T≠157→∀ b,Typ T wr b→z.heap[b]?=wr.heap[b]?:=fun T hT b hb=>p2.same b hb.lt (fun e=>hT (by subst e;exact hb.uniq ⟨_,HXX.out.res⟩))
      have hh:=HXX.out.hd.same (hst _ (by decide)) (hst _ (by decide)) (hst _ (by decide))
      have hes:=HXX.out.es
      rw [List.take_length] at hes
      rw [HTT.out,HNN.out] at hh
      refine ⟨r,g,ap,cp,by rw [HNN.out],⟨hs,hh,hes,HR.out⟩,?_⟩
      have h4:=HXX.out.bel
      exact h4.trans (p2.below h4.size (fun k hk=>Nat.le_of_eq hk.symm))
     exact bodyPost_ret (v:=.agg #[.int .i64 (r:Nat),.slice (some ⟨g,0,none⟩) N N,.slice ap es.length cp]) (by simp [results,Tryz.results80,go_sem,r0]) rfl F.out
end Go.Proofs.YtjjfakokakamaaaGreat.P

namespace Go.Proofs.YtjjfakokakamaaaGreat.P
open Go.RowKit
theorem Tx.typ0 {enc lim:Int} {L:List Int} {w:World} {t:Nat} {ps:List PG} (h:Tx enc lim L w t ps):Typ 116 w t:=by
 obtain ⟨_,_,h1,_⟩:=h.ex
 exact ⟨_,h1⟩
theorem Tx.same {enc lim:Int} {L:List Int} {w w':World} {t:Nat} {ps:List PG} (h:Tx enc lim L w t ps) (h1:∀ b,Typ 5 w b→w'.heap[b]?=w.heap[b]?) (h2:∀ b,Typ 182 w b→w'.heap[b]?=w.heap[b]?) (h3:∀ b,Typ 116 w b→w'.heap[b]?=w.heap[b]?):Tx enc lim L w' t ps:=by
 obtain ⟨lv,u,k1,k2,k3⟩:=h.ex
 exact ⟨⟨lv,u,(h3 t ⟨_,k1⟩).trans k1,k2.same h1,k3.same h2⟩,h.pc.same h1,h.en,h.by',h.ll,h.l0,h.lm,h.sz⟩
theorem Sn.same {enc:Int} {L:List Int} {w w':World} {s t:Nat} {ps:List PG} (h:Sn enc L w s t ps) (h1:∀ b,Typ 5 w b→w'.heap[b]?=w.heap[b]?) (h2:∀ b,Typ 182 w b→w'.heap[b]?=w.heap[b]?) (h3:∀ b,Typ 150 w b→w'.heap[b]?=w.heap[b]?):Sn enc L w' s t ps:=by
 obtain ⟨u,k1,k2⟩:=h.ex
 exact ⟨⟨u,(h3 s ⟨_,k1⟩).trans k1,k2.same h2⟩,h.pc.same h1,h.sz⟩
structure Bnd (es:List Ed):Prop where
 each:∀ e ∈ es,e.2.2.length * 8≤140737488351232
 len:es.length * 40≤140737488351232
theorem puts_bnd:∀ (es:List Ed) (B:Nat),(∀ e ∈ es,e.2.2.length≤B)→(puts es).length≤es.length * B:=by
 intro es
 induction es with
 | nil=>intro B _;simp [puts]
 | cons e es ih =>
   intro B h
   have h1:=ih B (fun x hx=>h x (List.mem_cons_of_mem _ hx))
   have h2:=h e (List.mem_cons_self ..)
   have e1:puts (e :: es)=e.2.2 ++ puts es:=by simp [puts]
   rw [e1,List.length_append,List.length_cons,Nat.add_mul,Nat.one_mul]
   omega
theorem Bnd.puts {es:List Ed} (h:Bnd es):es.length≤70000→(puts es).length≤2305843009213693951:=fun h7=>by
 have h1:=puts_bnd es 17592186044416 (fun e he=>by have:=h.each e he;omega)
 have h2:es.length * 17592186044416≤70000 * 17592186044416:=Nat.mul_le_mul_right _ h7
 omega
def CgR (enc lim:Int) (L:List Int) (t:Nat) (ps:List PG) (es:List Ed) (w:World) (e:Ending) (w':World):Prop :=
 e=.returned (.tuple #[.int .i64 (chA enc lim (sh enc ps) es),.bool true])∧∃ ps',Tx enc lim L w' t ps'∧sh enc ps'=chT enc lim (sh enc ps) es∧Kps (fun k=>k=t) w w'
set_option maxRecDepth 100000 in
set_option maxHeartbeats 4000000 in
theorem written_nil (enc lim:Int) (L:List Int) (w00 w:World) (t:Nat) (ps:List PG) (v:Value) (es:List Ed) (h:Tx enc lim L w t ps) (hE0:EdR w00 v es) (hb00:Below w00.heap.size w00 w) (ht00:w00.heap.size≤t) (hl:Bnd es) :
  Calls Tryz.prog 45 #[.pointer (some ⟨t,0,none⟩),.pointer none,v] w fun e w'=>CgR enc lim L t ps es w e w':=by
 have hE:=hE0.ext hb00
 have HA:=hidIt (hand_nil v es w hE hl.each hl.len)
 have HT:=hidIt h
 have HE0:=hidIt hE0
 have HB00:=hidIt hb00
 have HL:=hidIt hl
 have hn:es.length≤17592186044416:=by have:=hl.len;omega
 have htl:t < w.heap.size:=h.typ0.lt
 obtain ⟨ao,cap,rfl,hc1,hc2,_⟩:=id hE
 clear h hE hl hE0 hb00
 go_enter Tryz.func45,Tryz.ntmps45
 go_upto_region 2 with (go_at_call 80;refine HA.out.mono ?_;rintro e w1 ⟨r,g,ap,cp,rfl,HH,hb1⟩;have HB1:=hidIt hb1;clear hb1;(try dsimp only))
 obtain ⟨hs,hHd,hes,hr⟩:=HH.out
 have hr2:2≤r∧r≤100:=by omega
 have hln:hs.length=es.length:=by rw [← hes,List.length_map]
 obtain ⟨w2,hw2,k2,hb2⟩:∃ w2,w2=w1.alloc (.cells #[.int .i64 (r:Nat),.slice (some ⟨g,0,none⟩) (es.length + r) (es.length + r),.slice ap es.length cp] 157)∧w2.heap[w1.heap.size]?=some (.cells #[.int .i64 (r:Nat),.slice (some ⟨g,0,none⟩) (es.length + r) (es.length + r),.slice ap es.length cp] 157 (0,0))∧Below w1.heap.size w1 w2:=⟨_,rfl,heap_alloc_new _ _,ext_alloc (Below.refl _ _) _⟩
 have HH2:=hidIt (hHd.ext hb2)
 have HB2:=hidIt (ext_trans HB1.out hb2)
 have HK2:=hidIt k2
 have HES:=hidIt hes
 have HLN:=hidIt hln
 have HHV:Hid (∀ w':World,w'.heap[w1.heap.size]?=w2.heap[w1.heap.size]?→w'.cell? ⟨w1.heap.size,0,none⟩=some (.int .i64 (r:Nat))∧w'.cell? ⟨w1.heap.size,1,none⟩=some (.slice (some ⟨g,0,none⟩) (es.length + r) (es.length + r))∧w'.cell? ⟨w1.heap.size,2,none⟩=some (.slice ap es.length cp)):=fun w' hq=>by
  have e:=hq.trans HK2.out
  refine ⟨?_,?_,?_⟩ <;> (rw [cell_of_row w' _ _ _ _ _ e];rfl)
 have h1l:w1.heap.size < w2.heap.size:=(Array.getElem?_eq_some_iff.1 k2).1
 rw [← hw2]
 clear hw2 k2 hb2 hHd hes hln HH HA
 have ED:=hidIt (hEdits_any r g (es.length + r) ap es.length cp w2 (by omega) (by omega) (by omega))
 rw [Nat.add_sub_cancel] at ED
 have CH:Hid (∀ w',Below w2.heap.size w2 w'→Calls Tryz.prog 19 #[.pointer (some ⟨t,0,none⟩),.slice (some ⟨g,0,none⟩) es.length (es.length + r)] w' fun e w''=>e=.returned (.int .i64 (chA enc lim (sh enc ps) es))∧Hid (∃ ps',Tx enc lim L w'' t ps'∧sh enc ps'=chT enc lim (sh enc ps) es∧Kps (fun k=>k=t) w' w'')):=fun w' hb=>by
  have h1:=(HH2.out.ext hb).edr (by have:=HLN.out;omega) (by omega)
  rw [HES.out,HLN.out] at h1
  exact (Change_any enc lim L w' t ps _ es (HT.out.ext (ext_trans HB2.out hb)) h1 HL.out.puts).mono fun e w'' h=>h
 obtain ⟨c0,c1,c2⟩:=HHV.out w2 rfl
 go_upto_region 3 with (first
  | (go_at_call 81;refine ED.out.mono ?_;rintro e w3 ⟨rfl,hb3⟩;have HB3:=hidIt hb3;have CH3:=hidIt (CH.out w3 hb3);clear hb3 c0 c1 c2;(try dsimp only))
  | (go_at_call 19;refine CH3.out.mono ?_;rintro e w4 ⟨rfl,HC4⟩;(try dsimp only)))
 obtain ⟨ps',hT4,hsh4,hk4⟩:=HC4.out
 have HTY:=hidIt (show Typ 116 w3 t from (HT.out.ext (ext_trans HB2.out HB3.out)).typ0)
 have hst4:∀ T,T≠116→∀ b,Typ T w3 b→w4.heap[b]?=w3.heap[b]?:=fun T hT b hb=>hk4.same b hb.lt (fun e=>hT (by subst e;exact hb.uniq HTY.out))
 have HH4:=hidIt ((HH2.out.ext HB3.out).same (hst4 _ (by decide)) (hst4 _ (by decide)) (hst4 _ (by decide)))
 have hbk4:w4.heap[w1.heap.size]?=w2.heap[w1.heap.size]?:=by
  have e3:=HB3.out.block _ h1l
  rw [hst4 157 (by decide) _ ⟨_,e3.trans HK2.out⟩,e3]
 have hB4:Below w00.heap.size w00 w4:=by
  have h3:=ext_trans HB00.out (ext_trans HB2.out HB3.out)
  exact h3.trans (hk4.below h3.size (fun k hk=>by omega))
 have WH:=hidIt (whole_any w.heap.size r g ap cp hs es (.slice ao es.length cap) w4 HH4.out HES.out (HE0.out.ext hB4) hr2 hn (fun e he=>by have:=HL.out.each e he;omega))
 have HT4:=hidIt hT4
 have HS4:=hidIt hsh4
 have HKK4:Hid (Kps (fun k=>k=t) w w4):=(Kps.of_below (fun k=>k=t) (ext_trans HB2.out HB3.out)).trans hk4 fun _ _ e=>e
 have HBK4:=hidIt hbk4
 obtain ⟨c0,c1,c2⟩:=HHV.out w4 hbk4
 clear hT4 hsh4 hk4 hst4 hbk4 hB4 HC4
 go_upto_region 4 with (go_at_call 82;refine WH.out.mono ?_;rintro e w5 ⟨rfl,hb5⟩;have HB5:=hidIt hb5;clear hb5 c0 c1 c2;(try dsimp only))
 have h1l4:w1.heap.size < w4.heap.size:=(Array.getElem?_eq_some_iff.1 (HBK4.out.trans HK2.out)).1
 obtain ⟨c0,c1,c2⟩:=HHV.out w5 ((HB5.out.block _ h1l4).trans HBK4.out)
 have hH5:=HH4.out.ext HB5.out
 have hS5:=hH5.sp
 have HSP:Hid (Calls Tryz.prog 83 #[.agg #[.int .i64 (r:Nat),.slice (some ⟨g,0,none⟩) (es.length + r) (es.length + r),.slice ap es.length cp]] w5 fun e w'=>(∃ v,e=.returned v)∧Kps (fun k=>(∃ y ∈ hs,k=y.b)∨k=g) w5 w'):=by
  have:=spoil_any w.heap.size r g (es.length + r) ap cp hs w5 (by rw [HLN.out];exact hS5) (by omega) (by have:=HLN.out;omega) (fun x hx=>(hH5.each x hx).ln)
  rwa [HLN.out] at this
 have HS5:=hidIt hS5
 have HH5:=hidIt hH5
 clear hS5 hH5
 go_wp2_with (go_at_call 83;refine HSP.out.mono ?_;rintro e w6 ⟨⟨u,rfl⟩,hk6⟩;have HK6:=hidIt hk6;clear hk6 c0 c1 c2;(try dsimp only))
 go_ret2
 have hst6:∀ T,T≠3→T≠30→∀ b,Typ T w5 b→w6.heap[b]?=w5.heap[b]?:=fun T h1 h2 b hb=>HK6.out.same b hb.lt (fun e=>by
  rcases e with ⟨y,hy,rfl⟩ | rfl
  ·obtain ⟨ys,hys⟩:=HS5.out.each y hy
   exact h1 (hb.uniq (HE.typ hys))
  ·exact h2 (hb.uniq (own_typ HH5.out.all)))
 refine ⟨rfl,ps',(HT4.out.ext HB5.out).same (hst6 _ (by decide) (by decide)) (hst6 _ (by decide) (by decide)) (hst6 _ (by decide) (by decide)),HS4.out,?_⟩
 refine (HKK4.out.trans (Kps.of_below (fun k=>k=t) HB5.out) fun _ _ e=>e).trans HK6.out fun i hi e=>?_
 rcases e with ⟨y,hy,rfl⟩ | e
 ·have:=(HH5.out.each y hy).ge
  omega
 ·have:w.heap.size≤g:=(HH5.out.all.lt g rfl).1
  omega
set_option maxRecDepth 100000 in
theorem changed_any (enc lim:Int) (L:List Int) (w00 w:World) (t:Nat) (ps:List PG) (v:Value) (es:List Ed) (h:Tx enc lim L w t ps) (hE0:EdR w00 v es) (hb00:Below w00.heap.size w00 w) (ht00:w00.heap.size≤t) (hl:Bnd es) :
  Calls Tryz.prog 30 #[.pointer (some ⟨t,0,none⟩),v] w fun e w'=>CgR enc lim L t ps es w e w':=by
 have WR:=hidIt (written_nil enc lim L w00 w t ps v es h hE0 hb00 ht00 hl)
 obtain ⟨ao,cap,rfl,_⟩:=id hE0
 clear h hE0 hb00
 go_enter Tryz.func30,Tryz.ntmps30
 go_wp2_with (go_at_call 45;refine WR.out.mono ?_;rintro e w1 ⟨rfl,hc1⟩;have HC1:=hidIt hc1;clear hc1;(try dsimp only))
 go_ret2
 exact ⟨rfl,HC1.out⟩
end Go.Proofs.YtjjfakokakamaaaGreat.P

namespace Go.Proofs.YtjjfakokakamaaaGreat.P
open Go.RowKit
set_option maxRecDepth 100000 in
theorem known_yes (enc:Int) (la:Option Addr) (n lc:Nat) (w:World) (h:1≤enc∧enc≤4∧n≤65536):Calls Tryz.prog 25 #[.int .i64 enc,.slice la n lc] w fun e w'=>e=.returned (.bool true)∧w'=w:=by
 obtain ⟨h1,h2,h3⟩:=h
 have h3':(n:Int)≤65536:=by omega
 go_enter Tryz.func25,Tryz.ntmps25
 go_wp2_with fail
 go_ret
 exact ⟨rfl,rfl⟩
set_option maxRecDepth 100000 in
theorem known_no (enc:Int) (la:Option Addr) (n lc:Nat) (w:World) (hn:n≤9223372036854775807) (h:¬ (1≤enc∧enc≤4∧n≤65536)):Calls Tryz.prog 25 #[.int .i64 enc,.slice la n lc] w fun e w'=>e=.returned (.bool false)∧w'=w:=by
 by_cases h1:1≤enc
 ·by_cases h2:enc≤4
  ·have h3':¬ (n:Int)≤65536:=by omega
   clear h
   go_enter Tryz.func25,Tryz.ntmps25
   go_wp2_with fail
   go_ret
   exact ⟨rfl,rfl⟩
  ·clear h
   go_enter Tryz.func25,Tryz.ntmps25
   go_wp2_with fail
   go_ret
   exact ⟨rfl,rfl⟩
 ·clear h
  go_enter Tryz.func25,Tryz.ntmps25
  go_wp2_with fail
  go_ret
  exact ⟨rfl,rfl⟩
end Go.Proofs.YtjjfakokakamaaaGreat.P

namespace Go.Proofs.YtjjfakokakamaaaGreat.P
open Go.RowKit
def EdL (w:World) (v:Value) (ess:List (List Ed)):Prop :=
 ∃ ao cap,v=.slice ao ess.length cap∧ess.length≤cap∧cap≤9223372036854775807∧∀ i es,ess[i]?=some es→∃ b o ea ec,ao=some ⟨b,o,none⟩∧b < w.heap.size∧w.cell? ⟨b,o + i,none⟩=some (.slice ea es.length ec)∧EdR w (.slice ea es.length ec) es∧Bnd es
theorem rd8_kpt {enc lim:Int} {L:List Int} {w w':World} {t:Nat} {ps:List PG} (h:Tx enc lim L w t ps) (hk:Kps (fun k=>k=t) w w') {v:Value} {zs:List Int} (hr:Rd .u8 w v zs):Rd .u8 w' v zs:=by
 obtain ⟨ao,cap,h1,h2,h3,h4⟩:=hr
 refine ⟨ao,cap,h1,h2,h3,fun hn=>?_⟩
 obtain ⟨b,off,k1,k2,k3⟩:=h4 hn
 have hbt:b≠t:=fun e=>by
  subst e
  obtain ⟨lv,u,m1,m2,_⟩:=h.ex
  have c:=k3 0 (List.length_pos_iff.2 hn)
  rw [cell_of_row w b _ _ _ _ m1,Nat.add_zero] at c
  obtain ⟨bl,ol,cl,rfl,_⟩:=m2
  match off with
  | 0=>simp at c
  | 1=>simp at c
  | 2=>simp at c
  | 3=>simp at c
  | n + 4=>simp at c
 refine ⟨b,off,k1,Nat.lt_of_lt_of_le k2 hk.size,fun i hi=>?_⟩
 rw [← k3 i hi]
 exact World.cell?_of_block (hk.same b k2 hbt)
structure FtI (enc:Int) (L:List Int) (w:World) (t s bx:Nat) (ps0 ps:List PG) (va vt vb:Value) (wr:World):Prop where
 tx:Tx enc 65536 L wr t ps
 fai:Fai enc L (sh enc ps)
 sn:Sn enc L wr s t ps0
 blk:wr.heap[bx]?=some (.cells #[va,vt,vb] 36 (0,0))
 oa:OwnI wr w.heap.size va (asOf ps0)
 ot:OwnI wr w.heap.size vt ((sh enc ps0).map Prod.snd)
 ob:Rd .u8 wr vb (Cx.encB enc (asOf ps0))
 bel:Below w.heap.size w wr
 tl:w.heap.size≤t
theorem FtI.ext {enc:Int} {L:List Int} {w:World} {t s bx:Nat} {ps0 ps:List PG} {va vt vb:Value} {wr w':World} (h:FtI enc L w t s bx ps0 ps va vt vb wr) (hb:Below wr.heap.size wr w'):FtI enc L w t s bx ps0 ps va vt vb w' :=
 ⟨h.tx.ext hb,h.fai,h.sn.ext hb,(hb.block _ (Array.getElem?_eq_some_iff.1 h.blk).1).trans h.blk,h.oa.ext hb,h.ot.ext hb,h.ob.ext hb,ext_trans h.bel hb,h.tl⟩
theorem OwnI.kpt0 {w w':World} {base t:Nat} {v:Value} {zs:List Int} (h:OwnI w base v zs) (hk:Kps (fun k=>k=t) w w') (ht:Typ 116 w t):OwnI w' base v zs :=
 ownsRow_same h fun b hb=>hk.same b hb.lt (fun e=>by subst e;exact absurd (hb.uniq ht) (by decide))
theorem FtI.kps {enc:Int} {L:List Int} {w:World} {t s bx:Nat} {ps0 ps ps':List PG} {va vt vb:Value} {wr w':World} (h:FtI enc L w t s bx ps0 ps va vt vb wr) (hk:Kps (fun k=>k=t) wr w') (hT:Tx enc 65536 L w' t ps') (hF:Fai enc L (sh enc ps')):FtI enc L w t s bx ps0 ps' va vt vb w':=by
 have ht:=h.tx.typ0
 have hst:∀ T,T≠116→∀ b,Typ T wr b→w'.heap[b]?=wr.heap[b]?:=fun T hT b hb=>hk.same b hb.lt (fun e=>hT (by subst e;exact hb.uniq ht))
 exact ⟨hT,hF,h.sn.same (hst _ (by decide)) (hst _ (by decide)) (hst _ (by decide)),(hst _ (by decide) _ ⟨_,h.blk⟩).trans h.blk,h.oa.kpt0 hk ht,h.ot.kpt0 hk ht,rd8_kpt h.tx hk h.ob,h.bel.trans (hk.below h.bel.size (fun k e=>by have:=h.tl;omega)),h.tl⟩
end Go.Proofs.YtjjfakokakamaaaGreat.P

namespace Go.Proofs.YtjjfakokakamaaaGreat
open Go.ChangeShapes Go.WideShapes Go.ChangeAt Go.RowKit
theorem ownK:ownKnob Tryz.prog.godebug=none:=by kernel_rfl
theorem laidOutK:laidOutB Tryz.prog=true:=by kernel_rfl
theorem bytesK_i64:Tryz.prog.bytesOf 3=8:=by kernel_rfl
theorem rd_of {H:Type} {enc:TypeId × Value→H} {W:World} {t e:TypeId} {k:IntKind} {a0:Option Addr} {len0 cap0:Nat} {d:DataW H} {p:List MemPlace}
  (ht:Tryz.prog.underlying t=some (.slice e)) (he:Tryz.prog.underlying e=some (.int k)) (hc:Tryz.prog.cellsOf e=1)
  (h:DataW.Trod enc Tryz.prog W 0 (fun _=>true) true t (.slice a0 len0 cap0) d p) :
  ∃ zs,Rd k W (.slice a0 len0 cap0) zs∧(∀ n ∈ zs,(Lit.int k n).wf=true)∧(zs=[]∨∃ el sp,d=.slice el sp∧el.length=zs.length):=by
 obtain ⟨fuel,hf⟩:=h
 rcases open_ints ht he hc hf with ⟨hcs,_⟩ | ⟨x,l,c,zs,hcs,_,hl,hm,hz,hx,hcell,hwz⟩
 ·simp [Value.cells] at hcs
  obtain ⟨rfl,rfl,rfl⟩:=hcs
  exact ⟨[],⟨none,0,rfl,Nat.le_refl _,by simp [maxLen],fun h=>absurd rfl h⟩,by simp,.inl rfl⟩
 ·simp [Value.cells] at hcs
  obtain ⟨rfl,rfl,rfl⟩:=hcs
  simp at hz
  have hlen:(zs.take len0).length=len0:=by rw [List.length_take];omega
  refine ⟨zs.take len0,⟨some x,cap0,by rw [hlen],by omega,hm,fun hn=>?_⟩,fun n hn=>hwz n (List.mem_of_mem_take hn),.inr ⟨_,_,(Prod.mk.inj hx).1,by simp [lits]⟩⟩
  have hpos:0 < len0:=by
   rcases Nat.eq_zero_or_pos len0 with h | h
   ·subst h;simp at hn
   ·exact h
  obtain ⟨b,off,spot⟩:=x
  have hc0:=hcell 0 (by omega)
  have hspot:spot=none:=by simpa [Addr.add] using World.cell?_spot hc0
  subst hspot
  refine ⟨b,off,rfl,World.block_lt_of_cell? W _ (by simpa [Addr.add] using hc0),fun i hi=>?_⟩
  rw [hlen] at hi
  have:=hcell i (by omega)
  rw [Addr.add_lit] at this
  rw [this,List.getElem?_take,if_pos hi]
  simp [List.getD]
theorem byt_of {zs:List Int} (h:∀ n ∈ zs,(Lit.int .u8 n).wf=true):Byt zs:=by
 intro z hz
 have:=bounds_u8 (h z hz)
 omega
end Go.Proofs.YtjjfakokakamaaaGreat

namespace Go.Proofs.YtjjfakokakamaaaGreat
open Go.ChangeShapes Go.WideShapes Go.ChangeAt Go.RowKit
theorem cSl:Tryz.prog.cellsOf 22=1:=by kernel_rfl
theorem cEs:Tryz.prog.cellsOf 31=1:=by kernel_rfl
theorem cIn:Tryz.prog.cellsOf 3=1:=by kernel_rfl
theorem cEd:Tryz.prog.cellsOf 30=3:=by kernel_rfl
theorem bytesK_ed:Tryz.prog.bytesOf 30=40:=by kernel_rfl
theorem weights_elem {H:Type} {P:Program} {e:TypeId}:∀ {l:List (DataW H)} {d:DataW H},d ∈ l→∀ n ∈ d.weights P e,n ∈ DataW.weightsAll P e l
 | x :: l,d,h,n,hn=>by
   simp only [DataW.weightsAll,List.mem_append]
   rcases List.mem_cons.1 h with rfl | h
   ·exact Or.inl hn
   ·exact Or.inr (weights_elem h n hn)
theorem weights_slice {H:Type} {P:Program} {t e:TypeId} {el sp:List (DataW H)} {d:DataW H} (hu:P.underlying t=some (.slice e)) (h:d ∈ el):∀ n ∈ d.weights P e,n ∈ (DataW.slice el sp).weights P t:=by
 intro n hn
 simp only [DataW.weights,hu,List.mem_cons,List.mem_append]
 exact Or.inr (Or.inl (weights_elem h n hn))
theorem weights_part {H:Type} {P:Program} {t:TypeId} {fs:Array Field} {parts:List (DataW H)} {d:DataW H} (hu:P.underlying t=some (.struct fs)) {j:Nat} {f:Field} (hf:fs[j]?=some f) (hd:parts[j]?=some d):∀ n ∈ d.weights P f.type,n ∈ (DataW.agg parts).weights P t:=by
 intro n hn
 simp only [DataW.weights,hu]
 exact DataW.weights_mem_each (j:=j) (by simp [hf]) hd n hn
theorem inner_of {H:Type} {enc:TypeId × Value→H} {W:World} {fuel:Nat} {c:Value} {d:DataW H} {p:List MemPlace}
  (h:DataW.trod enc Tryz.prog W 0 (fun _=>true) true fuel 22 [c]=some (d,p)) :
  ∃ ao cap zs,c=.slice ao zs.length cap∧Rd .i64 W (.slice ao zs.length cap) zs∧(zs=[]∨∃ el sp,d=.slice el sp∧el.length=zs.length):=by
 have hs:∃ ao len cap,c=.slice ao len cap:=by
  rcases DataW.trod_slice Tryz.underlying22 h with ⟨hcs,_⟩ | ⟨x,l,k,elems,rest,n,_,hcs,_⟩
  ·exact ⟨none,0,0,by simpa using hcs⟩
  ·exact ⟨some x,l,k,by simpa using hcs⟩
 obtain ⟨ao,len,cap,rfl⟩:=hs
 obtain ⟨zs,hr,_,hd⟩:=rd_of (enc:=enc) (d:=d) (p:=p) Tryz.underlying22 Tryz.underlying3 (by kernel_rfl) ⟨fuel,by simpa [Value.cells] using h⟩
 obtain ⟨ao',cap',hv,r1,r2,r3⟩:=id hr
 simp only [Value.slice.injEq] at hv
 obtain ⟨rfl,rfl,rfl⟩:=hv
 exact ⟨ao,cap,zs,rfl,hr,hd⟩
theorem inner_bound {H:Type} {zs:List Int} {d:DataW H} (hd:zs=[]∨∃ el sp,d=DataW.slice el sp∧el.length=zs.length) (hw:∀ n ∈ d.weights Tryz.prog 22,n≤reachBytes):zs.length * 8≤140737488351232:=by
 rcases hd with rfl | ⟨el,sp,rfl,hel⟩
 ·simp
 ·have:=hw ((el.length + sp.length) * Tryz.prog.bytesOf 3) (by simp [DataW.weights,Tryz.underlying22])
  rw [bytesK_i64] at this
  simp only [reachBytes] at this
  omega
structure EdAt (w:World) (f:Nat→Option Value) (e:P.Ed):Prop where
 c0:f 0=some (.int .i64 e.1)
 c1:f 1=some (.int .i64 e.2.1)
 c2:∃ pv,f 2=some pv∧Rd .i64 w pv e.2.2
 hz:e.2.2.length * 8≤140737488351232
set_option maxRecDepth 100000 in
theorem ed_cells {H:Type} {enc:TypeId × Value→H} {w:World} {fuel:Nat} {cs:List Value} {d:DataW H} {p:List MemPlace}
  (h:DataW.trod enc Tryz.prog w 0 (fun _=>true) true fuel 30 cs=some (d,p)) (hw:∀ n ∈ d.weights Tryz.prog 30,n≤reachBytes) :
  ∃ e:P.Ed,EdAt w (fun i=>cs[i]?) e:=by
 obtain ⟨xs,n,rfl,hx,hl,hxl,hall⟩:=DataW.trod_struct Tryz.underlying30 h
 match xs,hxl with
 | [x0,x1,x2],_ =>
   obtain ⟨k0,e0,r0,w0⟩:=DataW.trod_int Tryz.underlying3 (hall 0 _ rfl)
   obtain ⟨k1,e1,r1,w1⟩:=DataW.trod_int Tryz.underlying3 (hall 1 _ rfl)
   have h2:=hall 2 _ rfl
   have e0':(cs.drop 0).take (Tryz.prog.cellsOf 3)=[.int .i64 k0]:=e0
   have e1':(cs.drop 1).take (Tryz.prog.cellsOf 3)=[.int .i64 k1]:=e1
   have h2':DataW.trod enc Tryz.prog w 0 (fun _=>true) true n 22 ((cs.drop 2).take (Tryz.prog.cellsOf 22))=some x2:=h2
   rw [cEd] at hl
   rw [cIn] at e0' e1'
   rw [cSl] at h2'
   match cs,hl with
   | [c0,c1,c2],_ =>
     simp at e0' e1'
     subst e0';subst e1'
     simp only [List.drop_succ_cons,List.drop_zero,List.take_succ_cons,List.take_zero] at h2'
     obtain ⟨ai,ci,zs,rfl,hr,hd⟩:=inner_of (d:=x2.1) (p:=x2.2) h2'
     refine ⟨(k0,k1,zs),rfl,rfl,⟨_,rfl,hr⟩,inner_bound hd ?_⟩
     intro m hm
     refine hw m ?_
     obtain ⟨rfl,_⟩:=Prod.mk.inj hx
     exact weights_part (t:=30) (j:=2) Tryz.underlying30 rfl (d:=x2.1) rfl m hm
set_option maxRecDepth 100000 in
theorem eds_of {H:Type} {enc:TypeId × Value→H} {W:World} {a0:Option Addr} {len0 cap0:Nat} {d:DataW H} {p:List MemPlace}
  (h:DataW.Trod enc Tryz.prog W 0 (fun _=>true) true 31 (.slice a0 len0 cap0) d p) (hw:∀ n ∈ d.weights Tryz.prog 31,n≤reachBytes) :
  ∃ es,es.length=len0∧P.EdR W (.slice a0 len0 cap0) es∧P.Bnd es:=by
 obtain ⟨fuel,hf⟩:=h
 rcases DataW.trod_slice Tryz.underlying31 hf with ⟨hcs,_⟩ | ⟨x,l,c,elems,rest,n,_,hcs,hx,hb,hl,hm,hlen,hel,_,_⟩
 ·simp [Value.cells] at hcs
  obtain ⟨rfl,rfl,rfl⟩:=hcs
  exact ⟨[],rfl,⟨none,0,rfl,Nat.le_refl _,by omega,fun h=>absurd rfl h⟩,⟨(fun e he=>by cases he),by simp⟩⟩
 ·simp [Value.cells] at hcs
  obtain ⟨rfl,rfl,rfl⟩:=hcs
  rw [cEd] at hel
  obtain ⟨rfl,_⟩:=Prod.mk.inj hx
  obtain ⟨b,off,spot⟩:=x
  have each:∀ i,∃ e:P.Ed,i < len0→EdAt W (fun j=>W.cell? (((⟨b,off,spot⟩:Addr).add (i * 3)).add j)) e:=by
   intro i
   by_cases hi:i < len0
   ·have hi':i < elems.length:=by omega
    have:=hel i hi
    rw [List.getElem?_eq_getElem hi',Option.bind_eq_some_iff] at this
    obtain ⟨cs,hcs,hy⟩:=this
    obtain ⟨e,he⟩:=ed_cells (d:=elems[i].1) (p:=elems[i].2) hy (fun m hm=>hw m (weights_slice Tryz.underlying31 (List.mem_map.2 ⟨elems[i],List.getElem_mem hi',rfl⟩) m hm))
    have hcell:=(World.cells?_some hcs).2.2
    refine ⟨e,fun _=>⟨(hcell 0 (by omega)).trans he.c0,(hcell 1 (by omega)).trans he.c1,?_,he.hz⟩⟩
    obtain ⟨pv,h1,h2⟩:=he.c2
    exact ⟨pv,(hcell 2 (by omega)).trans h1,h2⟩
   ·exact ⟨(0,0,[]),fun h=>absurd h hi⟩
  obtain ⟨f,hf'⟩:=Classical.skolem.1 each
  have hlr:((List.range len0).map f).length=len0:=by simp
  refine ⟨(List.range len0).map f,hlr,⟨some ⟨b,off,spot⟩,cap0,by rw [hlr],by rw [hlr];exact hl,by unfold maxLen at hm;exact hm,fun hn=>?_⟩,⟨fun e he=>?_,?_⟩⟩
  ·have hpos:0 < len0:=by rw [← hlr];exact List.length_pos_iff.2 hn
   have hs:spot=none:=by simpa [Addr.add] using World.cell?_spot (hf' 0 hpos).c0
   subst hs
   refine ⟨b,off,rfl,World.block_lt_of_cell? W _ (by simpa [Addr.add] using (hf' 0 hpos).c0),fun i e hie=>?_⟩
   have hi:i < len0:=by have:=(List.getElem?_eq_some_iff.1 hie).1;rwa [hlr] at this
   have e1:e=f i:=by rw [List.getElem?_map,List.getElem?_range hi] at hie;simpa using hie.symm
   subst e1
   have:=hf' i hi
   simp only [Addr.add_lit] at this
   exact ⟨this.c0,this.c1,this.c2⟩
  ·rw [List.mem_map] at he
   obtain ⟨i,hi,rfl⟩:=he
   exact (hf' i (List.mem_range.1 hi)).hz
  ·have:=hw _ (by simp only [DataW.weights,Tryz.underlying31,List.mem_cons];exact Or.inl rfl)
   rw [bytesK_ed] at this
   simp only [reachBytes,List.length_map,List.length_range] at this ⊢
   omega
set_option maxRecDepth 100000 in
theorem edl_of {H:Type} {enc:TypeId × Value→H} {W:World} {a0:Option Addr} {len0 cap0:Nat} {d:DataW H} {p:List MemPlace}
  (h:DataW.Trod enc Tryz.prog W 0 (fun _=>true) true 53 (.slice a0 len0 cap0) d p) (hw:∀ n ∈ d.weights Tryz.prog 53,n≤reachBytes) :
  ∃ ess,P.EdL W (.slice a0 len0 cap0) ess:=by
 obtain ⟨fuel,hf⟩:=h
 rcases DataW.trod_slice Tryz.underlying53 hf with ⟨hcs,_⟩ | ⟨x,l,c,elems,rest,n,_,hcs,hx,hb,hl,hm,hlen,hel,_,_⟩
 ·simp [Value.cells] at hcs
  obtain ⟨rfl,rfl,rfl⟩:=hcs
  exact ⟨[],none,0,rfl,Nat.le_refl _,by omega,fun i es h=>by simp at h⟩
 ·simp [Value.cells] at hcs
  obtain ⟨rfl,rfl,rfl⟩:=hcs
  rw [cEs] at hel
  obtain ⟨rfl,_⟩:=Prod.mk.inj hx
  obtain ⟨b,off,spot⟩:=x
  have each:∀ i,∃ es:List P.Ed,i < len0→∃ ea ec,W.cell? ((⟨b,off,spot⟩:Addr).add (i * 1))=some (.slice ea es.length ec)∧P.EdR W (.slice ea es.length ec) es∧P.Bnd es:=by
   intro i
   by_cases hi:i < len0
   ·have hi':i < elems.length:=by omega
    have:=hel i hi
    rw [List.getElem?_eq_getElem hi',Option.bind_eq_some_iff] at this
    obtain ⟨cs,hcs,hy⟩:=this
    have hcl:=(World.cells?_some hcs).2.1
    have hcell:=(World.cells?_some hcs).2.2 0 (by omega)
    match cs,hcl with
    | [c],_ =>
      have hs:∃ ao len cap,c=.slice ao len cap:=by
       rcases DataW.trod_slice Tryz.underlying31 hy with ⟨hcs,_⟩ | ⟨x,l,k,_,_,_,_,hcs,_⟩
       ·exact ⟨none,0,0,by simpa using hcs⟩
       ·exact ⟨some x,l,k,by simpa using hcs⟩
      obtain ⟨ao,len,cap,rfl⟩:=hs
      obtain ⟨es,h1,h2,h3⟩:=eds_of (enc:=enc) (d:=elems[i].1) (p:=elems[i].2) ⟨_,by simpa [Value.cells] using hy⟩ (fun m hm=>hw m (weights_slice Tryz.underlying53 (List.mem_map.2 ⟨elems[i],List.getElem_mem hi',rfl⟩) m hm))
      subst h1
      exact ⟨es,fun _=>⟨ao,cap,by simpa [Addr.add] using hcell,h2,h3⟩⟩
   ·exact ⟨[],fun h=>absurd h hi⟩
  obtain ⟨f,hf'⟩:=Classical.skolem.1 each
  have hlr:((List.range len0).map f).length=len0:=by simp
  refine ⟨(List.range len0).map f,some ⟨b,off,spot⟩,cap0,by rw [hlr],by rw [hlr];exact hl,by unfold maxLen at hm;exact hm,fun i es hie=>?_⟩
  have hi:i < len0:=by have:=(List.getElem?_eq_some_iff.1 hie).1;rwa [hlr] at this
  have e1:es=f i:=by rw [List.getElem?_map,List.getElem?_range hi] at hie;simpa using hie.symm
  subst e1
  obtain ⟨ea,ec,h1,h2,h3⟩:=hf' i hi
  obtain ⟨_,_,h0,_⟩:=hf' 0 (by omega)
  have hs:spot=none:=by simpa [Addr.add] using World.cell?_spot h0
  subst hs
  rw [Addr.add_lit,Nat.mul_one] at h1
  exact ⟨b,off,ea,ec,rfl,World.block_lt_of_cell? W _ h1,h1,h2,h3⟩
theorem nil_of {H:Type} {enc:TypeId × Value→H} {W:World} {t e:TypeId} {len0 cap0:Nat} {d:DataW H} {p:List MemPlace} (ht:Tryz.prog.underlying t=some (.slice e))
  (h:DataW.Trod enc Tryz.prog W 0 (fun _=>true) true t (.slice none len0 cap0) d p):len0=0∧cap0=0:=by
 obtain ⟨fuel,hf⟩:=h
 rcases DataW.trod_slice ht hf with ⟨hcs,_⟩ | ⟨x,l,c,elems,rest,n,_,hcs,_⟩
 ·simp [Value.cells] at hcs
  exact hcs
 ·simp [Value.cells] at hcs
end Go.Proofs.YtjjfakokakamaaaGreat
