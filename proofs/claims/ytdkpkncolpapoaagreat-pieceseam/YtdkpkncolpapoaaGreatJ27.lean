import Derived.Test.YtdkpkncolpapoaaGreatJ00
import Derived.Test.YtdkpkncolpapoaaGreatJ20
import Derived.Test.YtdkpkncolpapoaaGreatJ26
import Derived.Deep.RegionHeld3
namespace Go.Proofs.YtdkpkncolpapoaaGreat.P
open Go.RowKit
def OwnB (w:World) (base:Nat) (v:Value) (zs:List Int):Prop:=w.ownsRow base 5 1 v zs.length (zs.map (Value.int .u8))
section
variable {P:Program} {W:World} {ops:Array Oper} {rest:List Oper} {o:Oper} {a:Act} {Q:Exit→Act→World→Prop}
theorem wpl_bytes (hgd:o.guard=none) (s x:Operand) (t:TypeId) (ho:o.op=.call { callee:=.builtin .append,args:=#[s,x],argTypes:=#[t,t] })
  (base:Nat) (hinf:(P.info? 5).map (fun i=>(i.zero,i.size,i.bytes))=some (some (.int .u8 0),1,1)) (ht:P.underlying t=some (.slice 5))
  (v:Value) (zs:List Int) (hs:a.eval s=v) (hown:OwnB W base v zs) (ys:List Int) (ao:Option Addr) (m c:Nat) (hx:a.eval x=.slice ao m c) (hm:m=ys.length)
  (hys:(ao=none∧c=0∧ys=[])∨∃ ad,ao=some ad∧∀ j u,(ys.map (Value.int .u8))[j]?=some u→W.cell? (ad.add j)=some u) (hl:zs.length + ys.length≤1099511627776) (hbase:base≤W.heap.size)
  (h:∀ v' w',OwnB w' base v' (zs ++ ys)→Below base W w'→wpList P ops Q rest (a.put o.dst v') w'):wpList P ops Q (o :: rest) a W:=by
 obtain ⟨i0,hi,hz0,hz1,hz2⟩:=info_parts hinf
 subst hm
 rcases hys with ⟨rfl,rfl,rfl⟩ | ⟨ad,rfl,hc⟩
 ·refine wpList_append_own_none hgd s x t ho base 5 i0 1 ht hi v zs.length (zs.map (Value.int .u8)) hs hown hx ?_
  exact h v W (by rw [List.append_nil];exact hown) (Below.refl _ _)
 ·refine wpList_append_own W hgd s x t ho base 5 i0 (.int .u8 0) 1 1 ht hi hz0 hz1 hz2 rfl (by decide) v zs.length (zs.map (Value.int .u8)) hs hown ad ys.length c (ys.map (Value.int .u8)) hx (by simp) hc (fun u hu=>by rw [List.mem_map] at hu;obtain ⟨_,_,rfl⟩:=hu;rfl) (by unfold maxLen;omega) (by omega) hbase ?_
  intro v' w' h1 h2 _
  refine h v' w' ?_ ((Below.refl _ _).grown h2 hbase (fun k hk=>(World.ownsRow.lt hown k hk).1))
  unfold OwnB
  rw [List.length_append,List.map_append]
  exact h1
end
set_option maxRecDepth 100000 in
set_option maxHeartbeats 2000000 in
theorem opened_any (enc:Int) (he:Cx.known enc=true) (ao:Option Addr) (cap:Nat) (zs:List Int) (w:World) (h:Rd .u8 w (.slice ao zs.length cap) zs) (hB:Byt zs) (hz:zs.length≤65536) (hv:ao=none→cap=0∧zs=[]) :
  Calls Tryz.prog 17 #[.int .i64 enc,.slice ao zs.length cap] w fun e w'=>∃ (t:Nat) (ps:List PG),e=.returned (.pointer (some ⟨t,0,none⟩))∧Hid (Tx enc 65536 zs w' t ps∧sh enc ps=ctn enc 0 (Cx.dec enc zs)∧w.heap.size≤t)∧Below w.heap.size w w':=by
 have OP:Hid (∀ v w',Rd .u8 w' v zs→Calls Tryz.prog 37 #[.int .i64 enc,v,.int .i64 65536] w' fun e w''=>OpR enc 65536 zs w' e w''):=fun v w' hr=>Open_good enc 65536 v zs w' hr hB (by unfold opE;rw [if_pos he,if_neg (by omega),if_neg (by omega)])
 have NIL:Hid (OwnB w w.heap.size (.slice none 0 0) []):=World.ownsRow_nil _ _ _ _
 have HL:=hidIt (show ([]:List Int).length + zs.length≤1099511627776 by simp;omega)
 have HY:Hid ((ao=none∧cap=0∧zs=[])∨∃ ad,ao=some ad∧∀ j u,(zs.map (Value.int .u8))[j]?=some u→w.cell? (ad.add j)=some u):=by
  cases ao with
  | none=>exact .inl ⟨rfl,hv rfl⟩
  | some ad =>
    refine .inr ⟨ad,rfl,fun j u hj=>?_⟩
    obtain ⟨ao',cap',e1,_,_,h4⟩:=h
    simp only [Value.slice.injEq] at e1
    obtain ⟨rfl,_,_⟩:=e1
    rw [List.getElem?_map] at hj
    cases hz:zs[j]? with
    | none=>rw [hz] at hj;cases hj
    | some z =>
      rw [hz] at hj
      simp only [Option.map_some,Option.some.injEq] at hj
      subst hj
      have hjl:=(List.getElem?_eq_some_iff.1 hz).1
      obtain ⟨b,o,e2,_,hc⟩:=h4 (by intro e;subst e;simp at hjl)
      cases e2
      have:=hc j hjl
      rw [hz,Option.getD_some] at this
      rw [← this]
      unfold Addr.add
      split
      ·rename_i h0;subst h0;rfl
      ·rfl
 clear hv h
 go_enter Tryz.func17,Tryz.ntmps17
 go_wp2_with (first
  | (at_builtin;refine wpl_bytes rfl _ _ 32 rfl w.heap.size Tryz.info_u8 Tryz.underlying32 (.slice none 0 0) [] rfl NIL.out zs ao zs.length cap rfl rfl HY.out HL.out (Nat.le_refl _) ?_;intro v1 w1 ho1 hb1;rw [List.nil_append] at ho1;have HR1:=hidIt (Rd.of_own ho1);have HB1:=hidIt hb1;obtain ⟨a1,c1,hv1,_⟩:=id (Rd.of_own ho1);subst hv1;have OP1:=hidIt (OP.out _ w1 HR1.out);clear ho1 hb1)
  | (go_at_call 37;refine OP1.out.mono ?_;rintro e w2 ⟨t,ps,rfl,hop,hb2⟩;have HOP:=hidIt hop;have HB2:=hidIt (ext_trans HB1.out hb2);clear hop hb2;(try dsimp only)))
 go_ret
 exact ⟨t,ps,rfl,⟨HOP.out.1,HOP.out.2.1,Nat.le_trans HB1.out.size HOP.out.2.2⟩,HB2.out⟩
end Go.Proofs.YtdkpkncolpapoaaGreat.P

namespace Go.Proofs.YtdkpkncolpapoaaGreat.P
open Go.RowKit
def SnR (w:World) (va vt vb:Value) (az ts bs:List Int):Prop:=Rd .i64 w va az∧Rd .i64 w vt ts∧Rd .u8 w vb bs
theorem SnR.ext {w w':World} {va vt vb:Value} {az ts bs:List Int} (h:SnR w va vt vb az ts bs) (hb:Below w.heap.size w w'):SnR w' va vt vb az ts bs:=⟨h.1.ext hb,h.2.1.ext hb,h.2.2.ext hb⟩
set_option maxRecDepth 100000 in
set_option maxHeartbeats 4000000 in
theorem same_any (va vt vb ua ut ub:Value) (az ts bs:List Int) (w:World) (h:SnR w va vt vb az ts bs) (k:SnR w ua ut ub az ts bs) :
  Calls Tryz.prog 39 #[.agg #[va,vt,vb],.agg #[ua,ut,ub]] w fun e w'=>e=.returned (.bool true)∧Below w.heap.size w w':=by
 obtain ⟨a0,c0,rfl,_⟩:=id h.1
 obtain ⟨a1,c1,rfl,_⟩:=id h.2.1
 obtain ⟨a2,c2,rfl,_⟩:=id h.2.2
 obtain ⟨b0,d0,rfl,_⟩:=id k.1
 obtain ⟨b1,d1,rfl,_⟩:=id k.2.1
 obtain ⟨b2,d2,rfl,_⟩:=id k.2.2
 obtain ⟨w0,hw0⟩:∃ w0,w0=(w.alloc (.cells #[.slice a0 az.length c0,.slice a1 ts.length c1,.slice a2 bs.length c2] 36)).alloc (.cells #[.slice b0 az.length d0,.slice b1 ts.length d1,.slice b2 bs.length d2] 36):=⟨_,rfl⟩
 have hb0:Below w.heap.size w w0:=by rw [hw0];exact ext_alloc (ext_alloc (Below.refl _ _) _) _
 have e2:w0.heap[w.heap.size]?=some (.cells #[.slice a0 az.length c0,.slice a1 ts.length c1,.slice a2 bs.length c2] 36 (0,0)):=by rw [hw0];exact (Below.heap_alloc _ _ _ (by simp)).trans (heap_alloc_new _ _)
 have e3:w0.heap[w.heap.size + 1]?=some (.cells #[.slice b0 az.length d0,.slice b1 ts.length d1,.slice b2 bs.length d2] 36 (0,0)):=by
  have e:w.heap.size + 1=(w.alloc (.cells #[.slice a0 az.length c0,.slice a1 ts.length c1,.slice a2 bs.length c2] 36)).heap.size:=by simp
  rw [hw0,e]
  exact heap_alloc_new _ _
 have HC:Hid (∀ w',Below w0.heap.size w0 w'→(w'.cell? ⟨w.heap.size,0,none⟩=some (.slice a0 az.length c0)∧w'.cell? ⟨w.heap.size,1,none⟩=some (.slice a1 ts.length c1)∧w'.cell? ⟨w.heap.size,2,none⟩=some (.slice a2 bs.length c2))∧w'.cell? ⟨w.heap.size + 1,0,none⟩=some (.slice b0 az.length d0)∧w'.cell? ⟨w.heap.size + 1,1,none⟩=some (.slice b1 ts.length d1)∧w'.cell? ⟨w.heap.size + 1,2,none⟩=some (.slice b2 bs.length d2)):=fun w' hb=>by
  have q2:=(hb.block _ (Array.getElem?_eq_some_iff.1 e2).1).trans e2
  have q3:=(hb.block _ (Array.getElem?_eq_some_iff.1 e3).1).trans e3
  refine ⟨⟨?_,?_,?_⟩,?_,?_,?_⟩
  all_goals first | (rw [cell_of_row w' _ _ _ _ _ q2];rfl) | (rw [cell_of_row w' _ _ _ _ _ q3];rfl)
 have HB0:=hidIt hb0
 have S1:Hid (∀ w',Below w0.heap.size w0 w'→Calls Tryz.prog 22 #[.slice a0 az.length c0,.slice b0 az.length d0] w' fun e w''=>e=.returned (.bool true)∧Below w'.heap.size w' w''):=fun w' hb=>sameInts_any _ _ az w' (h.1.ext (ext_trans hb0 hb)) (k.1.ext (ext_trans hb0 hb))
 have S2:Hid (∀ w',Below w0.heap.size w0 w'→Calls Tryz.prog 22 #[.slice a1 ts.length c1,.slice b1 ts.length d1] w' fun e w''=>e=.returned (.bool true)∧Below w'.heap.size w' w''):=fun w' hb=>sameInts_any _ _ ts w' (h.2.1.ext (ext_trans hb0 hb)) (k.2.1.ext (ext_trans hb0 hb))
 have S3:Hid (∀ w',Below w0.heap.size w0 w'→Calls Tryz.prog 23 #[.slice a2 bs.length c2,.slice b2 bs.length d2] w' fun e w''=>e=.returned (.bool true)∧Below w'.heap.size w' w''):=fun w' hb=>sameBytes_eq _ _ bs w' (h.2.2.ext (ext_trans hb0 hb)) (k.2.2.ext (ext_trans hb0 hb))
 obtain ⟨x,y⟩:=HC.out w0 (Below.refl _ _)
 have HS1:=hidIt (S1.out w0 (Below.refl _ _))
 clear hb0 e2 e3 h k S1
 go_enter Tryz.func39,Tryz.ntmps39
 go_upto_region 1 with fail
 rw [← hw0]
 clear hw0
 go_wp2_with (first
  | (go_at_call 22;refine HS1.out.mono ?_;clear x y HS1;rintro e w1 ⟨rfl,hb1⟩;have HB1:=hidIt hb1;have HS2:=hidIt (S2.out w1 hb1);obtain ⟨x,y⟩:=HC.out w1 hb1;clear hb1;(try dsimp only))
  | (go_at_call 22;refine HS2.out.mono ?_;clear x y HS2;rintro e w2 ⟨rfl,hb2⟩;have HB2:=hidIt (ext_trans HB1.out hb2);have HS3:=hidIt (S3.out w2 (ext_trans HB1.out hb2));obtain ⟨x,y⟩:=HC.out w2 (ext_trans HB1.out hb2);clear hb2;(try dsimp only))
  | (go_at_call 23;refine HS3.out.mono ?_;clear x y HS3;rintro e w3 ⟨rfl,hb3⟩;have HB3:=hidIt (ext_trans HB2.out hb3);clear hb3;(try dsimp only)))
 go_ret
 exact ⟨rfl,ext_trans HB0.out HB3.out⟩
end Go.Proofs.YtdkpkncolpapoaaGreat.P

namespace Go.Proofs.YtdkpkncolpapoaaGreat.P
open Go.RowKit
def mrk (m r:Nat):List Int:=(List.range r).map fun k=>771 + ((m + k:Nat):Int)
theorem mrk_len (m r:Nat):(mrk m r).length=r:=by simp [mrk]
theorem mrk_succ (m r:Nat):mrk m (r + 1)=mrk m r ++ [771 + ((m + r:Nat):Int)]:=by simp [mrk,List.range_succ]
structure HE where
 e:Ed
 b:Nat
 pv:Value
def HE.row (r:Nat) (h:HE):List Int:=h.e.2.2 ++ mrk h.e.2.2.length r
def HE.sl (r:Nat) (h:HE):Value:=.slice (some ⟨h.b,0,none⟩) (h.e.2.2.length + r) (h.e.2.2.length + r)
def HE.cs (h:HE):List Value:=[.int .i64 h.e.1,.int .i64 h.e.2.1,h.pv]
def mkE (n r:Nat):List Value:=(List.range r).flatMap fun k=>[.int .i64 (-771 - ((n + k:Nat):Int)),.int .i64 (-772),.slice none 0 0]
theorem fm3 {α:Type} (a b c:α→Value) (l:List α) (i:Nat) (x:α) (hi:l[i]?=some x):(l.flatMap fun x=>[a x,b x,c x])[i * 3]?=some (a x)∧(l.flatMap fun x=>[a x,b x,c x])[i * 3 + 1]?=some (b x)∧(l.flatMap fun x=>[a x,b x,c x])[i * 3 + 2]?=some (c x):=by
 induction l generalizing i with
 | nil=>simp at hi
 | cons y ys ih =>
   cases i with
   | zero =>
     simp only [List.getElem?_cons_zero,Option.some.injEq] at hi
     subst hi
     simp [List.flatMap_cons]
   | succ i =>
     rw [List.getElem?_cons_succ] at hi
     obtain ⟨h1,h2,h3⟩:=ih i hi
     rw [List.flatMap_cons,show (i + 1) * 3=i * 3 + 1 + 1 + 1 by omega]
     simp only [List.cons_append,List.nil_append,List.getElem?_cons_succ]
     exact ⟨h1,h2,h3⟩
theorem fm3_len {α:Type} (a b c:α→Value) (l:List α):(l.flatMap fun x=>[a x,b x,c x]).length=l.length * 3:=by
 induction l with
 | nil=>rfl
 | cons y ys ih=>rw [List.flatMap_cons,List.length_append,ih];simp;omega
theorem cs_len (hs:List HE):(hs.flatMap HE.cs).length=hs.length * 3:=fm3_len (fun h:HE=>Value.int .i64 h.e.1) (fun h:HE=>Value.int .i64 h.e.2.1) (fun h:HE=>h.pv) hs
theorem cs_at (hs:List HE) (i:Nat) (h:HE) (hi:hs[i]?=some h):(hs.flatMap HE.cs)[i * 3]?=some (.int .i64 h.e.1)∧(hs.flatMap HE.cs)[i * 3 + 1]?=some (.int .i64 h.e.2.1)∧(hs.flatMap HE.cs)[i * 3 + 2]?=some h.pv:=fm3 (fun h:HE=>Value.int .i64 h.e.1) (fun h:HE=>Value.int .i64 h.e.2.1) (fun h:HE=>h.pv) hs i h hi
theorem mkE_at (n r k:Nat) (h:k < r):(mkE n r)[k * 3]?=some (.int .i64 (-771 - ((n + k:Nat):Int)))∧(mkE n r)[k * 3 + 1]?=some (.int .i64 (-772))∧(mkE n r)[k * 3 + 2]?=some (.slice none 0 0) :=
 fm3 (fun k:Nat=>Value.int .i64 (-771 - ((n + k:Nat):Int))) (fun _=>.int .i64 (-772)) (fun _=>.slice none 0 0) (List.range r) k k (List.getElem?_range h)
theorem mkE_succ (n r:Nat):mkE n (r + 1)=mkE n r ++ [.int .i64 (-771 - ((n + r:Nat):Int)),.int .i64 (-772),.slice none 0 0]:=by simp [mkE,List.range_succ]
theorem take_put3 (zz:List Value) (m:Nat) (a b c:Value) (h:m * 3 + 2 < zz.length):(((zz.set (m * 3) a).set (m * 3 + 1) b).set (m * 3 + 2) c).take ((m + 1) * 3)=zz.take (m * 3) ++ [a,b,c]:=by
 refine List.ext_getElem? fun i=>?_
 rw [List.getElem?_take]
 by_cases h1:i < m * 3
 ·rw [if_pos (by omega),List.getElem?_append_left (by simp;omega),List.getElem?_take,if_pos h1,List.getElem?_set_ne (by omega),List.getElem?_set_ne (by omega),List.getElem?_set_ne (by omega)]
 ·rw [List.getElem?_append_right (by simp;omega),List.length_take,Nat.min_eq_left (by omega)]
  by_cases h2:i=m * 3
  ·subst h2
   rw [if_pos (by omega),List.getElem?_set_ne (by omega),List.getElem?_set_ne (by omega),List.getElem?_set_self (by omega)]
   simp
  ·by_cases h3:i=m * 3 + 1
   ·subst h3
    rw [if_pos (by omega),List.getElem?_set_ne (by omega),List.getElem?_set_self (by rw [List.length_set];omega),show m * 3 + 1 - m * 3=1 by omega]
    rfl
   ·by_cases h4:i=m * 3 + 2
    ·subst h4
     rw [if_pos (by omega),List.getElem?_set_self (by rw [List.length_set,List.length_set];omega),show m * 3 + 2 - m * 3=2 by omega]
     rfl
    ·rw [if_neg (by omega),List.getElem?_eq_none (by simp;omega)]
theorem take_put1 {α:Type} (zz:List α) (m:Nat) (a:α) (h:m < zz.length):(zz.set m a).take (m + 1)=zz.take m ++ [a]:=by
 rw [List.take_add_one,List.getElem?_set_self h,List.take_set_of_le (Nat.le_refl _)]
 rfl
def RoI (w:World) (b:Nat) (zs:List Int):Prop:=w.heap[b]?=some (.cells (zs.map (Value.int .i64)).toArray 3 (0,0))
theorem RoI.rd {w:World} {b:Nat} {zs:List Int} (h:RoI w b zs) (n c:Nat) (hn:n≤zs.length) (h1:n≤c) (h2:c≤9223372036854775807):Rd .i64 w (.slice (some ⟨b,0,none⟩) n c) (zs.take n):=by
 have el:(zs.take n).length=n:=by rw [List.length_take];omega
 refine ⟨_,c,by rw [el],by rw [el];exact h1,by unfold maxLen;exact h2,fun _=>⟨b,0,rfl,(Array.getElem?_eq_some_iff.1 h).1,fun i hi=>?_⟩⟩
 rw [el] at hi
 rw [cell_of_row w b _ _ _ _ h,Nat.zero_add,List.getElem?_toArray,List.getElem?_map,List.getElem?_take,if_pos hi,List.getElem?_eq_getElem (by omega)]
 rfl
structure HEok (w:World) (base r:Nat) (h:HE):Prop where
 ge:base≤h.b
 row:RoI w h.b (h.row r)
 pv:(h.pv=.slice none 0 0∧h.e.2.2=[])∨h.pv=.slice (some ⟨h.b,0,none⟩) h.e.2.2.length (h.e.2.2.length + r)
 ln:h.e.2.2.length + r≤9223372036854775807
theorem HEok.same {w w':World} {base r:Nat} {h:HE} (k:HEok w base r h) (hb:∀ b,Typ 3 w b→w'.heap[b]?=w.heap[b]?):HEok w' base r h:=⟨k.ge,by unfold RoI;rw [hb h.b ⟨_,k.row⟩];exact k.row,k.pv,k.ln⟩
theorem HEok.rd {w:World} {base r:Nat} {h:HE} (k:HEok w base r h):Rd .i64 w h.pv h.e.2.2:=by
 rcases k.pv with ⟨h1,h2⟩ | h1
 ·rw [h1,h2]
  exact ⟨none,0,rfl,Nat.le_refl _,by simp [maxLen],fun e=>absurd rfl e⟩
 ·rw [h1]
  have:=k.row.rd h.e.2.2.length (h.e.2.2.length + r) (by simp [HE.row]) (by omega) k.ln
  rwa [show (h.row r).take h.e.2.2.length=h.e.2.2 by simp [HE.row]] at this
theorem ownsRow_same {w w':World} {base:Nat} {T:TypeId} {size:Nat} {v:Value} {n:Nat} {xs:List Value} (h:w.ownsRow base T size v n xs) (hb:∀ b,Typ T w b→w'.heap[b]?=w.heap[b]?):w'.ownsRow base T size v n xs:=by
 refine ⟨h.1,?_⟩
 rcases h.2 with h2 | ⟨g,cap,cur,hv,h3,hg,r⟩
 ·exact .inl h2
 ·exact .inr ⟨g,cap,cur,hv,h3,(hb g ⟨_,hg⟩).trans hg,r⟩
structure Hd (w:World) (base r g n:Nat) (vp:Value) (hs:List HE) (xs:List Value):Prop where
 each:∀ h ∈ hs,HEok w base r h
 puts:w.ownsRow base 22 1 vp hs.length (hs.map (HE.sl r))
 all:w.ownsRow base 30 3 (.slice (some ⟨g,0,none⟩) n n) n xs
 pre:xs.take (hs.length * 3)=hs.flatMap HE.cs
theorem Hd.same {w w':World} {base r g n:Nat} {vp:Value} {hs:List HE} {xs:List Value} (h:Hd w base r g n vp hs xs) (h1:∀ b,Typ 3 w b→w'.heap[b]?=w.heap[b]?) (h2:∀ b,Typ 22 w b→w'.heap[b]?=w.heap[b]?) (h3:∀ b,Typ 30 w b→w'.heap[b]?=w.heap[b]?):Hd w' base r g n vp hs xs :=
 ⟨fun x hx=>(h.each x hx).same h1,ownsRow_same h.puts h2,ownsRow_same h.all h3,h.pre⟩
theorem Hd.ext {w w':World} {base r g n:Nat} {vp:Value} {hs:List HE} {xs:List Value} (h:Hd w base r g n vp hs xs) (hb:Below w.heap.size w w'):Hd w' base r g n vp hs xs :=
 h.same (fun b hb'=>hb.block b hb'.lt) (fun b hb'=>hb.block b hb'.lt) (fun b hb'=>hb.block b hb'.lt)
theorem Hd.edr {w:World} {base r g n:Nat} {vp:Value} {hs:List HE} {xs:List Value} (h:Hd w base r g n vp hs xs) (hl:hs.length≤n) (hn:n≤9223372036854775807):EdR w (.slice (some ⟨g,0,none⟩) hs.length n) (hs.map HE.e):=by
 refine ⟨_,n,by rw [List.length_map],by rw [List.length_map];exact hl,hn,fun _=>⟨g,0,rfl,(h.all.lt g rfl).2,fun i e he=>?_⟩⟩
 rw [List.getElem?_map,Option.map_eq_some_iff] at he
 obtain ⟨x,hx,rfl⟩:=he
 have hi:=(List.getElem?_eq_some_iff.1 hx).1
 obtain ⟨c0,c1,c2⟩:=cs_at hs i x hx
 rw [← h.pre,List.getElem?_take,if_pos (by omega)] at c0 c1 c2
 rw [Nat.zero_add]
 exact ⟨(h.all.cellAt _ (by omega)).trans c0,(h.all.cellAt _ (by omega)).trans c1,x.pv,(h.all.cellAt _ (by omega)).trans c2,(h.each x (List.mem_of_getElem? hx)).rd⟩
end Go.Proofs.YtdkpkncolpapoaaGreat.P

namespace Go.Proofs.YtdkpkncolpapoaaGreat.P
open Go.RowKit
theorem Tryz.info_edit:(Tryz.prog.info? 30).map (fun i=>(i.zero,i.size,i.bytes))=some (some (.agg #[.int .i64 0,.int .i64 0,.slice none 0 0]),3,40):=by kernel_rfl
set_option maxRecDepth 100000 in
theorem penEdits_nil (n:Nat) (w:World) (hn:n * 40≤281474976710656):Calls Tryz.prog 110 #[.pointer none,.int .i64 (n:Nat)] w fun e w'=>e=.returned (.slice (some ⟨w.heap.size,0,none⟩) n n)∧(∃ xs,w'.ownsRow w.heap.size 30 3 (.slice (some ⟨w.heap.size,0,none⟩) n n) n xs)∧Below w.heap.size w w':=by
 obtain ⟨i0,hi,hz0,hz1,hz2⟩:=info_parts Tryz.info_edit
 go_enter Tryz.func110,Tryz.ntmps110
 go_wp2_with (refine wpList_make_full w rfl _ _ 31 rfl w.heap.size 30 i0 (.agg #[.int .i64 0,.int .i64 0,.slice none 0 0]) 3 Tryz.underlying31 hi hz0 hz1 .i64 .i64 _ _ n rfl rfl rfl rfl (by rw [hz2];omega) (by unfold maxLen;omega) (Nat.le_refl _) ?_;intro w1 hO hg;have HO:=hidIt hO;have HG:=hidIt hg;clear hO hg)
 go_ret
 exact ⟨rfl,⟨_,HO.out⟩,Below.grown (Below.refl w.heap.size w) HG.out (Nat.le_refl _) (fun k e=>by cases e)⟩
set_option maxRecDepth 100000 in
theorem penPut_nil (i:Int) (n:Nat) (w:World) (hn:n * 8≤281474976710656):Calls Tryz.prog 111 #[.pointer none,.int .i64 i,.int .i64 (n:Nat)] w fun e w'=>e=.returned (.slice (some ⟨w.heap.size,0,none⟩) n n)∧RoI w' w.heap.size (List.replicate n 0)∧Below w.heap.size w w':=by
 obtain ⟨i0,hi,hz0,hz1,hz2⟩:=info_parts Tryz.info_i64
 go_enter Tryz.func111,Tryz.ntmps111
 go_wp2_with (refine wpList_make_full w rfl _ _ 22 rfl w.heap.size 3 i0 (.int .i64 0) 1 Tryz.underlying22 hi hz0 hz1 .i64 .i64 _ _ n rfl rfl rfl rfl (by rw [hz2];omega) (by unfold maxLen;omega) (Nat.le_refl _) ?_;intro w1 hO hg;have HO:=hidIt hO;have HG:=hidIt hg;clear hO hg)
 go_ret
 refine ⟨rfl,?_,Below.grown (Below.refl w.heap.size w) HG.out (Nat.le_refl _) (fun k e=>by cases e)⟩
 obtain ⟨e1,hh⟩:=HO.out
 rcases hh with ⟨hv,_⟩ | ⟨g,cp,cur,hv,_,hcur,hcp1,hcp2,hcs,htk⟩
 ·cases hv
 simp only [Value.slice.injEq,Option.some.injEq,Addr.mk.injEq] at hv
 obtain ⟨⟨hg0,_,_⟩,_,hcp⟩:=hv
 subst hg0
 subst hcp
 unfold RoI
 rw [hcur]
 have e2:cur.toList=(List.replicate n (0:Int)).map (Value.int .i64):=by
  rw [List.take_of_length_le (by rw [Array.length_toList,hcs];exact Nat.le_refl _)] at htk
  rw [htk,List.map_replicate]
  have:=toList_madeCells_one (.int .i64 0) (n * 1)
  rw [Nat.mul_one] at this ⊢
  exact this
 rw [← e2]
set_option maxRecDepth 100000 in
theorem hEdits_any (r g n:Nat) (ap:Option Addr) (lp cp:Nat) (w:World) (hr:r≤n) (hn:n≤9223372036854775807) (h0:0 < n):Calls Tryz.prog 81 #[.agg #[.int .i64 (r:Nat),.slice (some ⟨g,0,none⟩) n n,.slice ap lp cp]] w fun e w'=>e=.returned (.slice (some ⟨g,0,none⟩) (n - r) n)∧Below w.heap.size w w':=by
 obtain ⟨w0,hw0,k2,hb0⟩:∃ w0,w0=w.alloc (.cells #[.int .i64 (r:Nat),.slice (some ⟨g,0,none⟩) n n,.slice ap lp cp] 157)∧w0.heap[w.heap.size]?=some (.cells #[.int .i64 (r:Nat),.slice (some ⟨g,0,none⟩) n n,.slice ap lp cp] 157 (0,0))∧Below w.heap.size w w0:=⟨_,rfl,heap_alloc_new _ _,ext_alloc (Below.refl _ _) _⟩
 have c0:w0.cell? ⟨w.heap.size,0,none⟩=some (.int .i64 (r:Nat)):=by rw [cell_of_row w0 _ _ _ _ _ k2];rfl
 have c1:w0.cell? ⟨w.heap.size,1,none⟩=some (.slice (some ⟨g,0,none⟩) n n):=by rw [cell_of_row w0 _ _ _ _ _ k2];rfl
 have hz:¬ n=0:=by omega
 have hz':¬ 0=n:=by omega
 have hrn:(0:Int)≤(n:Int) - (r:Int):=by omega
 have hrn2:(n:Int) - (r:Int)≤(n:Int):=by omega
 have hE:((n:Int) - (r:Int)).toNat=n - r:=by omega
 have HB0:=hidIt hb0
 clear k2 hb0
 go_enter Tryz.func81,Tryz.ntmps81
 go_upto_region 1 with fail
 rw [← hw0]
 clear hw0
 go_wp2_with fail
 go_ret
 exact ⟨rfl,HB0.out⟩
end Go.Proofs.YtdkpkncolpapoaaGreat.P

namespace Go.Proofs.YtdkpkncolpapoaaGreat.P
open Go.RowKit
theorem EdR.at {w:World} {ao:Option Addr} {n cap:Nat} {es:List Ed} (h:EdR w (.slice ao n cap) es) (j:Nat) (e:Ed) (he:es[j]?=some e):∃ b off pa pc,ao=some ⟨b,off,none⟩∧b < w.heap.size∧w.cell? ⟨b,off + j * 3,none⟩=some (.int .i64 e.1)∧w.cell? ⟨b,off + j * 3 + 1,none⟩=some (.int .i64 e.2.1)∧w.cell? ⟨b,off + j * 3 + 2,none⟩=some (.slice pa e.2.2.length pc)∧Rd .i64 w (.slice pa e.2.2.length pc) e.2.2:=by
 obtain ⟨ao',cap',e1,_,_,e4⟩:=h
 simp only [Value.slice.injEq] at e1
 obtain ⟨rfl,_,_⟩:=e1
 obtain ⟨b,o,k1,k2,k3⟩:=e4 (by intro hn;subst hn;simp at he)
 obtain ⟨c0,c1,pv,c2,c3⟩:=k3 j e he
 obtain ⟨pa,pc,rfl,_⟩:=id c3
 exact ⟨b,o,pa,pc,k1,k2,c0,c1,c2,c3⟩
set_option maxRecDepth 100000 in
set_option maxHeartbeats 4000000 in
theorem sameEdits_any (v1 v2:Value) (es:List Ed) (w:World) (h1:EdR w v1 es) (h2:EdR w v2 es):Calls Tryz.prog 112 #[v1,v2] w fun e w'=>e=.returned (.bool true)∧Below w.heap.size w w':=by
 obtain ⟨ao,cap,rfl,hc1,hc2,_⟩:=id h1
 obtain ⟨ao2,cap2,rfl,hd1,hd2,_⟩:=id h2
 have HR1:=hidIt h1
 have HR2:=hidIt h2
 have hq:((es.length:Int) != (es.length:Int))=false:=by simp
 clear h1 h2
 go_enter Tryz.func112,Tryz.ntmps112
 go_wp2_with fail
 go_loopg [5] es.length (fun gk p wr=>∃ i:Nat,i + gk=es.length∧p=.int .i64 (i:Nat)∧Hid (Below w.heap.size w wr))
 case atStart=>exact ⟨0,by omega,rfl,Below.refl _ _⟩
 case round =>
  obtain ⟨i,hi,rfl,HB⟩:=hrel
  by_cases hil:i < es.length
  ·have hil2:(i:Int) < (es.length:Int):=by omega
   obtain ⟨e,hej⟩:∃ e,es[i]?=some e:=⟨_,List.getElem?_eq_getElem hil⟩
   obtain ⟨b,o,pa,pc,rfl,_,_⟩:=HR1.out.at i e hej
   obtain ⟨b2,o2,pa2,pc2,rfl,_,_⟩:=HR2.out.at i e hej
   have hbA:=(HR1.out.at i e hej)
   have hbB:=(HR2.out.at i e hej)
   obtain ⟨_,_,pa,pc,e1,hbl,k0,k1,k2,hrd⟩:=hbA
   cases e1
   obtain ⟨_,_,pa2,pc2,e2,hbl2,m0,m1,m2,hrd2⟩:=hbB
   cases e2
   obtain ⟨ef,et,ep⟩:=e
   simp only at *
   have HCD:Hid (∀ w',Below w.heap.size w w'→(w'.cell? ⟨b,o + i * 3,none⟩=some (.int .i64 ef)∧w'.cell? ⟨b,o + i * 3 + 1,none⟩=some (.int .i64 et)∧w'.cell? ⟨b,o + i * 3 + 2,none⟩=some (.slice pa ep.length pc))∧w'.cell? ⟨b2,o2 + i * 3,none⟩=some (.int .i64 ef)∧w'.cell? ⟨b2,o2 + i * 3 + 1,none⟩=some (.int .i64 et)∧w'.cell? ⟨b2,o2 + i * 3 + 2,none⟩=some (.slice pa2 ep.length pc2)):=fun w' hb=>⟨⟨(hb.cell (p:=⟨b,o + i * 3,none⟩) hbl).trans k0,(hb.cell (p:=⟨b,o + i * 3 + 1,none⟩) hbl).trans k1,(hb.cell (p:=⟨b,o + i * 3 + 2,none⟩) hbl).trans k2⟩,(hb.cell (p:=⟨b2,o2 + i * 3,none⟩) hbl2).trans m0,(hb.cell (p:=⟨b2,o2 + i * 3 + 1,none⟩) hbl2).trans m1,(hb.cell (p:=⟨b2,o2 + i * 3 + 2,none⟩) hbl2).trans m2⟩
   have SI:Hid (∀ w',Below w.heap.size w w'→Calls Tryz.prog 22 #[.slice pa ep.length pc,.slice pa2 ep.length pc2] w' fun e w''=>e=.returned (.bool true)∧Below w'.heap.size w' w''):=fun w' hb=>sameInts_any _ _ ep w' (hrd.ext hb) (hrd2.ext hb)
   clear k0 k1 k2 m0 m1 m2 hrd hrd2 hbl hbl2 hej
   obtain ⟨⟨c0,c1,c2⟩,d0,d1,d2⟩:=HCD.out wr HB.out
   go_upto_region 6 with fail
   go_cut [54] from 17 to 53 (fun v wF=>v=.bool false∧Hid (Below w.heap.size w wF))
   case first =>
    go_region_held3 (fun w'=>(w'.cell? ⟨b,o + i * 3,none⟩=some (.int .i64 ef)∧w'.cell? ⟨b,o + i * 3 + 1,none⟩=some (.int .i64 et)∧w'.cell? ⟨b,o + i * 3 + 2,none⟩=some (.slice pa ep.length pc))∧w'.cell? ⟨b2,o2 + i * 3,none⟩=some (.int .i64 ef)∧w'.cell? ⟨b2,o2 + i * 3 + 1,none⟩=some (.int .i64 et)∧w'.cell? ⟨b2,o2 + i * 3 + 2,none⟩=some (.slice pa2 ep.length pc2)) (first | exact HCD.out _ (by repeat (first | exact HB.out | exact HB3.out | apply Below.drew)) | go_keep) (first | (go_at_call 22;refine (SI.out _ (by repeat (first | exact HB.out | apply Below.drew))).mono ?_;clear c0 c1 c2 d0 d1 d2;rintro e w3 ⟨rfl,hb3⟩;have HB3:Hid (Below w.heap.size w w3):=ext_trans (by repeat (first | exact HB.out | apply Below.drew)) hb3;obtain ⟨⟨c0,c1,c2⟩,d0,d1,d2⟩:=HCD.out w3 HB3.out;clear hb3;(try dsimp only)))
    all_goals go_wp2_with fail
    all_goals go_meet
    case rel=>exact ⟨rfl,by repeat (first | exact HB3.out | apply Below.drew)⟩
   obtain ⟨rfl,HBc⟩:=hcut
   clear c0 c1 c2 d0 d1 d2
   go_wp2_with fail
   go_roundg (es.length - (i + 1))
   case rel=>exact ⟨i + 1,by omega,by go_num,HBc.out⟩
   case measure=>omega
  ·have hil2:¬ (i:Int) < (es.length:Int):=by omega
   go_wp2_with fail
   go_ret
   exact ⟨rfl,HB.out⟩
theorem mk_cells (hs:List HE) (n r k:Nat) (hn:hs.length=n) (hk:k < r):(hs.flatMap HE.cs ++ mkE n r)[(n + k) * 3]?=some (.int .i64 (-771 - ((n + k:Nat):Int)))∧(hs.flatMap HE.cs ++ mkE n r)[(n + k) * 3 + 1]?=some (.int .i64 (-772))∧(hs.flatMap HE.cs ++ mkE n r)[(n + k) * 3 + 2]?=some (.slice none 0 0):=by
 have hc:=cs_len hs
 obtain ⟨h1,h2,h3⟩:=mkE_at n r k hk
 refine ⟨?_,?_,?_⟩
 ·rw [List.getElem?_append_right (by omega),hc,hn,show (n + k) * 3 - n * 3=k * 3 by omega];exact h1
 ·rw [List.getElem?_append_right (by omega),hc,hn,show (n + k) * 3 + 1 - n * 3=k * 3 + 1 by omega];exact h2
 ·rw [List.getElem?_append_right (by omega),hc,hn,show (n + k) * 3 + 2 - n * 3=k * 3 + 2 by omega];exact h3
set_option maxRecDepth 100000 in
set_option maxHeartbeats 8000000 in
theorem whole_any (base r g:Nat) (ap:Option Addr) (cp:Nat) (hs:List HE) (es:List Ed) (lv:Value) (w:World) (h:Hd w base r g (es.length + r) (.slice ap es.length cp) hs (hs.flatMap HE.cs ++ mkE es.length r)) (hes:hs.map HE.e=es) (hE:EdR w lv es) (hr:2≤r∧r≤100) (hn:es.length≤17592186044416) (hm:∀ e ∈ es,e.2.2.length≤17592186044416) :
  Calls Tryz.prog 82 #[.agg #[.int .i64 (r:Nat),.slice (some ⟨g,0,none⟩) (es.length + r) (es.length + r),.slice ap es.length cp],lv] w fun e w'=>e=.returned (.bool true)∧Below w.heap.size w w':=by
 have hln:hs.length=es.length:=by rw [← hes,List.length_map]
 obtain ⟨N,hN⟩:∃ N,N=es.length + r:=⟨_,rfl⟩
 rw [← hN] at h ⊢
 obtain ⟨ao,cap,rfl,hc1,hc2,_⟩:=id hE
 obtain ⟨w0,hw0,k2,hb0⟩:∃ w0,w0=w.alloc (.cells #[.int .i64 (r:Nat),.slice (some ⟨g,0,none⟩) N N,.slice ap es.length cp] 157)∧w0.heap[w.heap.size]?=some (.cells #[.int .i64 (r:Nat),.slice (some ⟨g,0,none⟩) N N,.slice ap es.length cp] 157 (0,0))∧Below w.heap.size w w0:=⟨_,rfl,heap_alloc_new _ _,ext_alloc (Below.refl _ _) _⟩
 have HC:Hid (∀ w',Below w0.heap.size w0 w'→w'.cell? ⟨w.heap.size,0,none⟩=some (.int .i64 (r:Nat))∧w'.cell? ⟨w.heap.size,1,none⟩=some (.slice (some ⟨g,0,none⟩) N N)∧w'.cell? ⟨w.heap.size,2,none⟩=some (.slice ap es.length cp)):=fun w' hb=>by
  have e:=(hb.block _ (Array.getElem?_eq_some_iff.1 k2).1).trans k2
  refine ⟨?_,?_,?_⟩ <;> (rw [cell_of_row w' _ _ _ _ _ e];rfl)
 have HD:Hid (∀ w',Below w0.heap.size w0 w'→Hd w' base r g N (.slice ap es.length cp) hs (hs.flatMap HE.cs ++ mkE es.length r)∧EdR w' (.slice ao es.length cap) es):=fun w' hb=>⟨h.ext (ext_trans hb0 hb),hE.ext (ext_trans hb0 hb)⟩
 have HN:=hidIt hN
 have HLN:=hidIt hln
 have HES:=hidIt hes
 have HMM:=hidIt hm
 have HB0:=hidIt hb0
 have hNb:N≤17592186044616:=by omega
 have hr2:2≤r:=hr.1
 have hr1:r≤100:=hr.2
 have hNr:(es.length:Int) + (r:Int)=(N:Int):=by omega
 have hq:((N:Int) != (N:Int))=false:=by simp
 clear h hE k2 hb0 hN hln hes hm hr
 obtain ⟨c0,c1,c2⟩:=HC.out w0 (Below.refl _ _)
 go_enter Tryz.func82,Tryz.ntmps82
 go_upto_region 1 with fail
 rw [← hw0]
 clear hw0
 go_wp2_with fail
 go_loopg [6] r (fun gk p wr=>∃ (k j:Nat),k + gk=r∧j=es.length + k∧p=.int .i64 (j:Nat)∧wr=w0)
 case atStart=>exact ⟨0,es.length,by omega,rfl,rfl,rfl⟩
 case round =>
  obtain ⟨k,j,hk,hj,rfl,hwr⟩:=hrel
  rw [hwr]
  clear hwr
  by_cases hkr:k < r
  ·have hjN:j < N:=by have:=HN.out;omega
   have hjN2:(j:Int) < (N:Int):=by omega
   have hd:=(HD.out w0 (Below.refl _ _)).1.all
   obtain ⟨m0,m1,m2⟩:=mk_cells hs es.length r k HLN.out hkr
   rw [← hj] at m0 m1 m2
   have g0:=(hd.cellAt (j * 3) (by omega)).trans m0
   have g1:=(hd.cellAt (j * 3 + 1) (by omega)).trans m1
   have g2:=(hd.cellAt (j * 3 + 2) (by omega)).trans m2
   have hjq:(-771 - (j:Int) != -771 - (j:Int))=false:=by simp
   have HJJ:=hidIt hj
   clear hd m0 m1 m2 hj
   go_wp2_with fail
   go_roundg (r - (k + 1))
   case rel=>exact ⟨k + 1,j + 1,by omega,by have:=HJJ.out;omega,by go_num,rfl⟩
   case measure=>omega
  ·have hjN2:¬ (j:Int) < (N:Int):=by have:=HN.out;omega
   clear hj hk hkr
   go_wp2_with fail
   go_loopg [7] es.length (fun gk p wr=>∃ i:Nat,i + gk=es.length∧p=.int .i64 (i:Nat)∧Hid (Below w0.heap.size w0 wr))
   case atStart=>exact ⟨0,by omega,rfl,Below.refl _ _⟩
   case round =>
    obtain ⟨i,hi,rfl,HB⟩:=hrel
    clear c0 c1 c2
    obtain ⟨c0,c1,c2⟩:=HC.out wr HB.out
    by_cases hil:i < es.length
    ·have hil2:(i:Int) < (es.length:Int):=by omega
     obtain ⟨x,hx⟩:∃ x,hs[i]?=some x:=⟨_,List.getElem?_eq_getElem (by have:=HLN.out;omega)⟩
     have hex:es[i]?=some x.e:=by rw [← HES.out,List.getElem?_map,hx];rfl
     have hlp:=HMM.out _ (List.mem_of_getElem? hex)
     obtain ⟨hd0,hE0⟩:=HD.out w0 (Below.refl _ _)
     obtain ⟨b,o,pa,pc,rfl,hbl,_,_,k2,hrd⟩:=hE0.at i x.e hex
     have hok:=hd0.each x (List.mem_of_getElem? hx)
     have hpu:=hd0.puts
     rw [HLN.out] at hpu
     rcases hpu.2 with ⟨_,e2⟩ | ⟨gp,cpp,cur,hv,_,hgp,hcp1,_⟩
     ·omega
     simp only [Value.slice.injEq] at hv
     obtain ⟨rfl,_,rfl⟩:=hv
     have hgl:=(Array.getElem?_eq_some_iff.1 hgp).1
     have q0:=(hpu.cellAt i (by omega)).trans (by rw [List.getElem?_map,hx];rfl:_=some (HE.sl r x))
     obtain ⟨⟨ef,et,ep⟩,bx,pv⟩:=x
     unfold HE.sl at q0
     simp only at *
     obtain ⟨M,hM⟩:∃ M,M=ep.length + r:=⟨_,rfl⟩
     rw [← hM] at q0
     have HCD:Hid (∀ w',Below w0.heap.size w0 w'→w'.cell? ⟨gp,i,none⟩=some (.slice (some ⟨bx,0,none⟩) M M)∧w'.cell? ⟨b,o + i * 3 + 2,none⟩=some (.slice pa ep.length pc)∧w'.cell? ⟨w.heap.size,0,none⟩=some (.int .i64 (r:Nat))):=fun w' hb=>⟨(hb.cell (p:=⟨gp,i,none⟩) hgl).trans q0,(hb.cell (p:=⟨b,o + i * 3 + 2,none⟩) hbl).trans k2,(HC.out w' hb).1⟩
     have HRW:Hid (∀ w',Below w0.heap.size w0 w'→RoI w' bx (ep ++ mrk ep.length r)):=fun w' hb=>by
      have:=hok.row
      unfold RoI at this ⊢
      rw [hb.block _ (Array.getElem?_eq_some_iff.1 this).1]
      exact this
     have SI:Hid (∀ w',Below w0.heap.size w0 w'→Calls Tryz.prog 22 #[.slice (some ⟨bx,0,none⟩) ep.length M,.slice pa ep.length pc] w' fun e w''=>e=.returned (.bool true)∧Below w'.heap.size w' w''):=fun w' hb=>by
      have h1:=(HRW.out w' hb).rd ep.length M (by simp) (by omega) (by omega)
      rw [List.take_left] at h1
      exact sameInts_any _ _ ep w' h1 (hrd.ext hb)
     have HM:=hidIt hM
     have hMb:M≤17592186044616:=by omega
     have hMr:ep.length≤M:=by omega
     have hMr2:(ep.length:Int)≤(M:Int):=by omega
     have hM0:¬ M=0:=by omega
     have hM0':¬ 0=M:=by omega
     have hMw:IntKind.i64.wrap ((ep.length:Int) + (r:Int))=(M:Int):=by rw [IntKind.wrap_i64];omega
     have hMq:((M:Int) != (M:Int))=false:=by simp
     clear hx hex hd0 hE0 k2 hrd hok hpu hgp q0 hgl hbl hM
     obtain ⟨e0,e1,e2⟩:=HCD.out wr HB.out
     go_upto_region 14 with fail
     go_cut [91] from 73 to 90 (fun v wF=>v=.bool false∧Hid (Below w0.heap.size w0 wF))
     case first =>
      go_region_held3 (fun w'=>w'.cell? ⟨gp,i,none⟩=some (.slice (some ⟨bx,0,none⟩) M M)∧w'.cell? ⟨b,o + i * 3 + 2,none⟩=some (.slice pa ep.length pc)∧w'.cell? ⟨w.heap.size,0,none⟩=some (.int .i64 (r:Nat))) (first | exact HCD.out _ (by repeat (first | exact HB.out | exact HB3.out | apply Below.drew)) | go_keep) (first | (go_at_call 22;refine (SI.out _ (by repeat (first | exact HB.out | apply Below.drew))).mono ?_;clear e0 e1 e2;rintro e w3 ⟨rfl,hb3⟩;have HB3:Hid (Below w0.heap.size w0 w3):=ext_trans (by repeat (first | exact HB.out | apply Below.drew)) hb3;obtain ⟨e0,e1,e2⟩:=HCD.out w3 HB3.out;clear hb3;(try dsimp only)))
      all_goals go_wp2_with fail
      all_goals go_meet
      case rel=>exact ⟨rfl,by repeat (first | exact HB3.out | apply Below.drew)⟩
     obtain ⟨rfl,HBc⟩:=hcut
     clear c0 c1 c2 e0 e1 e2
     go_wp2_with fail
     go_loopg [10] r (fun gk2 p wr2=>∃ (k j:Nat),k + gk2=r∧j=ep.length + k∧p=.int .i64 (j:Nat)∧wr2=wc)
     case atStart=>exact ⟨0,ep.length,by omega,rfl,rfl,rfl⟩
     case round =>
      obtain ⟨k,j,hk,hj,rfl,hwr⟩:=hrel
      rw [hwr]
      clear hwr
      by_cases hkr:k < r
      ·have hjM:j < M:=by have:=HM.out;omega
       have hjM2:(j:Int) < (M:Int):=by omega
       have hro:=HRW.out wc HBc.out
       have cj:wc.cell? ⟨bx,j,none⟩=some (.int .i64 (771 + (j:Int))):=by
        rw [cell_of_row wc _ _ _ _ _ hro,List.getElem?_toArray,List.getElem?_map,List.getElem?_append_right (by omega),hj,Nat.add_sub_cancel_left]
        unfold mrk
        rw [List.getElem?_map,List.getElem?_range hkr]
        rfl
       have hjq:(771 + (j:Int) != 771 + (j:Int))=false:=by simp
       have HJJ:=hidIt hj
       clear hro hj
       go_wp2_with fail
       go_roundg (r - (k + 1))
       case rel=>exact ⟨k + 1,j + 1,by omega,by have:=HJJ.out;omega,by go_num,rfl⟩
       case measure=>omega
      ·have hjM2:¬ (j:Int) < (M:Int):=by have:=HM.out;omega
       go_wp2_with fail
       go_roundg (es.length - (i + 1))
       case rel=>exact ⟨i + 1,by omega,by go_num,HBc.out⟩
       case measure=>omega
    ·have hil2:¬ (i:Int) < (es.length:Int):=by omega
     have ED:=hidIt (hEdits_any r g N ap es.length cp wr (by have:=HN.out;omega) (by omega) (by omega))
     have SE:Hid (∀ w',Below wr.heap.size wr w'→Calls Tryz.prog 112 #[.slice (some ⟨g,0,none⟩) (N - r) N,.slice ao es.length cap] w' fun e w''=>e=.returned (.bool true)∧Below w'.heap.size w' w''):=fun w' hb=>by
      obtain ⟨hd,hE⟩:=HD.out w' (ext_trans HB.out hb)
      have h1:=hd.edr (by have:=HN.out;have:=HLN.out;omega) (by omega)
      rw [HES.out,HLN.out,show es.length=N - r by have:=HN.out;omega] at h1
      exact sameEdits_any _ _ es w' h1 hE
     go_wp2_with (first
      | (go_at_call 81;refine ED.out.mono ?_;rintro e w4 ⟨rfl,hb4⟩;have HB4:=hidIt hb4;have SE4:=hidIt (SE.out w4 hb4);clear hb4 c0 c1 c2;(try dsimp only))
      | (go_at_call 112;refine SE4.out.mono ?_;rintro e w5 ⟨rfl,hb5⟩;have HB5:=hidIt (ext_trans HB4.out hb5);clear hb5;(try dsimp only)))
     go_ret
     exact ⟨rfl,ext_trans HB0.out (ext_trans HB.out HB5.out)⟩
end Go.Proofs.YtdkpkncolpapoaaGreat.P
