import Derived.Test.YtdhciadajendnaaGreatK28
set_option maxRecDepth 100000
namespace Go.Proofs.YtdhciadajendnaaGreat.P
open Go.RowKit
theorem Change_any (enc lim:Int) (L:List Int) (w:World) (t:Nat) (ps:List PG) (v:Value) (es:List Ed) (h:Tx enc lim L w t ps) (hE:EdR w v es) (hl:es.length≤70000→(puts es).length≤2305843009213693951) :
  Calls Tryz.prog 35 #[.pointer (some ⟨t,0,none⟩),v] w fun e w'=>ChR enc lim L t ps es w e w':=Change_of enc lim L w t ps v es h hE hl (rewrite_any enc lim L t ps)
open Go.RowKit
def OpR (enc lim:Int) (zs:List Int) (w:World) (e:Ending) (w':World):Prop:=∃ (t:Nat) (ps:List PG),e=.returned (.tuple #[.pointer (some ⟨t,0,none⟩),.int .i64 0])∧(Tx enc lim zs w' t ps∧sh enc ps=ctn enc 0 (Cx.dec enc zs)∧w.heap.size≤t)∧Below w.heap.size w w'
def opE (enc lim:Int) (n:Nat):Int:=if Cx.known enc=true then (if lim < 0∨65536 < lim then 1 else if lim < (n:Int) then 50 else 0) else 10
theorem mks_wt {enc:Int} (b o:Nat):∀ (gs:List (List Int)) (pl:Nat),(∀ g ∈ gs,Gr enc g)→wt (mks enc b o pl gs)≤4 * ln enc gs.flatten:=by
 intro gs
 induction gs with
 | nil=>intro pl _;exact Nat.zero_le _
 | cons g gs ih =>
   intro pl h
   have i:=ih (pl + ln enc g) (fun x hx=>h x (List.mem_cons_of_mem _ hx))
   have hg:=h g List.mem_cons_self
   rw [mks,wt_cons,List.flatten_cons,ln_app]
   obtain ⟨k1,k2⟩:=spn_a enc g hg.fit
   have k3:=spn_b enc g
   have k4:=ln_ge enc g
   have k5:=hg.pos
   show 1 + (spn enc g).a.toNat + (spn enc g).s.toNat + (spn enc g).b.toNat + _≤_
   omega
theorem op_wt {enc:Int} {b:Nat} {gs:List (List Int)} {zs:List Int} (h1:gs.flatten=Cx.dec enc zs) (h2:∀ g ∈ gs,Gr enc g) (h3:Cx.encB enc (Cx.dec enc zs)=zs) (h4:zs.length≤65536):wt (mks enc b 0 0 gs)≤4611686018427387904:=by
 have:=mks_wt b 0 gs 0 h2
 rw [h1] at this
 have e:ln enc (Cx.dec enc zs)=zs.length:=by unfold ln;rw [h3]
 omega
theorem rd_none (w:World):Rd .u8 w (.slice none 0 0) []:=⟨none,0,rfl,Nat.le_refl _,by simp [maxLen],fun h=>absurd rfl h⟩
set_option maxHeartbeats 2000000 in
theorem Open_bad (enc lim:Int) (v:Value) (zs:List Int) (w:World) (h:Rd .u8 w v zs) (hE:opE enc lim zs.length≠0) :
  Calls Tryz.prog 22 #[.int .i64 enc,v,.int .i64 lim] w fun e w'=>e=.returned (.tuple #[.pointer none,.int .i64 (opE enc lim zs.length)])∧Below w.heap.size w w':=by
 have D0:=zh (Decode_any enc (.slice none 0 0) [] w (rd_none w) (fun z hz=>by cases hz) (by simp))
 have hlen:=h.len
 obtain ⟨ao,cap,rfl,_⟩:=h
 by_cases hk:Cx.known enc=true
 case neg =>
  have HE:=zh (show opE enc lim zs.length=10 by unfold opE;rw [if_neg hk])
  have her:Cx.er enc=10:=by unfold Cx.er;rw [if_neg hk]
  rw [her] at D0
  rw [HE.out]
  clear hE
  go_enter Tryz.func22,Tryz.ntmps22
  go_wp2_with (go_at_call 49;refine D0.out.mono ?_;rintro e w1 ⟨v1,rfl,_,hb⟩;have HB:=zh hb;clear hb;(try dsimp only))
  go_ret2
  exact ⟨rfl,HB.out⟩
 have her:Cx.er enc=0:=by unfold Cx.er;rw [if_pos hk]
 rw [her] at D0
 by_cases hm:lim < 0∨65536 < lim
 ·have HE:=zh (show opE enc lim zs.length=1 by unfold opE;rw [if_pos hk,if_pos hm])
  rw [HE.out]
  clear hE
  by_cases h0:lim < 0
  all_goals
   go_enter Tryz.func22,Tryz.ntmps22
   go_wp2_with (go_at_call 49;refine D0.out.mono ?_;rintro e w1 ⟨v1,rfl,_,hb⟩;have HB:=zh hb;clear hb;(try dsimp only))
   go_ret2
   exact ⟨rfl,HB.out⟩
 ·have h0:¬ lim < 0:=fun e=>hm (.inl e)
  have h1:¬ 65536 < lim:=fun e=>hm (.inr e)
  by_cases hf:lim < (zs.length:Int)
  ·have HE:=zh (show opE enc lim zs.length=50 by unfold opE;rw [if_pos hk,if_neg hm,if_pos hf])
   rw [HE.out]
   clear hE hm
   go_enter Tryz.func22,Tryz.ntmps22
   go_wp2_with (go_at_call 49;refine D0.out.mono ?_;rintro e w1 ⟨v1,rfl,_,hb⟩;have HB:=zh hb;clear hb;(try dsimp only))
   go_ret2
   exact ⟨rfl,HB.out⟩
  ·exact absurd (by unfold opE;rw [if_pos hk,if_neg hm,if_neg hf]) hE
set_option maxHeartbeats 2000000 in
theorem Open_good (enc lim:Int) (v:Value) (zs:List Int) (w:World) (h:Rd .u8 w v zs) (hB:Byt zs) (hE:opE enc lim zs.length=0) :
  Calls Tryz.prog 22 #[.int .i64 enc,v,.int .i64 lim] w fun e w'=>OpR enc lim zs w e w':=by
 have hk:Cx.known enc=true:=by
  by_cases e:Cx.known enc=true
  ·exact e
  ·unfold opE at hE;rw [if_neg e] at hE;omega
 have hm:¬ (lim < 0∨65536 < lim):=fun e=>by unfold opE at hE;rw [if_pos hk,if_pos e] at hE;omega
 have hf:¬ lim < (zs.length:Int):=fun e=>by unfold opE at hE;rw [if_pos hk,if_neg hm,if_pos e] at hE;omega
 have he:Cx.En enc:=(Cx.known_iff enc).1 hk
 have her:Cx.er enc=0:=by unfold Cx.er;rw [if_pos hk]
 have h0:¬ lim < 0:=fun e=>hm (.inl e)
 have h1:¬ 65536 < lim:=fun e=>hm (.inr e)
 have D0:=zh (Decode_any enc (.slice none 0 0) [] w (rd_none w) (fun z hz=>by cases hz) (by simp))
 rw [her] at D0
 obtain ⟨bk1,bk2⟩:=Cx.back_all enc he _ zs (Nat.le_refl _) hB
 have CO:Hid (∀ w',Below w.heap.size w w'→Calls Tryz.prog 50 #[v] w' fun e w''=>e=.returned (.slice (some ⟨w'.heap.size,0,none⟩) zs.length zs.length)∧w''.heap[w'.heap.size]?=some (.cells (zs.map (Value.int .u8)).toArray 5 (0,0))∧Below w'.heap.size w' w''):=fun w' hb=>copyOf_any v zs w' (h.ext hb) (by omega)
 have D1:Hid (∀ w' b,RwU w' b 0 zs→Calls Tryz.prog 49 #[.int .i64 enc,.slice (some ⟨b,0,none⟩) zs.length zs.length] w' fun e w''=>∃ v',e=.returned (.tuple #[v',.int .i64 0])∧w''.ownsRow w'.heap.size 3 1 v' (Cx.dec enc zs).length ((Cx.dec enc zs).map (Value.int .i64))∧Below w'.heap.size w' w''):=fun w' b hr=>by
  have:=Decode_any enc _ zs w' (hr.rd zs.length (Nat.le_refl _) (by omega)) hB (by omega)
  rw [her,Cx.dd_yes enc zs hk] at this
  exact this
 have hdl:(Cx.dec enc zs).length≤zs.length:=Cx.dec_len enc _ _
 have CT:Hid (∀ w' b va,RwU w' b 0 zs→Rd .i64 w' va (Cx.dec enc zs)→Calls Tryz.prog 52 #[.int .i64 enc,va,.slice (some ⟨b,0,none⟩) zs.length zs.length] w' fun e w''=>∃ v gs,e=.returned v∧Hid (gs.flatten=Cx.dec enc zs∧(∀ g ∈ gs,Gr enc g)∧OwnR w'' w'.heap.size 97 v (mks enc b 0 0 gs))∧Below w'.heap.size w' w''):=fun w' b va hr ha =>
  cut_any enc he va _ (Cx.dec enc zs) b 0 w' ha bk2 (by rw [bk1];exact hr.rd zs.length (Nat.le_refl _) (by omega)) (fun _ p n c e=>by cases e;rfl) (by omega)
 obtain ⟨ao,cap,rfl,_⟩:=h
 have HK:=zh hk
 have HBZ:=zh hB
 have HEN:=zh he
 have HLM:=zh (show 0≤lim∧lim≤65536∧zs.length≤65536 by omega)
 have HBK:=zh bk1
 clear hk hm hE her hB he bk1 bk2
 go_enter Tryz.func22,Tryz.ntmps22
 go_upto_region 8 with (go_at_call 49;refine D0.out.mono ?_;rintro e w1 ⟨v1,rfl,_,hb⟩;have HB1:=zh hb;clear hb;(try dsimp only))
 go_upto_region 9 with (go_at_call 50;refine (CO.out w1 HB1.out).mono ?_;rintro e w2 ⟨rfl,hrw,hb⟩;have HR2:=zh (RwU.of hrw);have HB2:=zh hb;clear hb hrw;(try dsimp only))
 go_upto_region 10 with (go_at_call 49;refine (D1.out w2 w1.heap.size HR2.out).mono ?_;rintro e w3 ⟨v3,rfl,hv3,hb⟩;have HV3:=zh hv3;have HB3:=zh hb;clear hb hv3;(try dsimp only))
 go_upto_region 11 with (first
  | (go_at_call 52;refine (CT.out w3 w1.heap.size v3 (HR2.out.ext HB3.out) (Rd.of_own HV3.out)).mono ?_;rintro e w4 ⟨v4,gs,rfl,HG4,hb⟩;have HB4:=zh hb;clear hb;(try dsimp only))
  | (go_at_call 51;refine (Of_any v4 _ w4 HG4.out.2.2.rd (op_wt HG4.out.1 HG4.out.2.1 HBK.out HLM.out.2.2)).mono ?_;rintro e w5 ⟨u,rfl,ht,hb⟩;have HT5:=zh ht;have HB5:=zh hb;clear ht hb;(try dsimp only)))
 have FIN:Hid (∀ W t,Below w5.heap.size w5 W→W.heap[t]?=some (.cells #[.int .i64 enc,.int .i64 lim,.slice (some ⟨w1.heap.size,0,none⟩) zs.length zs.length,.pointer u] 92 (0,0))→Tx enc lim zs W t (mkp enc w1.heap.size 0 0 gs)):=fun W t hb ht=>by
  have r:=(((HR2.out.ext HB3.out).ext HB4.out).ext HB5.out).ext hb
  have hp:=mkp_pcs enc HEN.out zs HBZ.out W w1.heap.size 0 r gs 0 HG4.out.2.1 (by rw [List.drop_zero,HG4.out.1]) (Nat.zero_le _)
  refine ⟨⟨_,u,ht,⟨_,_,_,rfl,Nat.le_refl _,by omega,r⟩,?_⟩,hp,HEN.out,HBZ.out,HLM.out.2.2,HLM.out.1,HLM.out.2.1,?_⟩
  ·rw [mkp_xs];exact HT5.out.ext hb
  ·rw [mkp_as,HG4.out.1]
   unfold ln
   rw [HBK.out]
   exact HLM.out.2.2
 have HSH:=zh (show sh enc (mkp enc w1.heap.size 0 0 gs)=ctn enc 0 (Cx.dec enc zs) by rw [mkp_sh,HG4.out.1];rfl)
 have HBW:=zh (zxt (zxt (zxt (zxt HB1.out HB2.out) HB3.out) HB4.out) HB5.out)
 go_wp2_with fail
 go_ret2
 refine ⟨_,mkp enc w1.heap.size 0 0 gs,rfl,⟨FIN.out _ _ (zxa (zxa (Below.refl _ _) _) _) ?_,HSH.out,?_⟩,zxa (zxa HBW.out _) _⟩
 ·rw [← alloc_size w5 (.cells #[.pointer u] 90)]
  exact heap_alloc_new _ _
 ·have:=HBW.out.size
  omega
open Go.RowKit
theorem able_fst:Cx.fst 1 [97]=(97,1):=by rfl
theorem able_ch:chA 1 2 [(97,0)] [(1,1,[98])]=0:=by decide
theorem able_ap:apE [(97,0)] 0 [(1,1,[98])]=[(97,0),(98,-1)]:=by rfl
theorem rd_lit1 (w:World) (z:Int):Rd .u8 (w.alloc (.cells #[.int .u8 z] 5)) (.slice (some ⟨w.heap.size,0,none⟩) 1 1) [z]:=by
 have h:RwU (w.alloc (.cells #[.int .u8 z] 5)) w.heap.size 0 [z]:=RwU.of (heap_alloc_new _ _)
 exact h.rd 1 (by simp) (by omega)
theorem rdi_lit1 (w:World) (z:Int):Rd .i64 (w.alloc (.cells #[.int .i64 z] 3)) (.slice (some ⟨w.heap.size,0,none⟩) 1 1) [z]:=by
 refine ⟨some ⟨w.heap.size,0,none⟩,1,rfl,by simp,by decide,fun _=>⟨w.heap.size,0,rfl,by simp,fun i hi=>?_⟩⟩
 simp at hi
 subst hi
 rw [cell_of_row _ _ _ _ _ _ (heap_alloc_new _ _)]
 rfl
theorem edr_lit1 (w:World) (f t:Int) (pv:Value) (put:List Int) (h:Rd .i64 w pv put):EdR (w.alloc (.cells #[.int .i64 f,.int .i64 t,pv] 87)) (.slice (some ⟨w.heap.size,0,none⟩) 1 1) [(f,t,put)]:=by
 refine ⟨some ⟨w.heap.size,0,none⟩,1,rfl,by simp,by omega,fun _=>⟨w.heap.size,0,rfl,by simp,fun i e he=>?_⟩⟩
 cases i with
 | zero =>
   simp only [List.getElem?_cons_zero,Option.some.injEq] at he
   subst he
   have e:=heap_alloc_new w (.cells #[.int .i64 f,.int .i64 t,pv] 87)
   refine ⟨?_,?_,pv,?_,h.ext (zxa (Below.refl _ _) _)⟩ <;> (rw [cell_of_row _ _ _ _ _ _ e];rfl)
 | succ i=>simp at he
set_option maxHeartbeats 4000000 in
theorem able_any (w:World):Calls Tryz.prog 11 #[] w fun e w'=>e=.returned (.bool true)∧Below w.heap.size w w':=by
 have hb97:Byt [97]:=by intro z hz;simp at hz;subst hz;omega
 have NX:=zh (Next_any 1 (.inl rfl) _ [97] 0 _ (rd_lit1 w 97) hb97 (by simp))
 rw [List.drop_zero,able_fst] at NX
 have OP:Hid (∀ w1:World,Calls Tryz.prog 22 #[.int .i64 1,.slice (some ⟨w1.heap.size,0,none⟩) 1 1,.int .i64 2] (w1.alloc (.cells #[.int .u8 97] 5)) fun e w'=>OpR 1 2 [97] (w1.alloc (.cells #[.int .u8 97] 5)) e w'):=fun w1=>Open_good 1 2 _ [97] _ (rd_lit1 w1 97) hb97 (by decide)
 go_enter Tryz.func11,Tryz.ntmps11
 go_upto_region 5 with (first
  | (go_at_call 33;refine NX.out.mono ?_;rintro e w1 ⟨rfl,hb1⟩;have HB1:=zh (zxt (zxa (Below.refl w.heap.size w) _) hb1);clear hb1;(try dsimp only))
  | (go_at_call 22;refine (OP.out w1).mono ?_;rintro e w2 ⟨t,ps,rfl,hop,hb2⟩;have HOP:=zh hop;have HB2:=zh (zxt HB1.out (zxt (zxa (Below.refl w1.heap.size w1) _) hb2));clear hop hb2;(try dsimp only)))
 have hsh:sh 1 ps=[(97,0)]:=by rw [HOP.out.2.1];rfl
 have LN:=zh (Len_any 1 2 [97] w2 t ps HOP.out.1)
 rw [hsh] at LN
 have CH:Hid (∀ w3:World,Below w2.heap.size w2 w3→Calls Tryz.prog 35 #[.pointer (some ⟨t,0,none⟩),.slice (some ⟨w3.heap.size + 1,0,none⟩) 1 1] ((w3.alloc (.cells #[.int .i64 98] 3)).alloc (.cells #[.int .i64 1,.int .i64 1,.slice (some ⟨w3.heap.size,0,none⟩) 1 1] 87)) fun e w'=>e=.returned (.int .i64 0)∧Hid (∃ ps',Tx 1 2 [97] w' t ps'∧(sh 1 ps').length=2∧Kps (fun k=>k=t) ((w3.alloc (.cells #[.int .i64 98] 3)).alloc (.cells #[.int .i64 1,.int .i64 1,.slice (some ⟨w3.heap.size,0,none⟩) 1 1] 87)) w')):=fun w3 hb=>by
  have he:=edr_lit1 _ 1 1 (.slice (some ⟨w3.heap.size,0,none⟩) 1 1) [98] (rdi_lit1 w3 98)
  rw [World.size_alloc] at he
  refine (Change_any 1 2 [97] _ t ps _ [(1,1,[98])] (HOP.out.1.ext (zxt hb (zxa (zxa (Below.refl _ _) _) _))) he (fun _=>by simp [puts])).mono ?_
  rintro e w' ⟨rfl,ps',h1,h2,h3⟩
  rw [hsh] at h2 ⊢
  refine ⟨by rw [able_ch],ps',h1,?_,h3⟩
  rw [h2]
  unfold chT
  rw [able_ch,if_pos rfl,able_ap]
  rfl
 have HW:=zh (show w.heap.size≤t∧t < w2.heap.size from ⟨Nat.le_trans (by have:=HB1.out.size;simp;omega) HOP.out.2.2,by obtain ⟨_,_,_,_,_,h⟩:=HOP.out.1.cells;exact h⟩)
 clear hsh
 go_upto_region 7 with (go_at_call 34;refine LN.out.mono ?_;rintro e w3 ⟨rfl,hb3⟩;have HB3:=zh hb3;clear hb3;(try dsimp only))
 have CH3:=zh (CH.out w3 HB3.out)
 go_wp2_with (first
  | (go_at_call 35;refine CH3.out.mono ?_;rintro e w4 ⟨rfl,hc⟩;obtain ⟨ps',k1,k2,k3⟩:=hc.out;have LN4:=zh (Len_any 1 2 [97] w4 t ps' k1);rw [k2] at LN4;have HK:=zh k3;clear k1 k2 k3 hc;(try dsimp only))
  | (go_at_call 34;refine LN4.out.mono ?_;rintro e w5 ⟨rfl,hb5⟩;have HB5:=zh hb5;clear hb5;(try dsimp only)))
 go_ret
 refine ⟨rfl,?_⟩
 have h0:Below w.heap.size w ((w3.alloc (.cells #[.int .i64 98] 3)).alloc (.cells #[.int .i64 1,.int .i64 1,.slice (some ⟨w3.heap.size,0,none⟩) 1 1] 87)):=zxt (zxt HB2.out HB3.out) (zxa (zxa (Below.refl _ _) _) _)
 have h4:Below w.heap.size w w4:=h0.trans (HK.out.below h0.size (fun k hk=>by rw [hk];exact HW.out.1))
 exact zxt h4 HB5.out
end Go.Proofs.YtdhciadajendnaaGreat.P
