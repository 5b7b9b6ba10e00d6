import Derived.Test.YtgfdfajblidleaaGreatK29
set_option maxRecDepth 100000
namespace Go.Proofs.YtgfdfajblidleaaGreat.P
open Go.RowKit
theorem Change_any (enc lim:Int) (L:List Int) (w:World) (t:Nat) (ps:List PG) (v:Value) (es:List Ed) (h:Tx enc lim L w t ps) (hE:EdR w v es) (hl:es.length≤70000→(puts es).length≤2305843009213693951) :
  Calls Tryz.prog 46 #[.pointer (some ⟨t,0,none⟩),v] w fun e w'=>ChR enc lim L t ps es w e w':=Change_of enc lim L w t ps v es h hE hl (rewrite_any enc lim L t ps)
open Go.RowKit
def OpR (enc lim:Int) (zs:List Int) (w:World) (e:Ending) (w':World):Prop:=∃ (t:Nat) (ps:List PG),e=.returned (.tuple #[.pointer (some ⟨t,0,none⟩),.int .i64 0])∧(Tx enc lim zs w' t ps∧sh enc ps=ctn enc 0 (Cx.dec enc zs)∧w.heap.size≤t)∧Below w.heap.size w w'
def opE (enc lim:Int) (n:Nat):Int:=if Cx.known enc=true then (if lim < 0∨65536 < lim then 1 else if lim < (n:Int) then 50 else 0) else 10
theorem mks_wt {enc:Int} (b o:Nat):∀ (gs:List (List Int)) (pl:Nat),(∀ g ∈ gs,Gr enc g)→wt (mks enc b o pl gs)≤4 * ln enc gs.flatten:=by
 intro gs
 induction gs with
 | nil=>intro pl _;exact Nat.zero_le _
 | cons g gs ih =>
   intro pl h
   have i:=ih (pl + ln enc g) (fun x hx=>h x (List.mem_cons_of_mem _ hx))
   have hg:=h g List.mem_cons_self
   rw [mks,wt_cons,List.flatten_cons,ln_app]
   obtain ⟨k1,k2⟩:=spn_a enc g hg.fit
   have k3:=spn_b enc g
   have k4:=ln_ge enc g
   have k5:=hg.pos
   show 1 + (spn enc g).a.toNat + (spn enc g).s.toNat + (spn enc g).b.toNat + _≤_
   omega
theorem op_wt {enc:Int} {b:Nat} {gs:List (List Int)} {zs:List Int} (h1:gs.flatten=Cx.dec enc zs) (h2:∀ g ∈ gs,Gr enc g) (h3:Cx.encB enc (Cx.dec enc zs)=zs) (h4:zs.length≤65536):wt (mks enc b 0 0 gs)≤4611686018427387904:=by
 have:=mks_wt b 0 gs 0 h2
 rw [h1] at this
 have e:ln enc (Cx.dec enc zs)=zs.length:=by unfold ln;rw [h3]
 omega
theorem rd_none (w:World):Rd .u8 w (.slice none 0 0) []:=⟨none,0,rfl,Nat.le_refl _,by simp [maxLen],fun h=>absurd rfl h⟩
set_option maxHeartbeats 2000000 in
theorem Open_good (enc lim:Int) (v:Value) (zs:List Int) (w:World) (h:Rd .u8 w v zs) (hB:Byt zs) (hE:opE enc lim zs.length=0) :
  Calls Tryz.prog 30 #[.int .i64 enc,v,.int .i64 lim] w fun e w'=>OpR enc lim zs w e w':=by
 have hk:Cx.known enc=true:=by
  by_cases e:Cx.known enc=true
  ·exact e
  ·unfold opE at hE;rw [if_neg e] at hE;omega
 have hm:¬ (lim < 0∨65536 < lim):=fun e=>by unfold opE at hE;rw [if_pos hk,if_pos e] at hE;omega
 have hf:¬ lim < (zs.length:Int):=fun e=>by unfold opE at hE;rw [if_pos hk,if_neg hm,if_pos e] at hE;omega
 have he:Cx.En enc:=(Cx.known_iff enc).1 hk
 have her:Cx.er enc=0:=by unfold Cx.er;rw [if_pos hk]
 have h0:¬ lim < 0:=fun e=>hm (.inl e)
 have h1:¬ 65536 < lim:=fun e=>hm (.inr e)
 have D0:=zh (Decode_any enc (.slice none 0 0) [] w (rd_none w) (fun z hz=>by cases hz) (by simp))
 rw [her] at D0
 obtain ⟨bk1,bk2⟩:=Cx.back_all enc he _ zs (Nat.le_refl _) hB
 have CO:Hid (∀ w',Below w.heap.size w w'→Calls Tryz.prog 51 #[v] w' fun e w''=>e=.returned (.slice (some ⟨w'.heap.size,0,none⟩) zs.length zs.length)∧w''.heap[w'.heap.size]?=some (.cells (zs.map (Value.int .u8)).toArray 5 (0,0))∧Below w'.heap.size w' w''):=fun w' hb=>copyOf_any v zs w' (h.ext hb) (by omega)
 have D1:Hid (∀ w' b,RwU w' b 0 zs→Calls Tryz.prog 50 #[.int .i64 enc,.slice (some ⟨b,0,none⟩) zs.length zs.length] w' fun e w''=>∃ v',e=.returned (.tuple #[v',.int .i64 0])∧w''.ownsRow w'.heap.size 3 1 v' (Cx.dec enc zs).length ((Cx.dec enc zs).map (Value.int .i64))∧Below w'.heap.size w' w''):=fun w' b hr=>by
  have:=Decode_any enc _ zs w' (hr.rd zs.length (Nat.le_refl _) (by omega)) hB (by omega)
  rw [her,Cx.dd_yes enc zs hk] at this
  exact this
 have hdl:(Cx.dec enc zs).length≤zs.length:=Cx.dec_len enc _ _
 have CT:Hid (∀ w' b va,RwU w' b 0 zs→Rd .i64 w' va (Cx.dec enc zs)→Calls Tryz.prog 53 #[.int .i64 enc,va,.slice (some ⟨b,0,none⟩) zs.length zs.length] w' fun e w''=>∃ v gs,e=.returned v∧Hid (gs.flatten=Cx.dec enc zs∧(∀ g ∈ gs,Gr enc g)∧OwnR w'' w'.heap.size 111 v (mks enc b 0 0 gs))∧Below w'.heap.size w' w''):=fun w' b va hr ha =>
  cut_any enc he va _ (Cx.dec enc zs) b 0 w' ha bk2 (by rw [bk1];exact hr.rd zs.length (Nat.le_refl _) (by omega)) (fun _ p n c e=>by cases e;rfl) (by omega)
 obtain ⟨ao,cap,rfl,_⟩:=h
 have HK:=zh hk
 have HBZ:=zh hB
 have HEN:=zh he
 have HLM:=zh (show 0≤lim∧lim≤65536∧zs.length≤65536 by omega)
 have HBK:=zh bk1
 clear hk hm hE her hB he bk1 bk2
 go_enter Tryz.func30,Tryz.ntmps30
 go_upto_region 8 with (go_at_call 50;refine D0.out.mono ?_;rintro e w1 ⟨v1,rfl,_,hb⟩;have HB1:=zh hb;clear hb;(try dsimp only))
 go_upto_region 9 with (go_at_call 51;refine (CO.out w1 HB1.out).mono ?_;rintro e w2 ⟨rfl,hrw,hb⟩;have HR2:=zh (RwU.of hrw);have HB2:=zh hb;clear hb hrw;(try dsimp only))
 go_upto_region 10 with (go_at_call 50;refine (D1.out w2 w1.heap.size HR2.out).mono ?_;rintro e w3 ⟨v3,rfl,hv3,hb⟩;have HV3:=zh hv3;have HB3:=zh hb;clear hb hv3;(try dsimp only))
 go_upto_region 11 with (first
  | (go_at_call 53;refine (CT.out w3 w1.heap.size v3 (HR2.out.ext HB3.out) (Rd.of_own HV3.out)).mono ?_;rintro e w4 ⟨v4,gs,rfl,HG4,hb⟩;have HB4:=zh hb;clear hb;(try dsimp only))
  | (go_at_call 52;refine (Of_any v4 _ w4 HG4.out.2.2.rd (op_wt HG4.out.1 HG4.out.2.1 HBK.out HLM.out.2.2)).mono ?_;rintro e w5 ⟨u,rfl,ht,hb⟩;have HT5:=zh ht;have HB5:=zh hb;clear ht hb;(try dsimp only)))
 have FIN:Hid (∀ W t,Below w5.heap.size w5 W→W.heap[t]?=some (.cells #[.int .i64 enc,.int .i64 lim,.slice (some ⟨w1.heap.size,0,none⟩) zs.length zs.length,.pointer u] 115 (0,0))→Tx enc lim zs W t (mkp enc w1.heap.size 0 0 gs)):=fun W t hb ht=>by
  have r:=(((HR2.out.ext HB3.out).ext HB4.out).ext HB5.out).ext hb
  have hp:=mkp_pcs enc HEN.out zs HBZ.out W w1.heap.size 0 r gs 0 HG4.out.2.1 (by rw [List.drop_zero,HG4.out.1]) (Nat.zero_le _)
  refine ⟨⟨_,u,ht,⟨_,_,_,rfl,Nat.le_refl _,by omega,r⟩,?_⟩,hp,HEN.out,HBZ.out,HLM.out.2.2,HLM.out.1,HLM.out.2.1,?_⟩
  ·rw [mkp_xs];exact HT5.out.ext hb
  ·rw [mkp_as,HG4.out.1]
   unfold ln
   rw [HBK.out]
   exact HLM.out.2.2
 have HSH:=zh (show sh enc (mkp enc w1.heap.size 0 0 gs)=ctn enc 0 (Cx.dec enc zs) by rw [mkp_sh,HG4.out.1];rfl)
 have HBW:=zh (zxt (zxt (zxt (zxt HB1.out HB2.out) HB3.out) HB4.out) HB5.out)
 go_wp2_with fail
 go_ret2
 refine ⟨_,mkp enc w1.heap.size 0 0 gs,rfl,⟨FIN.out _ _ (zxa (zxa (Below.refl _ _) _) _) ?_,HSH.out,?_⟩,zxa (zxa HBW.out _) _⟩
 ·rw [← alloc_size w5 (.cells #[.pointer u] 106)]
  exact heap_alloc_new _ _
 ·have:=HBW.out.size
  omega
end Go.Proofs.YtgfdfajblidleaaGreat.P
