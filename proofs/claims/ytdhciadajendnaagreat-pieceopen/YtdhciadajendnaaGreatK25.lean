import Derived.Test.YtdhciadajendnaaGreatK24
set_option maxRecDepth 100000
namespace Go.Proofs.YtdhciadajendnaaGreat.P
open Go.RowKit
theorem field_sum (p:Option Addr) (n c:Nat) (l a s b:Int) (f r:Bool) (w:World):(Instr.field 97 (.agg #[.slice p n c,.int .i64 l,.int .i64 a,.int .i64 s,.int .i64 b,.bool f,.bool r]) 2).run Tryz.prog w=.ok (.agg #[.int .i64 a,.int .i64 s,.int .i64 b,.bool f,.bool r]) w:=by kernel_rfl
theorem field_atoms (a s b:Int) (f r:Bool) (w:World):(Instr.field 94 (.agg #[.int .i64 a,.int .i64 s,.int .i64 b,.bool f,.bool r]) 0).run Tryz.prog w=.ok (.int .i64 a) w:=by kernel_rfl
def Nwr (vm vm':Value) (w:World):Prop:=vm'.ownBlock=vm.ownBlock∨∃ k,vm'.ownBlock=some k∧w.heap.size≤k
theorem Nwr.ow {vm vm':Value} {w:World} {g bo:Nat} (h:Nwr vm vm' w):∀ i,i < w.heap.size→ow g bo vm' i→ow g bo vm i:=by
 rintro i hi (e | e | e)
 ·exact .inl e
 ·exact .inr (.inl e)
 ·rcases h with h | ⟨k,h1,h2⟩
  ·exact .inr (.inr (h ▸ e))
  ·rw [h1] at e;cases e;omega
theorem Nwr.trans {vm vm' vm'':Value} {w w':World} (h:Nwr vm vm' w) (k:Nwr vm' vm'' w') (hw:w.heap.size≤w'.heap.size):Nwr vm vm'' w:=by
 rcases k with k | ⟨i,k1,k2⟩
 ·rcases h with h | ⟨j,h1,h2⟩
  ·exact .inl (k.trans h)
  ·exact .inr ⟨j,k.trans h1,h2⟩
 ·exact .inr ⟨i,k1,Nat.le_trans hw k2⟩
theorem sh_ne {enc:Int} {os:List PG} {j:Nat} (h0:0 < j) (h:j≤(sh enc os).length):∃ x gx os2,os=(x,gx) :: os2:=by
 cases os with
 | nil=>simp [sh] at h;omega
 | cons q os=>exact ⟨q.1,q.2,os,rfl⟩
theorem fst_app {enc:Int} {a b:List PG}:asOf a ++ asOf b=(sh enc a ++ sh enc b).map Prod.fst:=by rw [List.map_append,sh_fst,sh_fst]
theorem kp_bound {enc:Int} {y x:It} {gy gx:List Int} {os3 os2 ms1:List PG} (hs:ctn enc y.pl gy ++ sh enc os3=sh enc ((x,gx) :: os2)) (ht:ln enc (asOf ms1) + (ln enc gx + ln enc (asOf os2))≤1073741824):ln enc (asOf ms1) + ln enc gy≤1073741824:=by
 have e:=congrArg (fun l=>ln enc (l.map Prod.fst)) hs
 simp only [List.map_append,ctn_fst,sh_fst] at e
 rw [ln_app,show asOf ((x,gx) :: os2)=gx ++ asOf os2 by simp [asOf],ln_app] at e
 omega
theorem kp_box {enc:Int} {L:List Int} {g bo:Nat} {w1 w3:World} {lv vo vm:Value} {os ms:List PG} {y:It} (h:Wr enc L g bo w1 lv vo vm os ms) (hk:Kps (ow g bo vm) (w1.alloc (.cells #[.slice y.p y.n y.c,.int .i64 y.pl,.int .i64 y.sp.a,.int .i64 y.sp.s,.int .i64 y.sp.b,.bool y.sp.lf,.bool y.sp.cr] 97)) w3):w3.cell? ⟨w1.heap.size,2,none⟩=some (.int .i64 y.sp.a):=by
 have e:=hk.same w1.heap.size (by rw [alloc_size];omega) (fun e=>by have:=h.own_lt e;omega)
 have k:BlkI (w1.alloc (.cells #[.slice y.p y.n y.c,.int .i64 y.pl,.int .i64 y.sp.a,.int .i64 y.sp.s,.int .i64 y.sp.b,.bool y.sp.lf,.bool y.sp.cr] 97)) w1.heap.size y:=heap_alloc_new _ _
 exact (k.same9 e).cells.1.2.2.1
def KpR (enc:Int) (L:List Int) (g bo:Nat) (w:World) (lv vm:Value) (A B:List (Int × Int)) (e:Ending) (w':World):Prop :=
 ∃ v vo' vm' os' ms',e=.returned v∧Wr enc L g bo w' lv vo' vm' os' ms'∧sh enc ms'=A∧sh enc os'=B∧Kps (ow g bo vm) w w'∧Nwr vm vm' w
set_option maxHeartbeats 4000000 in
theorem drop_any (enc:Int) (he:Cx.En enc) (L:List Int) (hL:Byt L) (hLl:L.length≤1073741824) (g bo n:Nat) (lv vo vm:Value) (os ms:List PG) (w:World) (hW:Wr enc L g bo w lv vo vm os ms) (hl:ln enc (asOf os)≤1073741824) (hn:n≤(sh enc os).length) :
  Calls Tryz.prog 97 #[.pointer (some ⟨g,0,none⟩),.int .i64 n] w fun e w'=>KpR enc L g bo w lv vm (sh enc ms) ((sh enc os).drop n) e w':=by
 have hlen:(sh enc os).length≤1073741824:=by rw [sh_len];have:=ln_ge enc (asOf os);omega
 have HW:=zh hW
 have HEN:=zh he
 have HLB:=zh hL
 clear hW he hL
 go_enter Tryz.func97,Tryz.ntmps97
 go_wp2_with fail
 go_loopg [1] n (fun gk p wr=>p=.int .i64 (gk:Nat)∧gk≤n∧Hid (∃ vo1 os1,Wr enc L g bo wr lv vo1 vm os1 ms∧sh enc os1=(sh enc os).drop (n - gk)∧Kps (ow g bo vm) w wr))
 case atStart=>exact ⟨rfl,Nat.le_refl _,vo,os,HW.out,by rw [Nat.sub_self,List.drop_zero],Kps.refl _ _⟩
 case round =>
  obtain ⟨rfl,hgn,HI⟩:=hrel
  obtain ⟨vo1,os1,HW1,hsh,HK1⟩:=HI.out
  by_cases h0:0 < gk
  ·have h0':(0:Int) < (gk:Int):=by omega
   have hle:gk≤(sh enc os1).length:=by rw [hsh,List.length_drop];omega
   obtain ⟨x,gx,os2,rfl⟩:=sh_ne h0 hle
   have hbd:ln enc gx≤1073741824:=by
    have e1:=sh_fst enc ((x,gx) :: os2)
    rw [hsh,List.map_drop,sh_fst] at e1
    have e2:=ln_app enc ((asOf os).take (n - gk)) ((asOf os).drop (n - gk))
    rw [List.take_append_drop,e1,show asOf ((x,gx) :: os2)=gx ++ asOf os2 by simp [asOf],ln_app] at e2
    omega
   have NX:=zh (next_any enc HEN.out L HLB.out hLl g bo gk lv vo1 vm x gx os2 ms wr HW1 h0 hbd)
   have HK:=zh HK1
   have HSH:=zh hsh
   clear HI HW1 hsh HK1
   have Fz:=field_sum
   have FA:=field_atoms
   go_wp2_with (go_at_call 123;refine NX.out.mono ?_;rintro e w1 ⟨y,gy,vo2,os3,rfl,hy,hyn,hW2,hs2,hk2⟩;have HA:=zh (show y.sp.a=(gy.length:Nat) by rw [hy.sp,(spn_a enc gy hy.gr.fit).1]);have HP:=zh hy.gr.pos;have HF:=zh (show Wr enc L g bo w1 lv vo2 vm os3 ms∧ctn enc y.pl gy ++ sh enc os3=sh enc ((x,gx) :: os2)∧Kps (ow g bo vm) wr w1 from ⟨hW2,hs2,hk2⟩);clear hy hW2 hs2 hk2;(try dsimp only);rw [HA.out])
   have hp:=HP.out
   go_roundg (gk - gy.length)
   case rel =>
    refine ⟨by go_num,by omega,vo2,os3,HF.out.1,?_,HK.out.trans HF.out.2.2 fun _ _ e=>e⟩
    have e3:sh enc os3=(sh enc ((x,gx) :: os2)).drop gy.length:=by rw [← HF.out.2.1,List.drop_left' (ctn_len enc gy y.pl)]
    rw [e3,HSH.out,List.drop_drop]
    congr 1
    omega
   case measure=>omega
  ·have h0':¬ (0:Int) < (gk:Int):=by omega
   obtain rfl:gk=0:=by omega
   clear HI
   have HF:=zh (show KpR enc L g bo w lv vm (sh enc ms) ((sh enc os).drop n) (.returned (.tuple #[])) wr from ⟨_,vo1,vm,os1,ms,rfl,HW1,rfl,by rw [hsh,Nat.sub_zero],HK1,.inl rfl⟩)
   clear HW1 hsh HK1
   go_wp2_with fail
   exact bodyPost_ret (v:=.tuple #[]) (by simp [results,Tryz.results97,go_sem]) rfl HF.out
set_option maxHeartbeats 4000000 in
theorem keep_any (enc:Int) (he:Cx.En enc) (L:List Int) (hL:Byt L) (hLl:L.length≤1073741824) (g bo n:Nat) (lv vo vm:Value) (os ms:List PG) (w:World) (hW:Wr enc L g bo w lv vo vm os ms) (hl:ln enc (asOf ms ++ asOf os)≤1073741824) (hn:n≤(sh enc os).length) :
  Calls Tryz.prog 96 #[.pointer (some ⟨g,0,none⟩),.int .i64 n] w fun e w'=>KpR enc L g bo w lv vm (sh enc ms ++ (sh enc os).take n) ((sh enc os).drop n) e w':=by
 have hlen:(sh enc os).length≤1073741824:=by rw [sh_len];have:=ln_ge enc (asOf ms ++ asOf os);rw [List.length_append] at this;omega
 have HW:=zh hW
 have HEN:=zh he
 have HLB:=zh hL
 clear hW he hL
 go_enter Tryz.func96,Tryz.ntmps96
 go_wp2_with fail
 go_loopg [1] n (fun gk p wr=>p=.int .i64 (gk:Nat)∧gk≤n∧Hid (∃ vo1 vm1 os1 ms1,Wr enc L g bo wr lv vo1 vm1 os1 ms1∧sh enc ms1 ++ sh enc os1=sh enc ms ++ sh enc os∧(sh enc ms1).length + gk=(sh enc ms).length + n∧Kps (ow g bo vm) w wr∧Nwr vm vm1 w))
 case atStart=>exact ⟨rfl,Nat.le_refl _,vo,vm,os,ms,HW.out,rfl,rfl,Kps.refl _ _,.inl rfl⟩
 case round =>
  obtain ⟨rfl,hgn,HI⟩:=hrel
  obtain ⟨vo1,vm1,os1,ms1,HW1,hsh,hsl,HK1,HN1⟩:=HI.out
  have htl:=congrArg List.length hsh
  rw [List.length_append,List.length_append] at htl
  by_cases h0:0 < gk
  ·have h0':(0:Int) < (gk:Int):=by omega
   have hle:gk≤(sh enc os1).length:=by omega
   obtain ⟨x,gx,os2,rfl⟩:=sh_ne h0 hle
   have htot:ln enc (asOf ms1) + (ln enc gx + ln enc (asOf os2))≤1073741824:=by
    rw [fst_app (enc:=enc),← hsh,← fst_app,ln_app,show asOf ((x,gx) :: os2)=gx ++ asOf os2 by simp [asOf],ln_app] at hl
    exact hl
   have NX:=zh (next_any enc HEN.out L HLB.out hLl g bo gk lv vo1 vm1 x gx os2 ms1 wr HW1 h0 (by omega))
   have HK:=zh (show Kps (ow g bo vm) w wr∧Nwr vm vm1 w from ⟨HK1,HN1⟩)
   have HSH:=zh hsh
   clear HI HW1 hsh HK1 HN1 htl
   go_wp2_with (first
    | (go_at_call 123;refine NX.out.mono ?_;rintro e w1 ⟨y,gy,vo2,os3,rfl,hy,hyn,hW2,hs2,hk2⟩;have HA:=zh (show y.sp.a=(gy.length:Nat) by rw [hy.sp,(spn_a enc gy hy.gr.fit).1]);have HP:=zh hy.gr.pos;have HF:=zh (show Wr enc L g bo w1 lv vo2 vm1 os3 ms1∧ctn enc y.pl gy ++ sh enc os3=sh enc ((x,gx) :: os2)∧Kps (ow g bo vm1) wr w1 from ⟨hW2,hs2,hk2⟩);have AD:Hid (∀ w2,Below w1.heap.size w1 w2→Calls Tryz.prog 99 #[.pointer (some ⟨g,0,none⟩),.agg #[.slice y.p y.n y.c,.int .i64 y.pl,.int .i64 y.sp.a,.int .i64 y.sp.s,.int .i64 y.sp.b,.bool y.sp.lf,.bool y.sp.cr]] w2 fun e w'=>AdR enc L g bo w2 lv vo2 vm1 os3 ms1 y gy e w'):=(fun w2 hb=>add_any enc HEN.out L HLB.out hLl g bo lv vo2 vm1 y gy os3 ms1 w2 (hW2.ext hb) (hy.ext hb) (kp_bound hs2 htot));clear hy hW2 hs2 hk2;(try dsimp only))
    | (go_at_call 99;refine (AD.out _ (zxa (Below.refl _ _) _)).mono ?_;rintro e w3 ⟨v,vm2,ms2,rfl,hW3,hs3,hm3,hk3,hn3⟩;have bx:=kp_box HF.out.1 hk3;rw [HA.out] at bx;have HG:=zh (show Wr enc L g bo w3 lv vo2 vm2 os3 ms2∧sh enc ms2=sh enc ms1 ++ ctn enc y.pl gy∧Kps (ow g bo vm1) w1 w3∧Nwr vm1 vm2 w1 from ⟨hW3,hs3,(Kps.of_below _ (zxa (Below.refl _ _) _)).trans hk3 (fun _ _ e=>e),hn3.imp id (fun ⟨k,e1,e2⟩=>⟨k,e1,Nat.le_trans (size_alloc_le _ _) e2⟩)⟩);clear hW3 hs3 hm3 hk3 hn3;(try dsimp only)))
   have hp:=HP.out
   go_roundg (gk - gy.length)
   case rel =>
    have e3:=HF.out.2.1
    have e4:=HG.out.2.1
    have e5:=HSH.out
    have l4:=congrArg List.length e4
    rw [List.length_append,ctn_len] at l4
    refine ⟨by go_num,by omega,vo2,vm2,os3,ms2,HG.out.1,?_,by omega,?_,?_⟩
    ·rw [e4,List.append_assoc,e3,e5]
    ·exact (HK.out.1.trans HF.out.2.2 HK.out.2.ow).trans HG.out.2.2.1 HK.out.2.ow
    ·exact HK.out.2.trans HG.out.2.2.2 (Nat.le_trans HK.out.1.size HF.out.2.2.size)
   case measure=>omega
  ·have h0':¬ (0:Int) < (gk:Int):=by omega
   obtain rfl:gk=0:=by omega
   clear HI
   have e1:sh enc ms1=sh enc ms ++ (sh enc os).take n∧sh enc os1=(sh enc os).drop n:=by
    have a1:=congrArg (fun l=>l.take (sh enc ms1).length) hsh
    have a2:=congrArg (fun l=>l.drop (sh enc ms1).length) hsh
    simp only [List.take_left' rfl,List.drop_left' rfl] at a1 a2
    rw [show (sh enc ms1).length=(sh enc ms).length + n by omega] at a1 a2
    rw [List.take_append,List.take_of_length_le (by omega),Nat.add_sub_cancel_left] at a1
    rw [List.drop_append,List.drop_eq_nil_of_le (by omega),Nat.add_sub_cancel_left,List.nil_append] at a2
    exact ⟨a1,a2⟩
   have HF:=zh (show KpR enc L g bo w lv vm (sh enc ms ++ (sh enc os).take n) ((sh enc os).drop n) (.returned (.tuple #[])) wr from ⟨_,vo1,vm1,os1,ms1,rfl,HW1,e1.1,e1.2,HK1,HN1⟩)
   clear HW1 hsh HK1 HN1 e1 htl hsl
   go_wp2_with fail
   exact bodyPost_ret (v:=.tuple #[]) (by simp [results,Tryz.results96,go_sem]) rfl HF.out
open Go.RowKit
theorem encode_fit (enc:Int) (he:Cx.En enc) (v:Value) (l:List Int) (w:World) (h:Rd .i64 w v l) (hf:∀ a ∈ l,Cx.fits enc a=true) (hz:l.length≤1073741824) :
  Calls Tryz.prog 124 #[.int .i64 enc,v] w fun e w'=>∃ v',e=.returned (.tuple #[v',.int .i64 0,.int .i64 0])∧w'.ownsRow w.heap.size 5 1 v' (Cx.encB enc l).length ((Cx.encB enc l).map (Value.int .u8))∧Below w.heap.size w w':=by
 have hk:Cx.known enc=true:=by rcases he with rfl | rfl | rfl | rfl <;> rfl
 have e:=Cx.encR_all enc l hk (fun j hj=>hf _ (by rw [List.getElem?_eq_getElem hj];exact List.getElem_mem hj))
 have hz':l.length * 8 + 320≤140737488355328:=by omega
 rcases he with rfl | rfl | rfl | rfl
 ·have:=Encode_1 v l w h hz';rw [e] at this;exact this
 ·have:=Encode_2 v l w h hz';rw [e] at this;exact this
 ·have:=Encode_3 v l w h hz';rw [e] at this;exact this
 ·have:=Encode_4 v l w h hz';rw [e] at this;exact this
theorem own_u8 {w:World} {base:Nat} {v:Value} {zs:List Int} (h:w.ownsRow base 5 1 v zs.length (zs.map (Value.int .u8))) (hn:zs≠[]):∃ b c,v=.slice (some ⟨b,0,none⟩) zs.length c∧base≤b∧RwU w b 0 zs:=by
 rcases h.2 with ⟨_,e⟩ | ⟨b,cap,cur,hv,hb,hg,h3,h4,h5,h6⟩
 ·exact absurd (List.length_eq_zero_iff.1 e) hn
 ·exact ⟨b,cap,hv,hb,cur,hg,by rw [Nat.mul_one] at h6;rw [List.drop_zero];exact h6⟩
theorem mks_get (enc:Int) (b o:Nat):∀ (gs:List (List Int)) (pl j:Nat) (g:List Int),gs[j]?=some g→(mks enc b o pl gs)[j]?.getD It.zero=mkx enc b o (pl + ln enc (gs.take j).flatten) g:=by
 intro gs
 induction gs with
 | nil=>intro pl j g h;simp at h
 | cons h gs ih =>
   intro pl j g hj
   cases j with
   | zero=>simp only [List.getElem?_cons_zero,Option.some.injEq] at hj;subst hj;rfl
   | succ j =>
     rw [List.getElem?_cons_succ] at hj
     rw [mks,List.getElem?_cons_succ,ih _ j g hj,List.take_succ_cons,List.flatten_cons,ln_app,Nat.add_assoc]
set_option maxHeartbeats 4000000 in
theorem put_any (enc:Int) (he:Cx.En enc) (L:List Int) (hL:Byt L) (hLl:L.length≤1073741824) (g bo:Nat) (lv vo vm va:Value) (os ms:List PG) (al:List Int) (w:World) (hW:Wr enc L g bo w lv vo vm os ms) (hA:Rd .i64 w va al) (hf:∀ a ∈ al,Cx.fits enc a=true) (hl:ln enc (asOf ms) + ln enc al≤1073741824) :
  Calls Tryz.prog 98 #[.pointer (some ⟨g,0,none⟩),va] w fun e w'=>KpR enc L g bo w lv vm (sh enc ms ++ al.map fun a=>(a,-1)) (sh enc os) e w':=by
 have hal:=ln_ge enc al
 have EN:=zh (encode_fit enc he va al w hA hf (by omega))
 have HW:=zh hW
 have HEN:=zh he
 have HLB:=zh hL
 have HFI:=zh hf
 have HVA:=zh hA
 have CT:Hid (∀ w1 v1 bb,Below w.heap.size w w1→w1.ownsRow w.heap.size 5 1 v1 (Cx.encB enc al).length ((Cx.encB enc al).map (Value.int .u8))→(al≠[]→∃ c,v1=.slice (some ⟨bb,0,none⟩) (Cx.encB enc al).length c)→Calls Tryz.prog 52 #[.int .i64 enc,va,v1] w1 fun e w'=>∃ v gs,e=.returned v∧Hid (gs.flatten=al∧(∀ g ∈ gs,Gr enc g)∧OwnR w' w1.heap.size 97 v (mks enc bb 0 0 gs))∧Below w1.heap.size w1 w'):=fun w1 v1 bb hb ho hv =>
  cut_any enc he va v1 al bb 0 w1 (hA.ext hb) hf (Rd.of_own ho) (fun hn p n c e=>by obtain ⟨c',e'⟩:=hv hn;rw [e'] at e;cases e;rfl) (by omega)
 have hgl:=hW.lt
 obtain ⟨⟨cg,_⟩,_⟩:=hW.cells
 obtain ⟨ap,ac,rfl,_⟩:=hA
 clear hW he hL hf
 go_enter Tryz.func98,Tryz.ntmps98
 go_upto_region 1 with (go_at_call 124;refine EN.out.mono ?_;clear cg;rintro e w1 ⟨v1,rfl,ho1,hb1⟩;have HO1:=zh ho1;have HB1:=zh hb1;clear ho1 hb1;(try dsimp only))
 have cg:=(HW.out.ext HB1.out).cells.1.1
 obtain ⟨bb,HBB⟩:∃ bb,Hid (al≠[]→(∃ c,v1=.slice (some ⟨bb,0,none⟩) (Cx.encB enc al).length c)∧w.heap.size≤bb∧RwU w1 bb 0 (Cx.encB enc al)):=by
  by_cases hn:al=[]
  ·exact ⟨0,fun h=>absurd hn h⟩
  ·obtain ⟨b,c,h1,h2,h3⟩:=own_u8 HO1.out (fun e=>hn (by have:=congrArg List.length e;have h4:=ln_ge enc al;rw [List.length_nil] at this;unfold ln at h4;exact List.length_eq_zero_iff.1 (by omega)))
   exact ⟨b,fun _=>⟨⟨c,h1⟩,h2,h3⟩⟩
 have CT1:=zh (CT.out w1 v1 bb HB1.out HO1.out (fun h=>(HBB.out h).1))
 clear CT EN
 go_upto_block 0 with (go_at_call 52;refine CT1.out.mono ?_;clear cg;rintro e w2 ⟨v2,gs,rfl,HG,hb2⟩;have HB2:=zh hb2;clear hb2;obtain ⟨ap2,cp2,hv2⟩:=HG.out.2.2.form1;rw [mks_len] at hv2;subst hv2;(try dsimp only))
 clear CT1
 have hgsl:gs.length≤1073741824:=by
  have h1:∀ gs:List (List Int),(∀ g ∈ gs,Gr enc g)→gs.length≤gs.flatten.length:=by
   intro gs
   induction gs with
   | nil=>intro _;exact Nat.le_refl _
   | cons q gs ih =>
     intro k
     have:=(k q List.mem_cons_self).pos
     have:=ih fun x hx=>k x (List.mem_cons_of_mem _ hx)
     rw [List.flatten_cons,List.length_append,List.length_cons]
     omega
  have:=h1 gs HG.out.2.1
  rw [HG.out.1] at this
  omega
 have HW2:=zh ((HW.out.ext HB1.out).ext HB2.out)
 have hz2:w.heap.size≤w2.heap.size:=Nat.le_trans HB1.out.size HB2.out.size
 have HNO:Hid (∀ k,w.heap.size≤k→¬ ow g bo vm k):=fun k hk e=>by have:=HW.out.own_lt e;omega
 go_wp2_with fail
 go_loopg [27] gs.length (fun gk p wr=>∃ j:Nat,j + gk=gs.length∧p=.int .i64 (j:Nat)∧Hid (∃ vm1 ms1,Wr enc L g bo wr lv vo vm1 os ms1∧sh enc ms1=sh enc ms ++ (gs.take j).flatten.map (fun a=>(a,-1))∧Kps (ow g bo vm) w2 wr∧Nwr vm vm1 w2))
 case atStart=>exact ⟨0,by omega,rfl,vm,ms,HW2.out,by simp,Kps.refl _ _,.inl rfl⟩
 case round =>
  obtain ⟨j,hj,rfl,HI⟩:=hrel
  obtain ⟨vm1,ms1,HW3,hs3,hk3,hn3⟩:=HI.out
  by_cases hi':j < gs.length
  ·have hi2:(j:Int) < (gs.length:Int):=by omega
   obtain ⟨gj,hgj⟩:∃ gj,gs[j]?=some gj:=⟨_,List.getElem?_eq_getElem hi'⟩
   have hgm:gj ∈ gs:=List.mem_of_getElem? hgj
   have hGr:=HG.out.2.1 gj hgm
   have hne:al≠[]:=fun e=>by
    have e1:=HG.out.1
    rw [e] at e1
    exact hGr.ne (List.flatten_eq_nil_iff.1 e1 gj hgm)
   obtain ⟨_,hbb,hrw⟩:=HBB.out hne
   obtain ⟨kp,cq,hvq,hkp,hkl,hq1,hq2,hrow⟩:=HG.out.2.2.row (by rw [mks_len];omega)
   simp only [Value.slice.injEq] at hvq
   obtain ⟨hap,hx1,hcp⟩:=hvq
   subst hap
   subst hcp
   clear hx1
   have hkn:¬ ow g bo vm kp:=HNO.out kp (Nat.le_trans HB1.out.size hkp)
   have hrow':=hrow.same (hk3.same kp hkl hkn)
   have cl:=hrow'.cell j (by rw [mks_len];exact hi')
   rw [mks_get enc bb 0 gs 0 j gj hgj,Nat.zero_add,Nat.zero_add] at cl
   -- the bytes of the piece
   have e1:al=(gs.take j).flatten ++ (gj ++ (gs.drop (j + 1)).flatten):=by
    have e2:gs=gs.take j ++ gj :: gs.drop (j + 1):=by
     rw [List.getElem?_eq_getElem hi',Option.some.injEq] at hgj
     rw [← hgj,← List.drop_eq_getElem_cons hi',List.take_append_drop]
    conv=>lhs;rw [← HG.out.1,e2,List.flatten_append,List.flatten_cons]
   have e3:((Cx.encB enc al).drop (ln enc (gs.take j).flatten)).take (ln enc gj)=Cx.encB enc gj:=by
    rw [e1,Cx.encB_app,List.drop_left' (show (Cx.encB enc (gs.take j).flatten).length=ln enc (gs.take j).flatten from rfl),Cx.encB_app,List.take_left' (show (Cx.encB enc gj).length=ln enc gj from rfl)]
   have e4:ln enc al=ln enc (gs.take j).flatten + (ln enc gj + ln enc (gs.drop (j + 1)).flatten):=by rw [← ln_app,← ln_app,← e1]
   have hrb:=((hrw.ext HB2.out).same (hk3.same bb (hrw.ext HB2.out).lt (HNO.out bb hbb))).part (ln enc (gs.take j).flatten) (ln enc gj) (by show _≤ln enc al;omega)
   rw [e3,Nat.zero_add] at hrb
   have CP:Hid (∀ W,Below wr.heap.size wr W→Calls Tryz.prog 50 #[.slice (some ⟨bb,ln enc (gs.take j).flatten,none⟩) (ln enc gj) (ln enc gj)] W fun e W'=>e=.returned (.slice (some ⟨W.heap.size,0,none⟩) (ln enc gj) (ln enc gj))∧RwU W' W.heap.size 0 (Cx.encB enc gj)∧Below W.heap.size W W'):=fun W hb=>by
    exact (copyOf_any _ _ W ((hrb.ext hb).rd (ln enc gj) (Nat.le_refl _) (by omega)) (by show ln enc gj≤_;omega)).mono fun e W' ⟨h1,h2,h3⟩=>⟨h1,RwU.of h2,h3⟩
   have et:asOf ms1=asOf ms ++ (gs.take j).flatten:=by
    have:=congrArg (List.map Prod.fst) hs3
    rw [sh_fst,List.map_append,sh_fst,List.map_map] at this
    rw [this]
    congr 1
    exact List.map_id _
   have AD:Hid (∀ W b,Below wr.heap.size wr W→RwU W b 0 (Cx.encB enc gj)→Calls Tryz.prog 99 #[.pointer (some ⟨g,0,none⟩),.agg #[.slice (some ⟨b,0,none⟩) (ln enc gj) (ln enc gj),.int .i64 (-1),.int .i64 (spn enc gj).a,.int .i64 (spn enc gj).s,.int .i64 (spn enc gj).b,.bool (spn enc gj).lf,.bool (spn enc gj).cr]] W fun e W'=>∃ v vm2 ms2,e=.returned v∧Wr enc L g bo W' lv vo vm2 os ms2∧sh enc ms2=sh enc ms1 ++ ctn enc (-1) gj∧Kps (ow g bo vm1) W W'∧Nwr vm1 vm2 W):=fun W b hb hr=>by
    refine (add_any enc HEN.out L HLB.out hLl g bo lv vo vm1 ⟨some ⟨b,0,none⟩,ln enc gj,ln enc gj,-1,spn enc gj,spn_ok enc gj⟩ gj os ms1 W (HW3.ext hb) ⟨hGr,⟨b,0,rfl,hr⟩,rfl,rfl,rfl,.inl rfl⟩ (by rw [et,ln_app];omega)).mono fun e W' h=>?_
    obtain ⟨v,vm2,ms2,h1,h2,h3,_,h5,h6⟩:=h
    exact ⟨v,vm2,ms2,h1,h2,h3,h5,h6⟩
   have HNX:Hid (sh enc ms1 ++ ctn enc (-1) gj=sh enc ms ++ (gs.take (j + 1)).flatten.map (fun a=>(a,-1))):=by
    unfold Hid
    rw [hs3,ctn_new,List.append_assoc,← List.map_append,List.take_add_one,hgj,Option.toList_some,List.flatten_append]
    simp
   have HK:=zh (show Kps (ow g bo vm) w2 wr∧Nwr vm vm1 w2 from ⟨hk3,hn3⟩)
   have HOL:=zh (show ∀ k,ow g bo vm1 k→k < wr.heap.size from fun k=>HW3.own_lt)
   clear HI HW3 hs3 hk3 hn3 hrb hrow hrow' e1 e3 hrw et hGr
   simp only [mkx,Nat.zero_add] at cl
   obtain ⟨wb,hwb,kb,hbb2⟩:∃ wb,wb=wr.alloc (.cells #[.slice (some ⟨bb,ln enc (gs.take j).flatten,none⟩) (ln enc gj) (ln enc gj),.int .i64 (ln enc (gs.take j).flatten:Nat),.int .i64 (spn enc gj).a,.int .i64 (spn enc gj).s,.int .i64 (spn enc gj).b,.bool (spn enc gj).lf,.bool (spn enc gj).cr] 97)∧BlkI wb wr.heap.size (⟨some ⟨bb,ln enc (gs.take j).flatten,none⟩,ln enc gj,ln enc gj,(ln enc (gs.take j).flatten:Nat),spn enc gj,spn_ok enc gj⟩:It)∧Below wr.heap.size wr wb:=⟨_,rfl,heap_alloc_new _ _,zxa (Below.refl _ _) _⟩
   have HBb:=zh hbb2
   have HKB:=zh kb
   have HP:Hid (∀ W,Below wb.heap.size wb W→(W.cell? ⟨wr.heap.size,0,none⟩=some (.slice (some ⟨bb,ln enc (gs.take j).flatten,none⟩) (ln enc gj) (ln enc gj))∧W.cell? ⟨wr.heap.size,1,none⟩=some (.int .i64 (ln enc (gs.take j).flatten:Nat))∧W.cell? ⟨wr.heap.size,2,none⟩=some (.int .i64 (spn enc gj).a)∧W.cell? ⟨wr.heap.size,3,none⟩=some (.int .i64 (spn enc gj).s)∧W.cell? ⟨wr.heap.size,4,none⟩=some (.int .i64 (spn enc gj).b)∧W.cell? ⟨wr.heap.size,5,none⟩=some (.bool (spn enc gj).lf)∧W.cell? ⟨wr.heap.size,6,none⟩=some (.bool (spn enc gj).cr))):=fun W hb=>(HKB.out.ext hb).cells.1
   have sgb:wr.heap.size≤wb.heap.size:=hbb2.size
   have hsl:ln enc (gs.take j).flatten≤1073741824∧ln enc gj≤1073741824:=by omega
   clear kb hbb2 e4
   generalize ln enc (gs.take j).flatten=st at *
   generalize ln enc gj=sn at *
   go_upto_region 4 with fail
   rw [← hwb]
   clear hwb cl
   have d0:=HP.out wb (Below.refl _ _)
   refine wp_region_held_drew (S:=fun w''=>(w''.cell? ⟨wr.heap.size,0,none⟩=some (.slice (some ⟨bb,st,none⟩) sn sn)∧w''.cell? ⟨wr.heap.size,1,none⟩=some (.int .i64 (st:Nat))∧w''.cell? ⟨wr.heap.size,2,none⟩=some (.int .i64 (spn enc gj).a)∧w''.cell? ⟨wr.heap.size,3,none⟩=some (.int .i64 (spn enc gj).s)∧w''.cell? ⟨wr.heap.size,4,none⟩=some (.int .i64 (spn enc gj).b)∧w''.cell? ⟨wr.heap.size,5,none⟩=some (.bool (spn enc gj).lf)∧w''.cell? ⟨wr.heap.size,6,none⟩=some (.bool (spn enc gj).cr))) (by kernel_rfl) (d0) (fun _=>?_)
   refine tkH 0 rfl ?_
   refine tkH 1 rfl ?_
   refine tkH 2 rfl ?_
   refine tkH 4 rfl ?_
   refine tkH 5 rfl ?_
   refine rdH 3 rfl fun K hK=>?_
   go_simp
   refine (CP.out _ (HBb.out.drew)).mono ?_;clear d0;rintro e v1 ⟨rfl,hr1,hb⟩;have HBc:Hid (Below wb.heap.size wb v1):=zxt (Below.drew (Below.refl _ _)) hb;have HR1:=zh hr1;clear hb hr1;have d0:=HP.out v1 HBc.out;try dsimp only
   refine hK.out _ _ ?_ (fun _=>?_)
   ·(try simp only [World.cell?_drew]);exact d0
   clear hK K
   try simp only [Act.put,tS]
   refine tkH 6 rfl ?_
   refine rdH 7 rfl fun K hK=>?_
   go_simp
   refine (AD.out v1 _ (zxt HBb.out HBc.out) HR1.out).mono ?_;clear d0;rintro e v2 ⟨v,vm2,ms2,rfl,hW4,hs4,hk4,hn4⟩;have d2:=(HKB.out.ext HBc.out |>.same9 (hk4.same wr.heap.size (HKB.out.ext HBc.out).lt (fun e=>Nat.lt_irrefl _ (HOL.out _ e)))).cells.1;have HE4:Hid (∃ vm2 ms2,Wr enc L g bo v2 lv vo vm2 os ms2∧sh enc ms2=sh enc ms1 ++ ctn enc (-1) gj∧Kps (ow g bo vm1) wr v2∧Nwr vm1 vm2 wr):=⟨vm2,ms2,hW4,hs4,(Kps.of_below _ (zxt HBb.out HBc.out)).trans hk4 (fun _ _ e=>e),hn4.imp id (fun ⟨k,e1,e2⟩=>⟨k,e1,Nat.le_trans (zxt HBb.out HBc.out).size e2⟩)⟩;clear hW4 hs4 hk4 hn4;try dsimp only
   refine hK.out _ _ ?_ (fun _=>?_)
   ·exact d2
   clear hK K
   try simp only [Act.put,tS]
   refine dnH ?_
   go_wp2_with fail
   go_roundg (gs.length - (j + 1))
   case rel =>
    obtain ⟨vm2,ms2,q1,q2,q3,q4⟩:=HE4.out
    refine ⟨j + 1,by omega,by go_num,vm2,ms2,?_,by rw [q2,HNX.out],?_,HK.out.2.trans q4 HK.out.1.size⟩
    ·first | exact q1 | exact q1.ext (Below.drew (Below.refl _ _))
    ·first | exact HK.out.1.trans q3 HK.out.2.ow | exact (HK.out.1.trans q3 HK.out.2.ow).trans (Kps.of_below _ (Below.drew (Below.refl _ _))) fun _ _ e=>e
   case measure=>omega
  ·have hi2:¬ (j:Int) < (gs.length:Int):=by omega
   obtain rfl:j=gs.length:=by omega
   rw [List.take_length,HG.out.1] at hs3
   have HF:=zh (show KpR enc L g bo w lv vm (sh enc ms ++ al.map fun a=>(a,-1)) (sh enc os) (.returned (.tuple #[])) wr from ⟨_,vo,vm1,os,ms1,rfl,HW3,hs3,rfl,(Kps.of_below _ (zxt HB1.out HB2.out)).trans hk3 fun _ _ e=>e,hn3.imp id fun ⟨k,e1,e2⟩=>⟨k,e1,Nat.le_trans hz2 e2⟩⟩)
   clear HI HW3 hs3 hk3 hn3
   go_wp2_with fail
   exact bodyPost_ret (v:=.tuple #[]) (by simp [results,Tryz.results98,go_sem]) rfl HF.out
open Go.RowKit
structure Tx (enc lim:Int) (L:List Int) (w:World) (t:Nat) (ps:List PG):Prop where
 ex:∃ lv u,w.heap[t]?=some (.cells #[.int .i64 enc,.int .i64 lim,lv,.pointer u] 92 (0,0))∧LdR w lv L∧TT w (.agg #[.pointer u]) (xsOf ps)
 pc:Pcs enc L w ps
 en:Cx.En enc
 by':Byt L
 ll:L.length≤65536
 l0:0≤lim
 lm:lim≤65536
 sz:ln enc (asOf ps)≤65536
theorem Tx.ext {enc lim:Int} {L:List Int} {w w':World} {t:Nat} {ps:List PG} (h:Tx enc lim L w t ps) (hb:Below w.heap.size w w'):Tx enc lim L w' t ps:=by
 obtain ⟨lv,u,h1,h2,h3⟩:=h.ex
 exact ⟨⟨lv,u,(hb.block t (Array.getElem?_eq_some_iff.1 h1).1).trans h1,h2.ext hb,h3.ext hb⟩,h.pc.ext hb,h.en,h.by',h.ll,h.l0,h.lm,h.sz⟩
theorem Tx.cells {enc lim:Int} {L:List Int} {w:World} {t:Nat} {ps:List PG} (h:Tx enc lim L w t ps):∃ lv u,(w.cell? ⟨t,0,none⟩=some (.int .i64 enc)∧w.cell? ⟨t,1,none⟩=some (.int .i64 lim)∧w.cell? ⟨t,2,none⟩=some lv∧w.cell? ⟨t,3,none⟩=some (.pointer u))∧LdR w lv L∧TT w (.agg #[.pointer u]) (xsOf ps)∧t < w.heap.size:=by
 obtain ⟨lv,u,h1,h2,h3⟩:=h.ex
 refine ⟨lv,u,⟨?_,?_,?_,?_⟩,h2,h3,(Array.getElem?_eq_some_iff.1 h1).1⟩ <;> (rw [cell_of_row w t _ _ _ _ h1];rfl)
theorem field_size (a s b:Int) (f r:Bool) (w:World):(Instr.field 94 (.agg #[.int .i64 a,.int .i64 s,.int .i64 b,.bool f,.bool r]) 1).run Tryz.prog w=.ok (.int .i64 s) w:=by kernel_rfl
theorem Tx.sum {enc lim:Int} {L:List Int} {w:World} {t:Nat} {ps:List PG} (h:Tx enc lim L w t ps):(rA.su (xsOf ps)).a=(sh enc ps).length∧(rA.su (xsOf ps)).s=ln enc (asOf ps)∧(sh enc ps).length≤65536:=by
 rw [h.pc.su,sh_len]
 obtain ⟨k1,k2⟩:=spn_a enc (asOf ps) h.pc.fit
 have:=ln_ge enc (asOf ps)
 have:=h.sz
 exact ⟨k1,k2,by omega⟩
theorem Len_any (enc lim:Int) (L:List Int) (w:World) (t:Nat) (ps:List PG) (h:Tx enc lim L w t ps):Calls Tryz.prog 34 #[.pointer (some ⟨t,0,none⟩)] w fun e w'=>e=.returned (.int .i64 (sh enc ps).length)∧Below w.heap.size w w':=by
 obtain ⟨lv,u,⟨_,_,_,c3⟩,_,ht,_⟩:=h.cells
 have SM:=zh (Sum_any u (xsOf ps) w ht)
 have HS:=zh h.sum.1
 have FA:=field_atoms
 clear h ht
 go_enter Tryz.func34,Tryz.ntmps34
 go_wp2_with (go_at_call 37;refine SM.out.mono ?_;rintro e w1 ⟨s,HE,rfl,hb⟩;have HB:=zh hb;clear hb;(try dsimp only))
 go_ret
 exact ⟨ret_int (by rw [HE.out];exact HS.out),HB.out⟩
theorem tSize_any (enc lim:Int) (L:List Int) (w:World) (t:Nat) (ps:List PG) (h:Tx enc lim L w t ps):Calls Tryz.prog 43 #[.pointer (some ⟨t,0,none⟩)] w fun e w'=>e=.returned (.int .i64 (ln enc (asOf ps)))∧Below w.heap.size w w':=by
 obtain ⟨lv,u,⟨_,_,_,c3⟩,_,ht,_⟩:=h.cells
 have SM:=zh (Sum_any u (xsOf ps) w ht)
 have HS:=zh h.sum.2.1
 have FA:=field_size
 clear h ht
 go_enter Tryz.func43,Tryz.ntmps43
 go_wp2_with (go_at_call 37;refine SM.out.mono ?_;rintro e w1 ⟨s,HE,rfl,hb⟩;have HB:=zh hb;clear hb;(try dsimp only))
 go_ret
 exact ⟨ret_int (by rw [HE.out];exact HS.out),HB.out⟩
theorem Enc_any (enc lim:Int) (L:List Int) (w:World) (t:Nat) (ps:List PG) (h:Tx enc lim L w t ps):Calls Tryz.prog 42 #[.pointer (some ⟨t,0,none⟩)] w fun e w'=>e=.returned (.int .i64 enc)∧w'=w:=by
 obtain ⟨lv,u,⟨c0,_,_,_⟩,_,_,_⟩:=h.cells
 clear h
 go_enter Tryz.func42,Tryz.ntmps42
 go_wp2_with fail
 go_ret
 exact ⟨rfl,rfl⟩
theorem ret_two {x y x' y':Int} (h1:x=x') (h2:y=y'):Ending.returned (.tuple #[.int .i64 x,.int .i64 y])=.returned (.tuple #[.int .i64 x',.int .i64 y']):=by rw [h1,h2]
def clp (n:Nat) (a b:Int):Nat × Nat:=if max a 0 ≥ min b n then (0,0) else ((max a 0).toNat,(min b n).toNat)
theorem clp_le (n:Nat) (a b:Int):(clp n a b).1≤(clp n a b).2∧(clp n a b).2≤n:=by
 unfold clp
 split
 ·exact ⟨Nat.le_refl _,Nat.zero_le _⟩
 ·simp only;omega
theorem clip_any (enc lim:Int) (L:List Int) (w:World) (t:Nat) (ps:List PG) (a b:Int) (h:Tx enc lim L w t ps):Calls Tryz.prog 70 #[.pointer (some ⟨t,0,none⟩),.int .i64 a,.int .i64 b] w fun e w'=>e=.returned (.tuple #[.int .i64 (clp (sh enc ps).length a b).1,.int .i64 (clp (sh enc ps).length a b).2])∧Below w.heap.size w w':=by
 have LN:=zh (Len_any enc lim L w t ps h)
 clear h
 generalize (sh enc ps).length=n at *
 obtain ⟨a',ha⟩:∃ a',a'=max a 0:=⟨_,rfl⟩
 obtain ⟨b',hb⟩:∃ b',b'=min b (n:Int):=⟨_,rfl⟩
 by_cases hc:a' ≥ b'
 ·have HC:Hid (clp n a b=(0,0)):=by unfold Hid clp;rw [if_pos (by rw [← ha,← hb];exact hc)]
  rw [HC.out]
  have HA:=zh ha
  have HB:=zh hb
  go_enter Tryz.func70,Tryz.ntmps70
  go_wp2_with (go_at_call 34;refine LN.out.mono ?_;rintro e w1 ⟨rfl,hb1⟩;have HB1:=zh hb1;clear hb1;(try dsimp only))
  all_goals
   go_ret2
   exact ⟨rfl,HB1.out⟩
 ·have HC:Hid (clp n a b=(a'.toNat,b'.toNat)):=by unfold Hid clp;rw [if_neg (by rw [← ha,← hb];exact hc),ha,hb]
  rw [HC.out]
  go_enter Tryz.func70,Tryz.ntmps70
  go_wp2_with (go_at_call 34;refine LN.out.mono ?_;rintro e w1 ⟨rfl,hb1⟩;have HB1:=zh hb1;clear hb1;(try dsimp only))
  all_goals
   go_ret2
   exact ⟨ret_two (by omega) (by omega),HB1.out⟩
end Go.Proofs.YtdhciadajendnaaGreat.P
