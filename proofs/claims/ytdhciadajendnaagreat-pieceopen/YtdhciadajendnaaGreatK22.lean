import Derived.Test.YtdhciadajendnaaGreatK17
import Derived.Test.YtdhciadajendnaaGreatK04
set_option maxRecDepth 100000
namespace Go.Proofs.YtdhciadajendnaaGreat.P
open Go.RowKit
def SpI (enc:Int) (x:It) (zs:List Int) (w:World) (j:Nat) (wr:World):Prop:=BlkI wr w.heap.size x∧BlkI wr (w.heap.size + 1) It.zero∧BlkI wr (w.heap.size + 2) It.zero∧Blk 94 wr (w.heap.size + 3) (spn enc ((Cx.dec enc zs).take j))∧Below w.heap.size w wr
theorem SpI.ext {enc:Int} {x:It} {zs:List Int} {w wr w':World} {j:Nat} (h:SpI enc x zs w j wr) (hb:Below wr.heap.size wr w'):SpI enc x zs w j w':=⟨h.1.ext hb,h.2.1.ext hb,h.2.2.1.ext hb,h.2.2.2.1.ext hb,zxt h.2.2.2.2 hb⟩
theorem BlkI.other {w w':World} {g k:Nat} {x:It} (h:BlkI w g x) (hb:w.grownBy w' (some k)) (hk:g≠k):BlkI w' g x:=by unfold BlkI;rw [hb.block g h.lt (by simpa using hk)];exact h
theorem zero_ext {W W':World} (h:Below (W.alloc (.cells #[.slice none 0 0,.int .i64 0,.int .i64 0,.int .i64 0,.int .i64 0,.bool false,.bool false] 97)).heap.size (W.alloc (.cells #[.slice none 0 0,.int .i64 0,.int .i64 0,.int .i64 0,.int .i64 0,.bool false,.bool false] 97)) W'):BlkI W' W.heap.size It.zero:=BlkI.ext (w:=W.alloc (.cells #[.slice none 0 0,.int .i64 0,.int .i64 0,.int .i64 0,.int .i64 0,.bool false,.bool false] 97)) (heap_alloc_new _ _) h
theorem zero_ext_drew {W W':World} (h:Below ((W.alloc (.cells #[.slice none 0 0,.int .i64 0,.int .i64 0,.int .i64 0,.int .i64 0,.bool false,.bool false] 97)).drew).heap.size ((W.alloc (.cells #[.slice none 0 0,.int .i64 0,.int .i64 0,.int .i64 0,.int .i64 0,.bool false,.bool false] 97)).drew) W'):BlkI W' W.heap.size It.zero:=BlkI.ext (w:=(W.alloc (.cells #[.slice none 0 0,.int .i64 0,.int .i64 0,.int .i64 0,.int .i64 0,.bool false,.bool false] 97)).drew) (heap_alloc_new _ _) h
set_option maxHeartbeats 4000000 in
theorem split_any (enc:Int) (he:Cx.En enc) (x:It) (zs:List Int) (n:Nat) (w:World) (hR:Rd .u8 w (.slice x.p x.n x.c) zs) (hB:Byt zs) (hl:zs.length≤1152921504606846976) (hsp:x.sp=spn enc (Cx.dec enc zs)) (h0:0 < n) (hn:n < (Cx.dec enc zs).length) (hpl:-1≤x.pl) (hpl2:x.pl≤1152921504606846976) (b o:Nat) (hp:x.p=some ⟨b,o,none⟩) (hc:zs.length≤x.c) :
  Calls Tryz.prog 115 #[.agg #[.slice x.p x.n x.c,.int .i64 x.pl,.int .i64 x.sp.a,.int .i64 x.sp.s,.int .i64 x.sp.b,.bool x.sp.lf,.bool x.sp.cr],.int .i64 enc,.int .i64 n] w fun e w'=>∃ hd rs:It,e=.returned (.tuple #[.agg #[.slice hd.p hd.n hd.c,.int .i64 hd.pl,.int .i64 hd.sp.a,.int .i64 hd.sp.s,.int .i64 hd.sp.b,.bool hd.sp.lf,.bool hd.sp.cr],.agg #[.slice rs.p rs.n rs.c,.int .i64 rs.pl,.int .i64 rs.sp.a,.int .i64 rs.sp.s,.int .i64 rs.sp.b,.bool rs.sp.lf,.bool rs.sp.cr]]) ∧
   Hid (hd.p=x.p∧hd.n=off enc zs n∧hd.c=off enc zs n∧hd.pl=x.pl∧hd.sp=spn enc ((Cx.dec enc zs).take n)∧rs.p=some ⟨b,o + off enc zs n,none⟩∧rs.n=zs.length - off enc zs n∧rs.c=zs.length - off enc zs n∧rs.pl=tg x.pl (off enc zs n)∧rs.sp=spn enc ((Cx.dec enc zs).drop n))∧Below w.heap.size w w':=by
 have hxn:x.n=zs.length:=by obtain ⟨_,_,e,_⟩:=hR;simp only [Value.slice.injEq] at e;exact e.2.1
 obtain ⟨w0,hw0⟩:∃ w0,w0=(((w.alloc (.cells #[.slice x.p x.n x.c,.int .i64 x.pl,.int .i64 x.sp.a,.int .i64 x.sp.s,.int .i64 x.sp.b,.bool x.sp.lf,.bool x.sp.cr] 97)).alloc (.cells #[.slice none 0 0,.int .i64 0,.int .i64 0,.int .i64 0,.int .i64 0,.bool false,.bool false] 97)).alloc (.cells #[.slice none 0 0,.int .i64 0,.int .i64 0,.int .i64 0,.int .i64 0,.bool false,.bool false] 97)).alloc (.cells #[.int .i64 0,.int .i64 0,.int .i64 0,.bool false,.bool false] 94):=⟨_,rfl⟩
 have I0:Hid (SpI enc x zs w 0 w0):=by
  obtain ⟨v1,hv1⟩:∃ v,v=w.alloc (.cells #[.slice x.p x.n x.c,.int .i64 x.pl,.int .i64 x.sp.a,.int .i64 x.sp.s,.int .i64 x.sp.b,.bool x.sp.lf,.bool x.sp.cr] 97):=⟨_,rfl⟩
  obtain ⟨v2,hv2⟩:∃ v,v=v1.alloc (.cells #[.slice none 0 0,.int .i64 0,.int .i64 0,.int .i64 0,.int .i64 0,.bool false,.bool false] 97):=⟨_,rfl⟩
  obtain ⟨v3,hv3⟩:∃ v,v=v2.alloc (.cells #[.slice none 0 0,.int .i64 0,.int .i64 0,.int .i64 0,.int .i64 0,.bool false,.bool false] 97):=⟨_,rfl⟩
  rw [← hv1,← hv2,← hv3] at hw0
  have s1:v1.heap.size=w.heap.size + 1:=by rw [hv1];simp
  have s2:v2.heap.size=w.heap.size + 2:=by rw [hv2];simp [s1]
  have s3:v3.heap.size=w.heap.size + 3:=by rw [hv3];simp [s2]
  have b1:Below w.heap.size w v1:=by rw [hv1];exact zxa (Below.refl _ _) _
  have b2:Below v1.heap.size v1 v2:=by rw [hv2];exact zxa (Below.refl _ _) _
  have b3:Below v2.heap.size v2 v3:=by rw [hv3];exact zxa (Below.refl _ _) _
  have b4:Below v3.heap.size v3 w0:=by rw [hw0];exact zxa (Below.refl _ _) _
  have t1:BlkI v1 w.heap.size x:=by rw [hv1];exact heap_alloc_new _ _
  have t2:BlkI v2 (w.heap.size + 1) It.zero:=by rw [← s1,hv2];exact heap_alloc_new _ _
  have t3:BlkI v3 (w.heap.size + 2) It.zero:=by rw [← s2,hv3];exact heap_alloc_new _ _
  refine ⟨((t1.ext b2).ext b3).ext b4,(t2.ext b3).ext b4,t3.ext b4,?_,zxt (zxt (zxt b1 b2) b3) b4⟩
  rw [← s3,hw0];exact heap_alloc_new _ _
 have HC:Hid (∀ j wr w',SpI enc x zs w j wr→Below wr.heap.size wr w'→C7s w' w.heap.size x∧(w'.cell? ⟨w.heap.size + 3,0,none⟩=some (.int .i64 (spn enc ((Cx.dec enc zs).take j)).a)∧w'.cell? ⟨w.heap.size + 3,1,none⟩=some (.int .i64 (spn enc ((Cx.dec enc zs).take j)).s)∧w'.cell? ⟨w.heap.size + 3,2,none⟩=some (.int .i64 (spn enc ((Cx.dec enc zs).take j)).b)∧w'.cell? ⟨w.heap.size + 3,3,none⟩=some (.bool (spn enc ((Cx.dec enc zs).take j)).lf)∧w'.cell? ⟨w.heap.size + 3,4,none⟩=some (.bool (spn enc ((Cx.dec enc zs).take j)).cr))∧Rd .u8 w' (.slice x.p x.n x.c) zs):=fun j wr w' h hb=>by
  obtain ⟨i1,i2,i3,i4,i5⟩:=h.ext hb
  exact ⟨i1.cells.1,i4.cells.1,hR.ext i5⟩
 have ST:=zh (off_step enc he zs hB)
 have HLE:=zh (off_le enc he zs hB)
 have HBY:=zh hB
 have HEN:=zh he
 have HSP:=zh hsp
 have HFI:=zh (Cx.back_all enc he _ zs (Nat.le_refl _) hB).2
 have hne0:¬ (n:Int)=0:=by omega
 have hne0':((n:Int) == 0)=false:=by simp;omega
 have hdl:(Cx.dec enc zs).length≤zs.length:=Cx.dec_len enc _ _
 have HXN:=zh hxn
 have HPP:=zh hp
 clear hB he hsp hR hxn hp
 go_enter Tryz.func115,Tryz.ntmps115
 go_upto_region 4 with fail
 rw [← hw0]
 clear hw0
 go_upto_block 0 with fail
 go_cut [] from 18 to 32 (fun wF=>Hid (SpI enc x zs w n wF))
 case first =>
  go_wp2_with fail
  go_loopg [19] n (fun gk p wr=>∃ j:Nat,j + gk=n∧p=.int .i64 (j:Nat)∧Hid (SpI enc x zs w j wr))
  case atStart=>exact ⟨0,by omega,rfl,I0.out⟩
  case round =>
   obtain ⟨j,hj,rfl,HI⟩:=hrel
   by_cases hi:j < n
   case neg =>
    have hi':¬ (j:Int) < (n:Int):=by omega
    obtain rfl:j=n:=by omega
    go_wp2_with fail
    go_meet
    case rel=>exact HI.out
   have hi':(j:Int) < (n:Int):=by omega
   obtain ⟨q1,q,sz,hf,hq,ho,hs1,hfit,hsz⟩:=ST.out j (by omega)
   have hle:=HLE.out (j + 1) (by omega)
   have hss:(spn enc ((Cx.dec enc zs).take j)).s=(off enc zs j:Nat):=(spn_as enc _ (fun a ha=>HFI.out a (List.mem_of_mem_take ha))).2
   have NX:Hid (∀ w',Below wr.heap.size wr w'→Calls Tryz.prog 33 #[.int .i64 enc,.slice x.p x.n x.c,.int .i64 (spn enc ((Cx.dec enc zs).take j)).s] w' fun e w''=>e=.returned (.tuple #[.int .i64 q,.int .i64 sz])∧Below w'.heap.size w' w''):=fun w' hb=>by
    rw [hss]
    have:=Next_any enc HEN.out _ zs (off enc zs j) w' (HC.out j wr w' HI.out hb).2.2 HBY.out q1
    rw [hf] at this
    exact this
   have SG:Hid (∀ w',Calls Tryz.prog 78 #[.int .i64 q,.int .i64 sz] w' fun e w''=>e=.returned (.agg #[.int .i64 (sg q sz).a,.int .i64 (sg q sz).s,.int .i64 (sg q sz).b,.bool (sg q sz).lf,.bool (sg q sz).cr])∧Below w'.heap.size w' w''):=fun w'=>single_any q sz w'
   have et:(Cx.dec enc zs).take (j + 1)=(Cx.dec enc zs).take j ++ [q]:=by rw [List.take_add_one,hq];rfl
   have AD:Hid (∀ w',Calls Tryz.prog 77 #[.agg #[.int .i64 (spn enc ((Cx.dec enc zs).take j)).a,.int .i64 (spn enc ((Cx.dec enc zs).take j)).s,.int .i64 (spn enc ((Cx.dec enc zs).take j)).b,.bool (spn enc ((Cx.dec enc zs).take j)).lf,.bool (spn enc ((Cx.dec enc zs).take j)).cr],.agg #[.int .i64 (sg q sz).a,.int .i64 (sg q sz).s,.int .i64 (sg q sz).b,.bool (sg q sz).lf,.bool (sg q sz).cr]] w' fun e w''=>∃ r,Hid (r=spn enc ((Cx.dec enc zs).take (j + 1)))∧e=.returned (.agg #[.int .i64 r.a,.int .i64 r.s,.int .i64 r.b,.bool r.lf,.bool r.cr])∧Below w'.heap.size w' w''):=fun w'=>by
    have k1:=spn_ok enc ((Cx.dec enc zs).take j)
    have k2:=sg_ok q sz (by omega)
    have k3:=spn_as enc ((Cx.dec enc zs).take j) (fun a ha=>HFI.out a (List.mem_of_mem_take ha))
    have k4:((Cx.dec enc zs).take j).length≤j:=by rw [List.length_take];omega
    have k5:(Cx.dec enc zs).length≤zs.length:=Cx.dec_len enc _ _
    have k6:(spn enc ((Cx.dec enc zs).take j)).b≤((Cx.dec enc zs).take j).length:=spn_b enc _
    have k7:(sg q sz).a=1:=rfl
    have k8:(sg q sz).s=sz:=rfl
    have k9:(sg q sz).b≤1:=by unfold sg;simp only;split <;> omega
    refine (Add_any _ _ w' k1.a0 k2.a0 k1.s0 k2.s0 k1.b0 k2.b0 (by omega) (by omega) (by omega)).mono fun e w'' ⟨r,h1,h2,h3⟩=>⟨r,?_,h2,h3⟩
    unfold Hid
    rw [h1.out,et,spn_snoc,hsz]
   have HP:Hid (∀ w',Below wr.heap.size wr w'→w'.cell? ⟨w.heap.size,0,none⟩=some (.slice x.p x.n x.c)∧(w'.cell? ⟨w.heap.size + 3,0,none⟩=some (.int .i64 (spn enc ((Cx.dec enc zs).take j)).a)∧w'.cell? ⟨w.heap.size + 3,1,none⟩=some (.int .i64 (spn enc ((Cx.dec enc zs).take j)).s)∧w'.cell? ⟨w.heap.size + 3,2,none⟩=some (.int .i64 (spn enc ((Cx.dec enc zs).take j)).b)∧w'.cell? ⟨w.heap.size + 3,3,none⟩=some (.bool (spn enc ((Cx.dec enc zs).take j)).lf)∧w'.cell? ⟨w.heap.size + 3,4,none⟩=some (.bool (spn enc ((Cx.dec enc zs).take j)).cr))):=fun w' hb=>by
    obtain ⟨i1,i2,i3⟩:=HC.out j wr w' HI.out hb
    exact ⟨i1.1,i2⟩
   have HZF:Hid (∀ w',Below wr.heap.size wr w'→∀ i,w'.frozen? ⟨w.heap.size + 3,i,none⟩=false):=fun w' hb=>(HI.out.ext hb).2.2.2.1.cells.2.2.2.2
   have hzx:w.heap.size + 3 < wr.heap.size:=HI.out.2.2.2.1.lt
   have HNB:Hid (¬ w.heap.size=w.heap.size + 3):=by unfold Hid;omega
   have FIN:Hid (∀ w' r,Below wr.heap.size wr w'→r=spn enc ((Cx.dec enc zs).take (j + 1))→SpI enc x zs w (j + 1) (((((w'.setCell ⟨w.heap.size + 3,0,none⟩ (.int .i64 r.a)).setCell ⟨w.heap.size + 3,1,none⟩ (.int .i64 r.s)).setCell ⟨w.heap.size + 3,2,none⟩ (.int .i64 r.b)).setCell ⟨w.heap.size + 3,3,none⟩ (.bool r.lf)).setCell ⟨w.heap.size + 3,4,none⟩ (.bool r.cr))):=fun w' r hb hr=>by
    subst hr
    obtain ⟨i1,i2,i3,i4,i5⟩:=HI.out.ext hb
    obtain ⟨p1,p2⟩:=i4.put (spn enc ((Cx.dec enc zs).take (j + 1)))
    exact ⟨i1.other p2 (by omega),i2.other p2 (by omega),i3.other p2 (by omega),p1,zbp i5 i5.size p2 (by omega)⟩
   obtain ⟨c0,z0⟩:=HP.out wr (Below.refl _ _)
   clear hf hq ho hle hss hfit hsz et q1
   generalize spn enc ((Cx.dec enc zs).take j)=sd at NX AD HP c0 z0
   go_upto_block 1 with fail
   go_cut [] from 21 to 31 (fun wF=>Hid (SpI enc x zs w (j + 1) wF))
   case first =>
    go_upto_region 6 with fail
    refine wp_region_held_drew (S:=fun w''=>w''.cell? ⟨w.heap.size,0,none⟩=some (.slice x.p x.n x.c)) (by kernel_rfl) (by first | exact c0 | (dsimp only;go_keep)) (fun _=>?_)
    refine tkH 1 rfl ?_
    refine tkH 2 rfl ?_
    refine tkH 3 rfl ?_
    refine tkH 4 rfl ?_
    refine wpAnyH_ready (rs:=[0,5]) (by kernel_rfl) (by simp) ?_
    refine AllReadyH.cons (o:=_) rfl (fun K hK=>?_) ?_
    ·go_simp
     refine hK.out _ _ (c0) (fun _=>?_)
     clear hK K
     try simp only [Act.put,tS]
     refine rdH 5 rfl fun K hK=>?_
     go_simp
     refine hK.out _ _ (c0) (fun _=>?_)
     clear hK K
     try simp only [Act.put,tS]
     refine rdH 6 rfl fun K hK=>?_
     go_simp
     refine (NX.out _ (by repeat (first | exact HB5.out | exact HB4.out | exact HB3.out | exact Below.refl _ _ | apply Below.drew | refine zxa ?_ _))).mono ?_;clear c0 z0;rintro e w3 ⟨rfl,hb⟩;have HB3:Hid (Below wr.heap.size wr w3):=zxt (by repeat (first | exact HB5.out | exact HB4.out | exact HB3.out | exact Below.refl _ _ | apply Below.drew | refine zxa ?_ _)) hb;obtain ⟨c0,z0⟩:=HP.out w3 HB3.out;clear hb;try go_wp2_with fail
     refine hK.out _ _ (c0) (fun _=>?_)
     clear hK K
     try simp only [Act.put,tS]
     refine tkH 7 rfl ?_
     refine tkH 8 rfl ?_
     refine rdH 9 rfl fun K hK=>?_
     go_simp
     refine (SG.out _).mono ?_;clear c0 z0;rintro e w4 ⟨rfl,hb⟩;have HB4:Hid (Below wr.heap.size wr w4):=zxt (by repeat (first | exact HB5.out | exact HB4.out | exact HB3.out | exact Below.refl _ _ | apply Below.drew | refine zxa ?_ _)) hb;obtain ⟨c0,z0⟩:=HP.out w4 HB4.out;clear hb;try go_wp2_with fail
     refine hK.out _ _ (c0) (fun _=>?_)
     clear hK K
     try simp only [Act.put,tS]
     refine rdH 10 rfl fun K hK=>?_
     go_simp
     refine (AD.out _).mono ?_;clear c0 z0;rintro e w5 ⟨q5,HQ5,rfl,hb⟩;have HB5:Hid (Below wr.heap.size wr w5):=zxt (by repeat (first | exact HB5.out | exact HB4.out | exact HB3.out | exact Below.refl _ _ | apply Below.drew | refine zxa ?_ _)) hb;obtain ⟨c0,z0⟩:=HP.out w5 HB5.out;have zf:=HZF.out w5 HB5.out;have hz5:w.heap.size + 3 < w5.heap.size:=Nat.lt_of_lt_of_le hzx HB5.out.size;clear hb;try go_wp2_with fail
     refine hK.out _ _ (c0) (fun _=>?_)
     clear hK K
     try simp only [Act.put,tS]
     refine rdH 11 rfl fun K hK=>?_
     go_simp
     refine hK.out _ _ (by simp only [zcs HNB.out];exact c0) (fun _=>?_)
     clear hK K
     try simp only [Act.put,tS]
     refine dnH ?_
     go_wp2_with fail
     go_meet
     case rel=>exact FIN.out w5 q5 HB5.out HQ5.out
    refine AllReadyH.cons (o:=_) rfl (fun K hK=>?_) AllReadyH.nil
    go_simp
    refine hK.out _ _ (c0) (fun _=>?_)
    clear hK K
    try simp only [Act.put,tS]
    refine wpAnyH_ready (rs:=[0,6]) (by kernel_rfl) (by simp) ?_
    refine AllReadyH.cons (o:=_) rfl (fun K hK=>?_) ?_
    ·go_simp
     refine hK.out _ _ (c0) (fun _=>?_)
     clear hK K
     try simp only [Act.put,tS]
     refine rdH 6 rfl fun K hK=>?_
     go_simp
     refine (NX.out _ (by repeat (first | exact HB5.out | exact HB4.out | exact HB3.out | exact Below.refl _ _ | apply Below.drew | refine zxa ?_ _))).mono ?_;clear c0 z0;rintro e w3 ⟨rfl,hb⟩;have HB3:Hid (Below wr.heap.size wr w3):=zxt (by repeat (first | exact HB5.out | exact HB4.out | exact HB3.out | exact Below.refl _ _ | apply Below.drew | refine zxa ?_ _)) hb;obtain ⟨c0,z0⟩:=HP.out w3 HB3.out;clear hb;try go_wp2_with fail
     refine hK.out _ _ (c0) (fun _=>?_)
     clear hK K
     try simp only [Act.put,tS]
     refine tkH 7 rfl ?_
     refine tkH 8 rfl ?_
     refine rdH 9 rfl fun K hK=>?_
     go_simp
     refine (SG.out _).mono ?_;clear c0 z0;rintro e w4 ⟨rfl,hb⟩;have HB4:Hid (Below wr.heap.size wr w4):=zxt (by repeat (first | exact HB5.out | exact HB4.out | exact HB3.out | exact Below.refl _ _ | apply Below.drew | refine zxa ?_ _)) hb;obtain ⟨c0,z0⟩:=HP.out w4 HB4.out;clear hb;try go_wp2_with fail
     refine hK.out _ _ (c0) (fun _=>?_)
     clear hK K
     try simp only [Act.put,tS]
     refine rdH 10 rfl fun K hK=>?_
     go_simp
     refine (AD.out _).mono ?_;clear c0 z0;rintro e w5 ⟨q5,HQ5,rfl,hb⟩;have HB5:Hid (Below wr.heap.size wr w5):=zxt (by repeat (first | exact HB5.out | exact HB4.out | exact HB3.out | exact Below.refl _ _ | apply Below.drew | refine zxa ?_ _)) hb;obtain ⟨c0,z0⟩:=HP.out w5 HB5.out;have zf:=HZF.out w5 HB5.out;have hz5:w.heap.size + 3 < w5.heap.size:=Nat.lt_of_lt_of_le hzx HB5.out.size;clear hb;try go_wp2_with fail
     refine hK.out _ _ (c0) (fun _=>?_)
     clear hK K
     try simp only [Act.put,tS]
     refine rdH 11 rfl fun K hK=>?_
     go_simp
     refine hK.out _ _ (by simp only [zcs HNB.out];exact c0) (fun _=>?_)
     clear hK K
     try simp only [Act.put,tS]
     refine dnH ?_
     go_wp2_with fail
     go_meet
     case rel=>exact FIN.out w5 q5 HB5.out HQ5.out
    refine AllReadyH.cons (o:=_) rfl (fun K hK=>?_) AllReadyH.nil
    go_simp
    refine (NX.out _ (by repeat (first | exact HB5.out | exact HB4.out | exact HB3.out | exact Below.refl _ _ | apply Below.drew | refine zxa ?_ _))).mono ?_;clear c0 z0;rintro e w3 ⟨rfl,hb⟩;have HB3:Hid (Below wr.heap.size wr w3):=zxt (by repeat (first | exact HB5.out | exact HB4.out | exact HB3.out | exact Below.refl _ _ | apply Below.drew | refine zxa ?_ _)) hb;obtain ⟨c0,z0⟩:=HP.out w3 HB3.out;clear hb;try go_wp2_with fail
    refine hK.out _ _ (c0) (fun _=>?_)
    clear hK K
    try simp only [Act.put,tS]
    refine tkH 7 rfl ?_
    refine tkH 8 rfl ?_
    refine wpAnyH_ready (rs:=[0,9]) (by kernel_rfl) (by simp) ?_
    refine AllReadyH.cons (o:=_) rfl (fun K hK=>?_) ?_
    ·go_simp
     refine hK.out _ _ (c0) (fun _=>?_)
     clear hK K
     try simp only [Act.put,tS]
     refine rdH 9 rfl fun K hK=>?_
     go_simp
     refine (SG.out _).mono ?_;clear c0 z0;rintro e w4 ⟨rfl,hb⟩;have HB4:Hid (Below wr.heap.size wr w4):=zxt (by repeat (first | exact HB5.out | exact HB4.out | exact HB3.out | exact Below.refl _ _ | apply Below.drew | refine zxa ?_ _)) hb;obtain ⟨c0,z0⟩:=HP.out w4 HB4.out;clear hb;try go_wp2_with fail
     refine hK.out _ _ (c0) (fun _=>?_)
     clear hK K
     try simp only [Act.put,tS]
     refine rdH 10 rfl fun K hK=>?_
     go_simp
     refine (AD.out _).mono ?_;clear c0 z0;rintro e w5 ⟨q5,HQ5,rfl,hb⟩;have HB5:Hid (Below wr.heap.size wr w5):=zxt (by repeat (first | exact HB5.out | exact HB4.out | exact HB3.out | exact Below.refl _ _ | apply Below.drew | refine zxa ?_ _)) hb;obtain ⟨c0,z0⟩:=HP.out w5 HB5.out;have zf:=HZF.out w5 HB5.out;have hz5:w.heap.size + 3 < w5.heap.size:=Nat.lt_of_lt_of_le hzx HB5.out.size;clear hb;try go_wp2_with fail
     refine hK.out _ _ (c0) (fun _=>?_)
     clear hK K
     try simp only [Act.put,tS]
     refine rdH 11 rfl fun K hK=>?_
     go_simp
     refine hK.out _ _ (by simp only [zcs HNB.out];exact c0) (fun _=>?_)
     clear hK K
     try simp only [Act.put,tS]
     refine dnH ?_
     go_wp2_with fail
     go_meet
     case rel=>exact FIN.out w5 q5 HB5.out HQ5.out
    refine AllReadyH.cons (o:=_) rfl (fun K hK=>?_) AllReadyH.nil
    go_simp
    refine (SG.out _).mono ?_;clear c0 z0;rintro e w4 ⟨rfl,hb⟩;have HB4:Hid (Below wr.heap.size wr w4):=zxt (by repeat (first | exact HB5.out | exact HB4.out | exact HB3.out | exact Below.refl _ _ | apply Below.drew | refine zxa ?_ _)) hb;obtain ⟨c0,z0⟩:=HP.out w4 HB4.out;clear hb;try go_wp2_with fail
    refine hK.out _ _ (c0) (fun _=>?_)
    clear hK K
    try simp only [Act.put,tS]
    refine rdH 0 rfl fun K hK=>?_
    go_simp
    refine hK.out _ _ (c0) (fun _=>?_)
    clear hK K
    try simp only [Act.put,tS]
    refine rdH 10 rfl fun K hK=>?_
    go_simp
    refine (AD.out _).mono ?_;clear c0 z0;rintro e w5 ⟨q5,HQ5,rfl,hb⟩;have HB5:Hid (Below wr.heap.size wr w5):=zxt (by repeat (first | exact HB5.out | exact HB4.out | exact HB3.out | exact Below.refl _ _ | apply Below.drew | refine zxa ?_ _)) hb;obtain ⟨c0,z0⟩:=HP.out w5 HB5.out;have zf:=HZF.out w5 HB5.out;have hz5:w.heap.size + 3 < w5.heap.size:=Nat.lt_of_lt_of_le hzx HB5.out.size;clear hb;try go_wp2_with fail
    refine hK.out _ _ (c0) (fun _=>?_)
    clear hK K
    try simp only [Act.put,tS]
    refine rdH 11 rfl fun K hK=>?_
    go_simp
    refine hK.out _ _ (by simp only [zcs HNB.out];exact c0) (fun _=>?_)
    clear hK K
    try simp only [Act.put,tS]
    refine dnH ?_
    go_wp2_with fail
    go_meet
    case rel=>exact FIN.out w5 q5 HB5.out HQ5.out
   have HJ:=zh hcut.out
   generalize hwc:wc=wb at *
   clear hwc hcut
   go_wp2_with fail
   go_roundg (n - (j + 1))
   case rel=>exact ⟨j + 1,by omega,by go_num,HJ.out⟩
   case measure=>omega
 have HE:=zh hcut.out
 generalize hwc:wc=wl at *
 clear hwc hcut I0
 obtain ⟨q1,y,sy,hf,hq,ho,hs1,hfit,hsz⟩:=ST.out n hn
 have hle:=HLE.out n (by omega)
 have hss:(spn enc ((Cx.dec enc zs).take n)).s=(off enc zs n:Nat):=(spn_as enc _ (fun a ha=>HFI.out a (List.mem_of_mem_take ha))).2
 have hed:(Cx.dec enc zs).drop n=y :: (Cx.dec enc zs).drop (n + 1):=by
  have h1:n < (Cx.dec enc zs).length:=hn
  rw [List.drop_eq_getElem_cons h1]
  rw [List.getElem?_eq_getElem h1,Option.some.injEq] at hq
  rw [hq]
 have hbh:bhd x.sp (spn enc ((Cx.dec enc zs).take n)) y=spn enc ((Cx.dec enc zs).drop n):=by
  rw [HSP.out,hed,← bhd_spn enc ((Cx.dec enc zs).take n) y ((Cx.dec enc zs).drop (n + 1)) (by
   intro e
   have:=congrArg List.length e
   rw [List.length_take,List.length_nil] at this
   omega),← hed,List.take_append_drop]
 have KX:=zh (spn_as enc (Cx.dec enc zs) HFI.out)
 have KB:=zh (spn_b enc (Cx.dec enc zs))
 have KH:=zh (spn_as enc ((Cx.dec enc zs).take n) (fun a ha=>HFI.out a (List.mem_of_mem_take ha)))
 have KHO:=zh (spn_ok enc ((Cx.dec enc zs).take n))
 have KHB:=zh (spn_b enc ((Cx.dec enc zs).take n))
 have KRO:=zh (spn_ok enc ((Cx.dec enc zs).drop n))
 have hbs:-1≤x.sp.b - (spn enc ((Cx.dec enc zs).take n)).b:=by
  have e:=congrArg Rs.b hbh
  have k:=(spn_ok enc ((Cx.dec enc zs).drop n)).b0
  unfold bhd at e
  simp only at e
  split at e <;> omega
 have NX:Hid (∀ w',Below wl.heap.size wl w'→Calls Tryz.prog 33 #[.int .i64 enc,.slice (some ⟨b,o,none⟩) zs.length x.c,.int .i64 (off enc zs n:Nat)] w' fun e w''=>e=.returned (.tuple #[.int .i64 y,.int .i64 sy])∧Below w'.heap.size w' w''):=fun w' hb=>by
  have:=Next_any enc HEN.out _ zs (off enc zs n) w' (HC.out n wl w' HE.out hb).2.2 HBY.out q1
  rw [hf,HPP.out,HXN.out] at this
  exact this
 have TG:Hid (∀ w',Calls Tryz.prog 107 #[.agg #[.slice (some ⟨b,o,none⟩) zs.length x.c,.int .i64 x.pl,.int .i64 x.sp.a,.int .i64 x.sp.s,.int .i64 x.sp.b,.bool x.sp.lf,.bool x.sp.cr],.int .i64 (off enc zs n:Nat)] w' fun e w''=>e=.returned (.int .i64 (tg x.pl (off enc zs n:Nat)))∧Below w'.heap.size w' w''):=fun w'=>by
  have:=tag_any x (off enc zs n:Nat) w' hpl (by omega) (by omega)
  rw [HPP.out,HXN.out] at this
  exact this
 have BH:Hid (∀ w',Calls Tryz.prog 134 #[.agg #[.int .i64 x.sp.a,.int .i64 x.sp.s,.int .i64 x.sp.b,.bool x.sp.lf,.bool x.sp.cr],.agg #[.int .i64 (spn enc ((Cx.dec enc zs).take n)).a,.int .i64 (spn enc ((Cx.dec enc zs).take n)).s,.int .i64 (spn enc ((Cx.dec enc zs).take n)).b,.bool (spn enc ((Cx.dec enc zs).take n)).lf,.bool (spn enc ((Cx.dec enc zs).take n)).cr],.int .i64 y] w' fun e w''=>e=.returned (.agg #[.int .i64 (spn enc ((Cx.dec enc zs).drop n)).a,.int .i64 (spn enc ((Cx.dec enc zs).drop n)).s,.int .i64 (spn enc ((Cx.dec enc zs).drop n)).b,.bool (spn enc ((Cx.dec enc zs).drop n)).lf,.bool (spn enc ((Cx.dec enc zs).drop n)).cr])∧Below w'.heap.size w' w''):=fun w'=>by
  have k1:=KX.out
  have k2:=KB.out
  have k3:=KH.out
  have k4:=KHO.out
  have k5:=KHB.out
  have k6:((Cx.dec enc zs).take n).length≤n:=by rw [List.length_take];omega
  have k7:(Cx.encB enc ((Cx.dec enc zs).take n)).length=off enc zs n:=rfl
  have k8:Cx.encB enc (Cx.dec enc zs)=zs:=(Cx.back_all enc HEN.out _ zs (Nat.le_refl _) HBY.out).1
  have k9:=HSP.out
  rw [k8] at k1
  rw [← k9] at k1 k2
  have:=behind_any x.sp (spn enc ((Cx.dec enc zs).take n)) y w' ⟨by omega,by omega,k4.a0⟩ ⟨by omega,by omega,k4.s0⟩ ⟨hbs,by omega,k4.b0⟩
  rw [hbh] at this
  exact this
 have HP2:Hid (∀ w',Below wl.heap.size wl w'→(w'.cell? ⟨w.heap.size,0,none⟩=some (.slice (some ⟨b,o,none⟩) zs.length x.c)∧w'.cell? ⟨w.heap.size,1,none⟩=some (.int .i64 x.pl)∧(w'.cell? ⟨w.heap.size,2,none⟩=some (.int .i64 x.sp.a)∧w'.cell? ⟨w.heap.size,3,none⟩=some (.int .i64 x.sp.s)∧w'.cell? ⟨w.heap.size,4,none⟩=some (.int .i64 x.sp.b)∧w'.cell? ⟨w.heap.size,5,none⟩=some (.bool x.sp.lf)∧w'.cell? ⟨w.heap.size,6,none⟩=some (.bool x.sp.cr)))∧(w'.cell? ⟨w.heap.size + 3,0,none⟩=some (.int .i64 (spn enc ((Cx.dec enc zs).take n)).a)∧w'.cell? ⟨w.heap.size + 3,1,none⟩=some (.int .i64 (spn enc ((Cx.dec enc zs).take n)).s)∧w'.cell? ⟨w.heap.size + 3,2,none⟩=some (.int .i64 (spn enc ((Cx.dec enc zs).take n)).b)∧w'.cell? ⟨w.heap.size + 3,3,none⟩=some (.bool (spn enc ((Cx.dec enc zs).take n)).lf)∧w'.cell? ⟨w.heap.size + 3,4,none⟩=some (.bool (spn enc ((Cx.dec enc zs).take n)).cr))):=fun w' hb=>by
  obtain ⟨⟨e0,e1,e2⟩,i2,_⟩:=HC.out n wl w' HE.out hb
  rw [HPP.out,HXN.out] at e0
  exact ⟨⟨e0,e1,e2⟩,i2⟩
 have HHD:Hid (∃ hd:It,hd.p=some ⟨b,o,none⟩∧hd.n=off enc zs n∧hd.c=off enc zs n∧hd.pl=x.pl∧hd.sp=spn enc ((Cx.dec enc zs).take n)):=⟨⟨some ⟨b,o,none⟩,off enc zs n,off enc zs n,x.pl,spn enc ((Cx.dec enc zs).take n),KHO.out⟩,rfl,rfl,rfl,rfl,rfl⟩
 have HRS:Hid (∃ rs:It,rs.p=some ⟨b,o + off enc zs n,none⟩∧rs.n=zs.length - off enc zs n∧rs.c=zs.length - off enc zs n∧rs.pl=tg x.pl (off enc zs n:Nat)∧rs.sp=spn enc ((Cx.dec enc zs).drop n)):=⟨⟨some ⟨b,o + off enc zs n,none⟩,zs.length - off enc zs n,zs.length - off enc zs n,tg x.pl (off enc zs n:Nat),spn enc ((Cx.dec enc zs).drop n),KRO.out⟩,rfl,rfl,rfl,rfl,rfl⟩
 clear hf hq ho hfit hsz hed hbh hbs KX KB KH KHB ST HLE HFI
 obtain ⟨hd,hd1,hd2,hd3,hd4,hd5⟩:=HHD.out
 obtain ⟨rs,rs1,rs2,rs3,rs4,rs5⟩:=HRS.out
 have HHD2:=zh (show hd.p=some ⟨b,o,none⟩∧hd.n=off enc zs n∧hd.c=off enc zs n∧hd.pl=x.pl∧hd.sp=spn enc ((Cx.dec enc zs).take n) from ⟨hd1,hd2,hd3,hd4,hd5⟩)
 have HRS2:=zh (show rs.p=some ⟨b,o + off enc zs n,none⟩∧rs.n=zs.length - off enc zs n∧rs.c=zs.length - off enc zs n∧rs.pl=tg x.pl (off enc zs n:Nat)∧rs.sp=spn enc ((Cx.dec enc zs).drop n) from ⟨rs1,rs2,rs3,rs4,rs5⟩)
 clear HHD HRS hd1 hd2 hd3 hd4 hd5 rs1 rs2 rs3 rs4 rs5
 generalize hsd:spn enc ((Cx.dec enc zs).take n)=sd at BH HP2 hss HHD2
 generalize hsr:spn enc ((Cx.dec enc zs).drop n)=sr at BH HRS2 KRO
 generalize hk:off enc zs n=k at *
 obtain ⟨sa,ss,sb,sf,scr⟩:=sd
 simp only at hss HP2 BH
 subst hss
 obtain ⟨⟨e0,e1,e2⟩,z0⟩:=HP2.out wl (Below.refl _ _)
 have k1:(0:Int)≤(k:Int):=by omega
 have k2:(k:Int)≤(x.c:Int):=by omega
 have k3:(k:Int)≤(zs.length:Int):=by omega
 have k4:(zs.length:Int)≤(x.c:Int):=by omega
 go_upto_region 10 with (go_at_call 33;refine (NX.out _ (Below.refl _ _)).mono ?_;clear e0 e1 e2 z0;rintro e w3 ⟨rfl,hb3⟩;have HB3:Hid (Below wl.heap.size wl w3):=hb3;obtain ⟨⟨e0,e1,e2⟩,z0⟩:=HP2.out w3 HB3.out;clear hb3)
 go_cut [12] from 43 to 51 (fun p wF=>∃ tb:Nat,p=.pointer (some ⟨tb,0,none⟩)∧Hid (wF.heap[tb]?=some (.cells #[.slice (some ⟨b,o,none⟩) k k,.int .i64 x.pl,.int .i64 sa,.int .i64 (k:Nat),.int .i64 sb,.bool sf,.bool scr] 97 (0,0))∧Below wl.heap.size wl wF∧wl.heap.size≤tb))
 case first =>
  go_region_held3 (fun w'=>(w'.cell? ⟨w.heap.size,0,none⟩=some (.slice (some ⟨b,o,none⟩) zs.length x.c)∧w'.cell? ⟨w.heap.size,1,none⟩=some (.int .i64 x.pl)∧(w'.cell? ⟨w.heap.size,2,none⟩=some (.int .i64 x.sp.a)∧w'.cell? ⟨w.heap.size,3,none⟩=some (.int .i64 x.sp.s)∧w'.cell? ⟨w.heap.size,4,none⟩=some (.int .i64 x.sp.b)∧w'.cell? ⟨w.heap.size,5,none⟩=some (.bool x.sp.lf)∧w'.cell? ⟨w.heap.size,6,none⟩=some (.bool x.sp.cr)))∧(w'.cell? ⟨w.heap.size + 3,0,none⟩=some (.int .i64 sa)∧w'.cell? ⟨w.heap.size + 3,1,none⟩=some (.int .i64 (k:Nat))∧w'.cell? ⟨w.heap.size + 3,2,none⟩=some (.int .i64 sb)∧w'.cell? ⟨w.heap.size + 3,3,none⟩=some (.bool sf)∧w'.cell? ⟨w.heap.size + 3,4,none⟩=some (.bool scr))) (first | exact HP2.out _ (by repeat (first | exact HB3.out | exact Below.refl _ _ | apply Below.drew | refine zxa ?_ _ | refine Below.setCell ?_ (by first | exact Nat.le_refl _ | exact HB3.out.size) _)) | go_keep) (fail)
  all_goals
   go_wp2_with fail
   go_meet
   case rel=>exact ⟨_,rfl,heap_alloc_new _ _,(zxa HB3.out _).drew,HB3.out.size⟩
 obtain ⟨t12,rfl,H12⟩:=hcut
 generalize hwc:wc=wa at *
 clear hwc e0 e1 e2 z0 NX
 obtain ⟨⟨e0,e1,e2⟩,z0⟩:=HP2.out wa H12.out.2.1
 have k5:((zs.length:Int) - (k:Int)).toNat=zs.length - k:=by omega
 have k6:¬ zs.length=k:=by omega
 obtain ⟨rr,hrr⟩:∃ rr:It,rr=⟨some ⟨b,o + k,none⟩,zs.length - k,zs.length - k,tg x.pl (k:Nat),sr,KRO.out⟩:=⟨_,rfl⟩
 have hza:w.heap.size + 3 < wa.heap.size:=Nat.lt_of_lt_of_le HE.out.2.2.2.1.lt H12.out.2.1.size
 have na1:¬ w.heap.size=wa.heap.size:=by omega
 have na2:¬ w.heap.size + 3=wa.heap.size:=by omega
 go_upto_region 11 with fail
 go_cut [13] from 52 to 70 (fun p wF=>∃ tb:Nat,p=.pointer (some ⟨tb,0,none⟩)∧Hid (wF.heap[tb]?=some (.cells #[.slice (some ⟨b,o + k,none⟩) (zs.length - k) (zs.length - k),.int .i64 (tg x.pl (k:Nat)),.int .i64 sr.a,.int .i64 sr.s,.int .i64 sr.b,.bool sr.lf,.bool sr.cr] 97 (0,0))∧Below wa.heap.size wa wF∧wa.heap.size≤tb))
 case first =>
  go_region_held3 (fun w'=>(w'.cell? ⟨w.heap.size,0,none⟩=some (.slice (some ⟨b,o,none⟩) zs.length x.c)∧w'.cell? ⟨w.heap.size,1,none⟩=some (.int .i64 x.pl)∧(w'.cell? ⟨w.heap.size,2,none⟩=some (.int .i64 x.sp.a)∧w'.cell? ⟨w.heap.size,3,none⟩=some (.int .i64 x.sp.s)∧w'.cell? ⟨w.heap.size,4,none⟩=some (.int .i64 x.sp.b)∧w'.cell? ⟨w.heap.size,5,none⟩=some (.bool x.sp.lf)∧w'.cell? ⟨w.heap.size,6,none⟩=some (.bool x.sp.cr)))∧(w'.cell? ⟨w.heap.size + 3,0,none⟩=some (.int .i64 sa)∧w'.cell? ⟨w.heap.size + 3,1,none⟩=some (.int .i64 (k:Nat))∧w'.cell? ⟨w.heap.size + 3,2,none⟩=some (.int .i64 sb)∧w'.cell? ⟨w.heap.size + 3,3,none⟩=some (.bool sf)∧w'.cell? ⟨w.heap.size + 3,4,none⟩=some (.bool scr))) (first | (simp only [zcs na1,zcs na2];exact ⟨⟨e0,e1,e2⟩,z0⟩) | (simp only [zcs n51,zcs n52];exact ⟨⟨e0,e1,e2⟩,z0⟩) | (simp only [zcs n61,zcs n62];exact ⟨⟨e0,e1,e2⟩,z0⟩) | exact HP2.out _ (zxt H12.out.2.1 (by repeat (first | apply Below.drew | refine zxa ?_ _ | exact HB6.out | exact HB5.out | exact Below.refl _ _))) | go_keep) (first
   | (go_at_call 107;refine (TG.out _).mono ?_;(try clear t0 tf hlt);clear e0 e1 e2 z0;rintro e w5 ⟨rfl,hbx⟩;(first | (have HT0:=zh (HT.out.ext hbx);clear HT;have HT:=HT0;clear HT0) | (have HT:=zh (zero_ext_drew hbx)) | (have HT:=zh (zero_ext hbx)) | skip);have HB5:Hid (Below wa.heap.size wa w5):=zxt (by repeat (first | exact HB6.out | exact HB5.out | exact Below.refl _ _ | apply Below.drew | refine zxa ?_ _)) hbx;(try (obtain ⟨t0,_,tf⟩:=HT.out.cells;have hlt:=HT.out.lt));obtain ⟨⟨e0,e1,e2⟩,z0⟩:=HP2.out w5 (zxt H12.out.2.1 HB5.out);have n51:¬ w.heap.size=w5.heap.size:=(by have:=HB5.out.size;omega);have n52:¬ w.heap.size + 3=w5.heap.size:=(by have:=HB5.out.size;omega);clear hbx)
   | (go_at_call 134;refine (BH.out _).mono ?_;(try clear t0 tf hlt);clear e0 e1 e2 z0;rintro e w6 ⟨rfl,hbx⟩;(first | (have HT0:=zh (HT.out.ext hbx);clear HT;have HT:=HT0;clear HT0) | (have HT:=zh (zero_ext_drew hbx)) | (have HT:=zh (zero_ext hbx)) | skip);have HB6:Hid (Below wa.heap.size wa w6):=zxt (by repeat (first | exact HB6.out | exact HB5.out | exact Below.refl _ _ | apply Below.drew | refine zxa ?_ _)) hbx;(try (obtain ⟨t0,_,tf⟩:=HT.out.cells;have hlt:=HT.out.lt));obtain ⟨⟨e0,e1,e2⟩,z0⟩:=HP2.out w6 (zxt H12.out.2.1 HB6.out);have n61:¬ w.heap.size=w6.heap.size:=(by have:=HB6.out.size;omega);have n62:¬ w.heap.size + 3=w6.heap.size:=(by have:=HB6.out.size;omega);clear hbx))
  all_goals
   go_wp2_with fail
   go_meet
   case rel =>
    first
     | (obtain ⟨p1,p2⟩:=HT.out.put (⟨some ⟨b,o + k,none⟩,zs.length - k,zs.length - k,tg x.pl (k:Nat),sr,KRO.out⟩:It);exact ⟨_,rfl,p1,zbp HB6.out HB6.out.size p2 (by first | exact Nat.le_refl _ | exact HB5.out.size),by first | exact Nat.le_refl _ | exact HB5.out.size⟩)
     | exact ⟨_,rfl,heap_alloc_new _ _,zxa HB6.out _,HB6.out.size⟩
     | exact ⟨_,rfl,heap_alloc_new _ _,(zxa HB6.out _).drew,HB6.out.size⟩
 obtain ⟨t13,rfl,H13⟩:=hcut
 generalize hwc:wc=wb at *
 clear hwc e0 e1 e2 z0 TG BH
 have hzb:=H13.out.2.1.size
 have HB1:Hid (wb.heap[t12]?=some (.cells #[.slice (some ⟨b,o,none⟩) k k,.int .i64 x.pl,.int .i64 sa,.int .i64 (k:Nat),.int .i64 sb,.bool sf,.bool scr] 97 (0,0))):=(H13.out.2.1.block t12 (Array.getElem?_eq_some_iff.1 H12.out.1).1).trans H12.out.1
 have HEB:=zh (HE.out.ext (zxt H12.out.2.1 H13.out.2.1))
 have f12:wb.cell? ⟨t12,0,none⟩=some (.slice (some ⟨b,o,none⟩) k k)∧wb.cell? ⟨t12,1,none⟩=some (.int .i64 x.pl)∧wb.cell? ⟨t12,2,none⟩=some (.int .i64 sa)∧wb.cell? ⟨t12,3,none⟩=some (.int .i64 (k:Nat))∧wb.cell? ⟨t12,4,none⟩=some (.int .i64 sb)∧wb.cell? ⟨t12,5,none⟩=some (.bool sf)∧wb.cell? ⟨t12,6,none⟩=some (.bool scr):=by
  refine ⟨?_,?_,?_,?_,?_,?_,?_⟩ <;> (rw [cell_of_row wb t12 _ _ _ _ HB1.out];rfl)
 have f13:wb.cell? ⟨t13,0,none⟩=some (.slice (some ⟨b,o + k,none⟩) (zs.length - k) (zs.length - k))∧wb.cell? ⟨t13,1,none⟩=some (.int .i64 (tg x.pl (k:Nat)))∧(wb.cell? ⟨t13,2,none⟩=some (.int .i64 sr.a)∧wb.cell? ⟨t13,3,none⟩=some (.int .i64 sr.s)∧wb.cell? ⟨t13,4,none⟩=some (.int .i64 sr.b)∧wb.cell? ⟨t13,5,none⟩=some (.bool sr.lf)∧wb.cell? ⟨t13,6,none⟩=some (.bool sr.cr)):=by
  refine ⟨?_,?_,?_,?_,?_,?_,?_⟩ <;> (rw [cell_of_row wb t13 _ _ _ _ H13.out.1];rfl)
 obtain ⟨g1,_,gf1⟩:=HEB.out.2.1.cells
 obtain ⟨g2,_,gf2⟩:=HEB.out.2.2.1.cells
 have gl1:=HEB.out.2.1.lt
 have gl2:=HEB.out.2.2.1.lt
 have hl2:=H12.out.2.2
 have hl3:=H13.out.2.2
 have hlw:w.heap.size + 3 < wl.heap.size:=HE.out.2.2.2.1.lt
 have m1:¬ t12=w.heap.size + 1:=by omega
 have m2:¬ t12=w.heap.size + 2:=by omega
 have m3:¬ t13=w.heap.size + 1:=by omega
 have m4:¬ t13=w.heap.size + 2:=by omega
 go_upto_region 12 with fail
 go_region_held3 (fun w'=>(w'.cell? ⟨t12,0,none⟩=some (.slice (some ⟨b,o,none⟩) k k)∧w'.cell? ⟨t12,1,none⟩=some (.int .i64 x.pl)∧w'.cell? ⟨t12,2,none⟩=some (.int .i64 sa)∧w'.cell? ⟨t12,3,none⟩=some (.int .i64 (k:Nat))∧w'.cell? ⟨t12,4,none⟩=some (.int .i64 sb)∧w'.cell? ⟨t12,5,none⟩=some (.bool sf)∧w'.cell? ⟨t12,6,none⟩=some (.bool scr))∧(w'.cell? ⟨t13,0,none⟩=some (.slice (some ⟨b,o + k,none⟩) (zs.length - k) (zs.length - k))∧w'.cell? ⟨t13,1,none⟩=some (.int .i64 (tg x.pl (k:Nat)))∧(w'.cell? ⟨t13,2,none⟩=some (.int .i64 sr.a)∧w'.cell? ⟨t13,3,none⟩=some (.int .i64 sr.s)∧w'.cell? ⟨t13,4,none⟩=some (.int .i64 sr.b)∧w'.cell? ⟨t13,5,none⟩=some (.bool sr.lf)∧w'.cell? ⟨t13,6,none⟩=some (.bool sr.cr)))) (first | (simp only [zcs m1,zcs m2,zcs m3,zcs m4,World.cell?_drew];exact ⟨f12,f13⟩) | exact ⟨f12,f13⟩ | go_keep) (fail)
 all_goals
  go_wp2_with fail
  obtain ⟨q1,q2,q3,q4,q5⟩:=HHD2.out
  obtain ⟨r1,r2,r3,r4,r5⟩:=HRS2.out
  have ok1:Rs.Ok ⟨sa,(k:Nat),sb,sf,scr⟩:=q5 ▸ hd.ok
  obtain ⟨p1,p2⟩:=HEB.out.2.1.put (⟨some ⟨b,o,none⟩,k,k,x.pl,⟨sa,(k:Nat),sb,sf,scr⟩,ok1⟩:It)
  obtain ⟨p3,p4⟩:=(HEB.out.2.2.1.other p2 (by omega)).put (⟨some ⟨b,o + k,none⟩,zs.length - k,zs.length - k,tg x.pl (k:Nat),sr,KRO.out⟩:It)
  simp only at p2 p4
  have bz:=HEB.out.2.2.2.2
  have FB:=zh (zbp (zbp bz bz.size p2 (by omega)) (Nat.le_trans bz.size p2.size) p4 (by omega))
  refine bodyPost_ret (v:=.tuple #[.agg #[.slice (some ⟨b,o,none⟩) k k,.int .i64 x.pl,.int .i64 sa,.int .i64 (k:Nat),.int .i64 sb,.bool sf,.bool scr],.agg #[.slice (some ⟨b,o + k,none⟩) (zs.length - k) (zs.length - k),.int .i64 (tg x.pl (k:Nat)),.int .i64 sr.a,.int .i64 sr.s,.int .i64 sr.b,.bool sr.lf,.bool sr.cr]]) (by simp [results,Tryz.results115,go_sem,g1,g2]) rfl ⟨hd,rs,by rw [q1,q2,q3,q4,q5,r1,r2,r3,r4,r5],?_,?_⟩
  ·rw [hk,hsd,hsr,HPP.out]
   exact ⟨q1,q2,q3,q4,q5,r1,r2,r3,r4,r5⟩
  ·exact Below.drew FB.out
end Go.Proofs.YtdhciadajendnaaGreat.P
