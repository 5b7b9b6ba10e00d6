import Derived.Test.YtdhciadajendnaaGreatK18
set_option maxRecDepth 100000
namespace Go.Proofs.YtdhciadajendnaaGreat.P
open Go.RowKit
theorem three_blocks (w:World) (x y:It):∃ w0,w0=((w.alloc (.cells #[.slice x.p x.n x.c,.int .i64 x.pl,.int .i64 x.sp.a,.int .i64 x.sp.s,.int .i64 x.sp.b,.bool x.sp.lf,.bool x.sp.cr] 97)).alloc (.cells #[.slice y.p y.n y.c,.int .i64 y.pl,.int .i64 y.sp.a,.int .i64 y.sp.s,.int .i64 y.sp.b,.bool y.sp.lf,.bool y.sp.cr] 97)).alloc (.cells #[.slice none 0 0,.int .i64 0,.int .i64 0,.int .i64 0,.int .i64 0,.bool false,.bool false] 97) ∧
  BlkI w0 w.heap.size x∧BlkI w0 (w.heap.size + 1) y∧BlkI w0 (w.heap.size + 2) It.zero∧Below w.heap.size w w0∧w0.heap.size=w.heap.size + 3:=by
 refine ⟨_,rfl,?_,?_,?_,?_,by simp⟩
 ·exact BlkI.ext (BlkI.ext (w:=w.alloc _) (heap_alloc_new _ _) (zxa (Below.refl _ _) _)) (zxa (Below.refl _ _) _)
 ·have e:w.heap.size + 1=(w.alloc (.cells #[.slice x.p x.n x.c,.int .i64 x.pl,.int .i64 x.sp.a,.int .i64 x.sp.s,.int .i64 x.sp.b,.bool x.sp.lf,.bool x.sp.cr] 97)).heap.size:=by simp
  rw [e]
  exact BlkI.ext (w:=(w.alloc _).alloc _) (heap_alloc_new _ _) (zxa (Below.refl _ _) _)
 ·have e:w.heap.size + 2=((w.alloc (.cells #[.slice x.p x.n x.c,.int .i64 x.pl,.int .i64 x.sp.a,.int .i64 x.sp.s,.int .i64 x.sp.b,.bool x.sp.lf,.bool x.sp.cr] 97)).alloc (.cells #[.slice y.p y.n y.c,.int .i64 y.pl,.int .i64 y.sp.a,.int .i64 y.sp.s,.int .i64 y.sp.b,.bool y.sp.lf,.bool y.sp.cr] 97)).heap.size:=by simp
  rw [e]
  exact heap_alloc_new _ _
 ·exact zxa (zxa (zxa (Below.refl _ _) _) _) _
theorem Pc.src {enc:Int} {L:List Int} {w:World} {x:It} {g:List Int} (h:Pc enc L w x g):∃ ad,x.p=some ad∧∀ w',Below w.heap.size w w'→∀ j v,((Cx.encB enc g).map (Value.int .u8))[j]?=some v→w'.cell? (ad.add j)=some v:=by
 obtain ⟨b,o,hp,hr⟩:=h.mem
 refine ⟨_,hp,fun w' hb j v hj=>?_⟩
 obtain ⟨cs,h1,h2⟩:=hr.ext hb
 rw [Addr.add_lit,cell_of_row w' b _ cs _ _ h1]
 have hl:j < (Cx.encB enc g).length:=by
  have:=(List.getElem?_eq_some_iff.1 hj).1
  rwa [List.length_map] at this
 rw [← h2,List.getElem?_take,if_pos hl,List.getElem?_drop] at hj
 simpa using hj
set_option maxHeartbeats 4000000 in
theorem glue_any (enc:Int) (he:Cx.En enc) (L:List Int) (x y:It) (g h:List Int) (w:World) (hx:Pc enc L w x g) (hy:Pc enc L w y h) (hl:ln enc g + ln enc h≤1073741824) :
  Calls Tryz.prog 135 #[.int .i64 enc,.agg #[.slice x.p x.n x.c,.int .i64 x.pl,.int .i64 x.sp.a,.int .i64 x.sp.s,.int .i64 x.sp.b,.bool x.sp.lf,.bool x.sp.cr],.agg #[.slice y.p y.n y.c,.int .i64 y.pl,.int .i64 y.sp.a,.int .i64 y.sp.s,.int .i64 y.sp.b,.bool y.sp.lf,.bool y.sp.cr]] w fun e w'=>∃ (z:It) (ok:Bool),e=.returned (.tuple #[.agg #[.slice z.p z.n z.c,.int .i64 z.pl,.int .i64 z.sp.a,.int .i64 z.sp.s,.int .i64 z.sp.b,.bool z.sp.lf,.bool z.sp.cr],.bool ok])∧Hid (ok=true→Pc enc L w' z (g ++ h)∧z.pl=-1)∧Below w.heap.size w w':=by
 obtain ⟨i0,hi,hz0,hz1,hz2⟩:=info_parts Tryz.info_u8
 obtain ⟨n,hn⟩:∃ n,n=ln enc g:=⟨_,rfl⟩
 obtain ⟨m,hm⟩:∃ m,m=ln enc h:=⟨_,rfl⟩
 obtain ⟨zx,hzx⟩:∃ zx,zx=(Cx.encB enc g).map (Value.int .u8):=⟨_,rfl⟩
 obtain ⟨zy,hzy⟩:∃ zy,zy=(Cx.encB enc h).map (Value.int .u8):=⟨_,rfl⟩
 have lzx:zx.length=n:=by rw [hzx,List.length_map,hn];rfl
 have lzy:zy.length=m:=by rw [hzy,List.length_map,hm];rfl
 obtain ⟨w0,hw0,k1,k2,k3,hb0,hs0⟩:=three_blocks w x y
 have HB0:=zh hb0
 have HK:=zh (show BlkI w0 w.heap.size x∧BlkI w0 (w.heap.size + 1) y∧BlkI w0 (w.heap.size + 2) It.zero from ⟨k1,k2,k3⟩)
 have n1:=hx.gr.lpos
 have m1:=hy.gr.lpos
 rw [← hn] at n1 hl
 rw [← hm] at m1 hl
 have xn:=hx.xn
 have xc:=hx.xc
 have yn:=hy.xn
 have yc:=hy.xc
 rw [← hn] at xn xc
 rw [← hm] at yn yc
 have HX:Hid ((∀ w',Below w0.heap.size w0 w'→w'.cell? ⟨w.heap.size,0,none⟩=some (.slice x.p n n)∧w'.cell? ⟨w.heap.size + 1,0,none⟩=some (.slice y.p m m))∧True):=⟨fun w' hb=>by
  have a1:=(k1.ext hb).cells.1.1
  have a2:=(k2.ext hb).cells.1.1
  rw [xn,xc] at a1
  rw [yn,yc] at a2
  exact ⟨a1,a2⟩,trivial⟩
 obtain ⟨ax,pax,srx⟩:=hx.src
 obtain ⟨ay,pay,sry⟩:=hy.src
 rw [← hzx] at srx
 rw [← hzy] at sry
 have HPX:=zh hx
 have HPY:=zh hy
 have HEN:=zh he
 have HN:=zh hn
 have HM:=zh hm
 have HLX:=zh lzx
 have HLY:=zh lzy
 have HZX:=zh hzx
 have HZY:=zh hzy
 have HSX:=zh (show ∃ ad,x.p=some ad∧∀ w',Below w.heap.size w w'→∀ j v,zx[j]?=some v→w'.cell? (ad.add j)=some v from ⟨ax,pax,srx⟩)
 have HSY:=zh (show ∃ ad,y.p=some ad∧∀ w',Below w.heap.size w w'→∀ j v,zy[j]?=some v→w'.cell? (ad.add j)=some v from ⟨ay,pay,sry⟩)
 have h1x:Hid (∀ v ∈ zx,v.oneCell'=true):=by unfold Hid;rw [hzx];intro v hv;rw [List.mem_map] at hv;obtain ⟨_,_,rfl⟩:=hv;rfl
 have h1y:Hid (∀ v ∈ zy,v.oneCell'=true):=by unfold Hid;rw [hzy];intro v hv;rw [List.mem_map] at hv;obtain ⟨_,_,rfl⟩:=hv;rfl
 clear k1 k2 k3 hb0 hx hy he hn hm xn xc yn yc pax pay srx sry hzx hzy lzx lzy
 go_enter Tryz.func135,Tryz.ntmps135
 go_upto_region 1 with fail
 rw [← hw0]
 clear hw0
 obtain ⟨c0,c1⟩:=HX.out.1 w0 (Below.refl _ _)
 go_upto_region 2 with (refine wpList_make_full w0 rfl _ _ 22 rfl w0.heap.size 5 i0 (.int .u8 0) 1 Tryz.underlying22 hi hz0 hz1 .i64 .i64 _ _ (n + m) rfl rfl (by omega) (by omega) (by rw [hz2];omega) (by unfold maxLen;omega) (Nat.le_refl _) ?_;intro w1 hO hg;have HO:=zh hO;have HG:=zh hg;clear hO hg)
 obtain ⟨e1,hh⟩:=HO.out
 rcases hh with ⟨hv,_⟩ | ⟨g1,cp,cur,hv,_,hcur,hcp1,hcp2,hcs,htk⟩
 ·cases hv
 simp only [Value.slice.injEq,Option.some.injEq,Addr.mk.injEq] at hv
 obtain ⟨⟨hg0,_,_⟩,_,hcp⟩:=hv
 subst hg0
 subst hcp
 have HCUR:=zh (show w1.heap[w.heap.size + 3]?=some (.cells cur.toList.toArray 5 (0,0)) by rw [← hs0];exact hcur)
 have hlen:cur.toList.length=n + m:=by rw [Array.length_toList,hcs,Nat.mul_one]
 have HB1:=zh (Below.grown (Below.refl w0.heap.size w0) HG.out (Nat.le_refl _) (fun k e=>by cases e))
 clear htk e1 hcur HO HG c0 c1
 obtain ⟨s1,s2⟩:=HX.out.1 w1 HB1.out
 generalize cur.toList=cl at *
 go_upto_region 3 with (refine wpList_copy_splice rfl _ _ 22 22 rfl 5 Tryz.underlying22 (by rw [hi];simp [hz1]) _ _ _ _ _ _ rfl rfl (w.heap.size + 3) 0 cl 5 HCUR.out zx (by rw [HLX.out];exact (Nat.min_eq_left (by omega)).symm) (fun _=>⟨rfl,let ⟨ad,h1,h2⟩:=HSX.out;⟨ad,h1,h2 w1 (zxt HB0.out HB1.out)⟩⟩) (by rw [HLX.out];omega) h1x.out w0.heap.size w0 HB1.out (by omega) ?_;intro w2 hE hb2;have HE2:=zh hE.out;have HB2:=zh hb2;clear hE hb2)
 clear s1 s2
 obtain ⟨s1,s2⟩:=HX.out.1 w2 HB2.out
 have HF2:=zh (show n + zy.length≤(splice cl 0 zx).length by rw [length_splice _ _ _ (by rw [HLX.out];omega),HLY.out];omega)
 have hnm:(n:Int)≤(n:Int) + m:=by omega
 have hm0:¬ m=0:=by omega
 simp only [Act.put,tS]
 go_cut [] from 23 to 31 (fun wF=>Hid (wF.heap[w.heap.size + 3]?=some (.cells (splice (splice cl 0 zx) n zy).toArray 5 (0,0))∧Below w0.heap.size w0 wF))
 case first =>
  refine wp_region_held_drew (S:=fun w''=>w''.cell? ⟨w.heap.size,0,none⟩=some (.slice x.p n n)∧w''.cell? ⟨w.heap.size + 1,0,none⟩=some (.slice y.p m m)) (by kernel_rfl) (by first | exact ⟨s1,s2⟩ | (dsimp only;go_keep)) (fun _=>?_)
  refine tkH 0 rfl ?_
  refine tkH 1 rfl ?_
  refine tkH 2 rfl ?_
  refine tkH 3 rfl ?_
  refine tkH 4 rfl ?_
  refine tkH 5 rfl ?_
  refine rdH 6 rfl fun K hK=>?_
  go_simp
  refine hK.out _ _ ?_ (fun _=>?_)
  ·first | exact ⟨s1,s2⟩ | ((try dsimp only);go_keep)
  clear hK K
  try simp only [Act.put,tS]
  refine rdH 7 rfl fun K hK=>?_
  refine step_copy_splice rfl (.tmp 28) (.tmp 30) 22 22 rfl 5 Tryz.underlying22 (by rw [hi];simp [hz1]) _ _ _ _ _ _ (by rfl) (by rfl) (w.heap.size + 3) n _ 5 HE2.out zy (by rw [HLY.out];first | exact (Nat.min_eq_left (by omega)).symm | (show m=min m _;omega)) (fun _=>⟨by simp,let ⟨ad,h1,h2⟩:=HSY.out;⟨ad,h1,h2 _ (zxt HB0.out HB2.out.drew)⟩⟩) HF2.out h1y.out w0.heap.size w0 HB2.out.drew (by omega) ?_;intro w3 hE hb3;have HE3:=zh hE.out;have HB3:=zh hb3;clear hE hb3;have s3:=HX.out.1 w3 HB3.out;change K (Act.put _ (some 31) _) w3
  refine hK.out _ _ ?_ (fun _=>?_)
  ·exact s3
  clear hK K
  try simp only [Act.put,tS]
  refine dnH ?_
  go_wp2_with fail
  go_meet
  case rel=>exact ⟨HE3.out,HB3.out⟩
 have HE:=zh hcut.out
 generalize hwc:wc=w4 at *
 clear hwc hcut s1 s2 HE2 HB2 HCUR HB1 HF2 hnm
 have es:splice (splice cl 0 zx) n zy=zx ++ zy:=by
  have l1:=HLX.out
  have l2:=HLY.out
  unfold splice
  rw [List.take_zero,List.nil_append,Nat.zero_add,List.take_append_of_le_length (by omega),List.take_of_length_le (by omega),List.drop_eq_nil_of_le (by rw [List.length_append,List.length_drop];omega),List.append_nil]
 have HRW:Hid (RwU w4 (w.heap.size + 3) 0 (Cx.encB enc (g ++ h))):=by
  have e:=HE.out.1
  rw [es,HZX.out,HZY.out,← List.map_append,← Cx.encB_app] at e
  exact RwU.of e
 have HB4:=zh HE.out.2
 have HLG:=zh (show ln enc (g ++ h)=n + m by rw [ln_app,HN.out,HM.out])
 clear es HE HZX HZY HSX HSY h1x h1y HLX HLY
 go_wp2_with fail
 go_loopg [9] h.length (fun gk k wr=>∃ j:Nat,j + gk=h.length∧k=.int .i64 (ln enc (h.take j):Nat)∧Hid (Gr enc (g ++ h.take j))∧Hid (Below w4.heap.size w4 wr))
 case atStart=>exact ⟨0,by omega,rfl,by rw [List.take_zero,List.append_nil];exact HPX.out.gr,Below.refl _ _⟩
 case round =>
  obtain ⟨j,hj,rfl,HGR,HBR⟩:=hrel
  have HBZ:=zh (HB4.out.trans (HBR.out.mono HB4.out.size))
  obtain ⟨c0,c1⟩:=HX.out.1 wr HBZ.out
  by_cases hi':j < h.length
  ·obtain ⟨q1,a,sz,hf,hq,ho,hs1,hfit,hsz⟩:=off_step enc HEN.out (Cx.encB enc h) HPY.out.gr.byt j (by rw [HPY.out.gr.dec];exact hi')
   rw [off_gr HPY.out.gr] at q1 hf ho
   rw [off_gr HPY.out.gr] at ho
   rw [HPY.out.gr.dec] at hq
   have et:h.take (j + 1)=h.take j ++ [a]:=by rw [List.take_add_one,hq];rfl
   have hk1:ln enc (h.take (j + 1))≤m:=by
    have:=ln_app enc (h.take (j + 1)) (h.drop (j + 1))
    rw [List.take_append_drop,← HM.out] at this
    omega
   have hdm:m≤4611686018427387904:=by omega
   have NX:=zh (Next_any enc HEN.out _ (Cx.encB enc h) (ln enc (h.take j)) wr ((HPY.out.ext (zxt HB0.out HBZ.out)).rd (by rw [← HM.out];exact hdm)) HPY.out.gr.byt q1)
   rw [hf,HPY.out.xn,HPY.out.xc,← HM.out] at NX
   have EW:Hid (∀ w1,Below wr.heap.size wr w1→Calls Tryz.prog 76 #[.int .i64 enc,.slice (some ⟨w.heap.size + 3,0,none⟩) (n + (ln enc (h.take j) + sz)) (n + m),.int .i64 a] w1 fun e w'=>e=.returned (.bool (decide ((Cx.lst enc (Cx.encB enc (g ++ h.take (j + 1)))).1=a)))∧Below w1.heap.size w1 w'):=fun w1 hb=>by
    have r1:=((HRW.out.ext HBR.out).ext hb).part 0 (ln enc (g ++ h.take (j + 1))) (by rw [Nat.zero_add,show (Cx.encB enc (g ++ h)).length=ln enc (g ++ h) from rfl,HLG.out,ln_app,← HN.out];omega)
    have e2:((Cx.encB enc (g ++ h)).drop 0).take (ln enc (g ++ h.take (j + 1)))=Cx.encB enc (g ++ h.take (j + 1)):=by
     have e3:Cx.encB enc (g ++ h)=Cx.encB enc (g ++ h.take (j + 1)) ++ Cx.encB enc (h.drop (j + 1)):=by rw [← Cx.encB_app,List.append_assoc,List.take_append_drop]
     rw [List.drop_zero,e3]
     exact List.take_left' rfl
    rw [e2] at r1
    have r2:=r1.rd (n + m) (by rw [show (Cx.encB enc (g ++ h.take (j + 1))).length=ln enc (g ++ h.take (j + 1)) from rfl,ln_app,← HN.out];omega) (by omega)
    rw [show (Cx.encB enc (g ++ h.take (j + 1))).length=n + (ln enc (h.take j) + sz) by show ln enc (g ++ h.take (j + 1))=_;rw [ln_app,← HN.out,ho]] at r2
    refine endsWith_any enc HEN.out _ _ a w1 r2 (encB_byt enc _ fun b hb=>?_) ?_
    ·rcases List.mem_append.1 hb with h1 | h1
     ·exact HPX.out.gr.fit b h1
     ·exact HPY.out.gr.fit b (List.mem_of_mem_take h1)
    ·show 0 < ln enc (g ++ h.take (j + 1));rw [ln_app,← HN.out];omega
   have SN:Hid (decide ((Cx.lst enc (Cx.encB enc (g ++ h.take (j + 1)))).1=a)=true→Gr enc (g ++ h.take (j + 1))):=fun hd=>by
    rw [decide_eq_true_eq,et,← List.append_assoc] at hd
    rw [et,← List.append_assoc]
    exact HGR.out.snoc HEN.out hfit hd
   have HO:=zh ho
   generalize hq0:decide ((Cx.lst enc (Cx.encB enc (g ++ h.take (j + 1)))).1=a)=qb at EW SN
   have q1':((ln enc (h.take j):Nat):Int) < (m:Int):=by
    have:ln enc (h.take j) < m:=by rw [HM.out];exact q1
    omega
   rw [ho] at hk1
   clear hq0 ho et hf hq hsz q1
   generalize ln enc (h.take j)=k at *
   cases qb
   case false =>
    go_wp2_with (first | (go_at_call 33;refine NX.out.mono ?_;clear c0 c1;rintro e w5 ⟨rfl,hb5⟩;have HB5:=zh hb5;clear hb5;obtain ⟨c0,c1⟩:=HX.out.1 w5 (HBZ.out.trans (HB5.out.mono HBZ.out.size))) | (go_at_call 76;refine (EW.out w5 HB5.out).mono ?_;clear c0 c1;rintro e w6 ⟨rfl,hb6⟩;have HB6:=zh (zxt HB5.out hb6);clear hb6;obtain ⟨z0,_,zf⟩:=(HK.out.2.2.ext (HBZ.out.trans (HB6.out.mono HBZ.out.size))).cells;have hz6:w.heap.size + 2 < w6.heap.size:=(HK.out.2.2.ext (HBZ.out.trans (HB6.out.mono HBZ.out.size))).lt))
    obtain ⟨p1,p2⟩:=(HK.out.2.2.ext (HBZ.out.trans (HB6.out.mono HBZ.out.size))).put It.zero
    have FB:=zh (zbp (zxt HB0.out (HBZ.out.trans (HB6.out.mono HBZ.out.size))) (zxt HB0.out (HBZ.out.trans (HB6.out.mono HBZ.out.size))).size p2 (by omega))
    exact bodyPost_ret (v:=.tuple #[.agg #[.slice It.zero.p It.zero.n It.zero.c,.int .i64 It.zero.pl,.int .i64 It.zero.sp.a,.int .i64 It.zero.sp.s,.int .i64 It.zero.sp.b,.bool It.zero.sp.lf,.bool It.zero.sp.cr],.bool false]) (by simp [results,Tryz.results135,go_sem,z0,It.zero,Rs.zero]) rfl ⟨It.zero,false,rfl,fun h=>(by cases h),FB.out⟩
   case true =>
    go_wp2_with (first | (go_at_call 33;refine NX.out.mono ?_;clear c0 c1;rintro e w5 ⟨rfl,hb5⟩;have HB5:=zh hb5;clear hb5;obtain ⟨c0,c1⟩:=HX.out.1 w5 (HBZ.out.trans (HB5.out.mono HBZ.out.size))) | (go_at_call 76;refine (EW.out w5 HB5.out).mono ?_;clear c0 c1;rintro e w6 ⟨rfl,hb6⟩;have HB6:=zh (zxt HB5.out hb6);clear hb6))
    go_roundg (h.length - (j + 1))
    case rel=>exact ⟨j + 1,by omega,by rw [HO.out];go_num,SN.out (by first | trivial | rfl),zxt HBR.out HB6.out⟩
    case measure=>omega
  ·obtain rfl:j=h.length:=by omega
   have hlt:¬ ((ln enc (h.take h.length):Nat):Int) < (m:Int):=by rw [List.take_length,← HM.out];omega
   rw [List.take_length] at HGR
   have HBA:=zh (zxt HB0.out HBZ.out)
   obtain ⟨d0,_,_⟩:=(HK.out.1.ext HBZ.out).cells
   obtain ⟨d1,_,_⟩:=(HK.out.2.1.ext HBZ.out).cells
   have AD:Hid (∀ w',Calls Tryz.prog 77 #[.agg #[.int .i64 x.sp.a,.int .i64 x.sp.s,.int .i64 x.sp.b,.bool x.sp.lf,.bool x.sp.cr],.agg #[.int .i64 y.sp.a,.int .i64 y.sp.s,.int .i64 y.sp.b,.bool y.sp.lf,.bool y.sp.cr]] w' fun e w''=>∃ r,Hid (r=spn enc (g ++ h))∧e=.returned (.agg #[.int .i64 r.a,.int .i64 r.s,.int .i64 r.b,.bool r.lf,.bool r.cr])∧Below w'.heap.size w' w''):=fun w'=>by
    rw [HPX.out.sp,HPY.out.sp]
    have k1:=spn_ok enc g
    have k2:=spn_ok enc h
    have k3:=spn_a enc g HPX.out.gr.fit
    have k4:=spn_a enc h HPY.out.gr.fit
    have k5:=ln_ge enc g
    have k6:=ln_ge enc h
    have k7:=spn_b enc g
    have k8:=spn_b enc h
    have k9:=HN.out
    have k10:=HM.out
    refine (Add_any _ _ w' k1.a0 k2.a0 k1.s0 k2.s0 k1.b0 k2.b0 (by omega) (by omega) (by omega)).mono fun e w'' ⟨r,h1,h2,h3⟩=>⟨r,?_,h2,h3⟩
    unfold Hid
    rw [h1.out,spn_app]
   generalize ln enc (h.take h.length)=k at *
   clear c0
   go_wp2_with (go_at_call 77;refine (AD.out wr).mono ?_;clear c1 d0 d1;rintro e w5 ⟨r,HR,rfl,hb5⟩;have HB5:=zh hb5;clear hb5;obtain ⟨z0,_,zf⟩:=(HK.out.2.2.ext (HBZ.out.trans (HB5.out.mono HBZ.out.size))).cells;have hz6:w.heap.size + 2 < w5.heap.size:=(HK.out.2.2.ext (HBZ.out.trans (HB5.out.mono HBZ.out.size))).lt)
   have HRO:Rs.Ok r:=by rw [HR.out];exact spn_ok _ _
   obtain ⟨p1,p2⟩:=(HK.out.2.2.ext (HBZ.out.trans (HB5.out.mono HBZ.out.size))).put (⟨some ⟨w.heap.size + 3,0,none⟩,n + m,n + m,-1,r,HRO⟩:It)
   have FB:=zh (zbp (zxt HB0.out (HBZ.out.trans (HB5.out.mono HBZ.out.size))) (zxt HB0.out (HBZ.out.trans (HB5.out.mono HBZ.out.size))).size p2 (by omega))
   have FR:=zh (((HRW.out.ext HBR.out).ext HB5.out).same (p2.block (w.heap.size + 3) ((HRW.out.ext HBR.out).ext HB5.out).lt (by simp)))
   refine bodyPost_ret (v:=.tuple #[.agg #[.slice (some ⟨w.heap.size + 3,0,none⟩) (n + m) (n + m),.int .i64 (-1),.int .i64 r.a,.int .i64 r.s,.int .i64 r.b,.bool r.lf,.bool r.cr],.bool true]) (by simp [results,Tryz.results135,go_sem,z0]) rfl ⟨⟨some ⟨w.heap.size + 3,0,none⟩,n + m,n + m,-1,r,HRO⟩,true,rfl,fun _=>⟨⟨HGR.out,⟨_,_,rfl,FR.out⟩,HLG.out.symm,HLG.out.symm,HR.out,.inl rfl⟩,rfl⟩,FB.out⟩
end Go.Proofs.YtdhciadajendnaaGreat.P
