import Derived.Test.YtdhciadajendnaaGreatK21
import Derived.Test.YtdhciadajendnaaGreatK22
set_option maxRecDepth 100000
namespace Go.Proofs.YtdhciadajendnaaGreat.P
open Go.RowKit
def NxR (enc:Int) (L:List Int) (g bo n:Nat) (w:World) (lv vm:Value) (os ms:List PG) (e:Ending) (w':World):Prop :=
 ∃ (y:It) (gy:List Int) (vo':Value) (os':List PG),e=.returned (.agg #[.slice y.p y.n y.c,.int .i64 y.pl,.int .i64 y.sp.a,.int .i64 y.sp.s,.int .i64 y.sp.b,.bool y.sp.lf,.bool y.sp.cr])∧Pc enc L w' y gy∧gy.length≤n∧Wr enc L g bo w' lv vo' vm os' ms∧ctn enc y.pl gy ++ sh enc os'=sh enc os∧Kps (ow g bo vm) w w'
theorem u8_put {w w':World} {k:Nat} {x:It} (hg:w.grownBy w' (some k)) (hx:BlkI w k x):∀ b,Typ 5 w b→w'.heap[b]?=w.heap[b]?:=fun b hb=>hg.block b hb.lt (fun e=>by cases e;exact absurd (hb.uniq ⟨_,hx⟩) (by decide))
theorem Pc.cut {enc:Int} (he:Cx.En enc) {L:List Int} (hL:Byt L) {w:World} {x hd rs:It} {g:List Int} (hx:Pc enc L w x g) (n:Nat) (h0:0 < n) (hn:n < g.length) (b o:Nat) (hp:x.p=some ⟨b,o,none⟩)
  (h:hd.p=x.p∧hd.n=off enc (Cx.encB enc g) n∧hd.c=off enc (Cx.encB enc g) n∧hd.pl=x.pl∧hd.sp=spn enc ((Cx.dec enc (Cx.encB enc g)).take n)∧rs.p=some ⟨b,o + off enc (Cx.encB enc g) n,none⟩∧rs.n=(Cx.encB enc g).length - off enc (Cx.encB enc g) n∧rs.c=(Cx.encB enc g).length - off enc (Cx.encB enc g) n∧rs.pl=tg x.pl (off enc (Cx.encB enc g) n)∧rs.sp=spn enc ((Cx.dec enc (Cx.encB enc g)).drop n)) :
  Pc enc L w hd (g.take n)∧Pc enc L w rs (g.drop n)∧ctn enc hd.pl (g.take n) ++ ctn enc rs.pl (g.drop n)=ctn enc x.pl g:=by
 obtain ⟨h1,h2,h3,h4,h5,h6,h7,h8,h9,h10⟩:=h
 rw [hx.gr.dec] at h5 h10
 rw [off_gr hx.gr] at h2 h3 h6 h7 h8 h9
 obtain ⟨g1,g2⟩:=hx.gr.cut he n h0 hn
 have eB:Cx.encB enc g=Cx.encB enc (g.take n) ++ Cx.encB enc (g.drop n):=by rw [← Cx.encB_app,List.take_append_drop]
 have eL:(Cx.encB enc g).length=ln enc (g.take n) + ln enc (g.drop n):=by rw [eB,List.length_append];rfl
 obtain ⟨b',o',hp',hr⟩:=hx.mem
 rw [hp] at hp'
 simp only [Option.some.injEq,Addr.mk.injEq,and_true] at hp'
 obtain ⟨rfl,rfl⟩:=hp'
 have r1:=hr.part 0 (ln enc (g.take n)) (by omega)
 have r2:=hr.part (ln enc (g.take n)) (ln enc (g.drop n)) (by omega)
 rw [List.drop_zero,eB,List.take_left' (show (Cx.encB enc (g.take n)).length=ln enc (g.take n) from rfl)] at r1
 rw [eB,List.drop_left' (show (Cx.encB enc (g.take n)).length=ln enc (g.take n) from rfl),List.take_of_length_le (show (Cx.encB enc (g.drop n)).length≤ln enc (g.drop n) from Nat.le_refl _)] at r2
 refine ⟨⟨g1,⟨b,o,by rw [h1,hp],r1⟩,h2,h3,h5,?_⟩,⟨g2,⟨b,_,h6,r2⟩,by rw [h7,eL];omega,by rw [h8,eL];omega,h10,?_⟩,?_⟩
 ·rw [h4]
  rcases hx.pl with e | ⟨i,e1,e2,e3⟩
  ·exact .inl e
  ·refine .inr ⟨i,e1,?_,?_⟩
   ·conv=>rhs;rw [← e2]
    rw [List.take_take,List.length_take]
   ·rw [List.length_take];omega
 ·rw [h9]
  rcases hx.pl with e | ⟨i,e1,e2,e3⟩
  ·exact .inl (by rw [e];rfl)
  ·have t1:((Cx.dec enc L).drop i).take (g.take n).length=g.take n:=by
    conv=>rhs;rw [← e2]
    rw [List.take_take,List.length_take]
   obtain ⟨_,_,q3,_⟩:=Gr.load he hL t1 (by rw [List.length_take];omega) g1.ne
   rw [List.length_take,Nat.min_eq_left (by omega)] at q3
   refine .inr ⟨i + n,?_,?_,by rw [List.length_drop];omega⟩
   ·unfold tg
    rw [if_neg (by omega),e1,← q3]
    omega
   ·conv=>rhs;rw [← e2]
    rw [List.drop_take,List.drop_drop,List.length_drop]
 ·rw [h4,h9,← ctn_app enc _ _ _ hx.low,List.take_append_drop]
theorem NxR.drew {enc:Int} {L:List Int} {g bo n:Nat} {w w':World} {lv vm:Value} {os ms:List PG} {e:Ending} (h:NxR enc L g bo n w lv vm os ms e w'):NxR enc L g bo n w lv vm os ms e w'.drew:=by
 obtain ⟨y,gy,vo',os',h1,h2,h3,h4,h5,h6⟩:=h
 have hb:Below w'.heap.size w' w'.drew:=(Below.refl _ _).drew
 exact ⟨y,gy,vo',os',h1,h2.ext hb,h3,h4.ext hb,h5,h6.trans (Kps.of_below _ hb) fun _ _ e=>e⟩
theorem nx_fin {enc:Int} {L:List Int} {g bo n:Nat} {w w1:World} {lv vo vo' vm:Value} {os os' ms:List PG} (h0:Wr enc L g bo w lv vo vm os ms) (k1:Kps (ow g bo vm) w w1) (h1:Wr enc L g bo w1 lv vo' vm os' ms) {z0:It} (hr:BlkI w1 w.heap.size z0) (y:It) (gy:List Int) (hy:Pc enc L w1 y gy) (hn:gy.length≤n) (hs:ctn enc y.pl gy ++ sh enc os'=sh enc os) :
  NxR enc L g bo n w lv vm os ms (.returned (.agg #[.slice y.p y.n y.c,.int .i64 y.pl,.int .i64 y.sp.a,.int .i64 y.sp.s,.int .i64 y.sp.b,.bool y.sp.lf,.bool y.sp.cr])) (((((((w1.setCell ⟨w.heap.size,0,none⟩ (.slice y.p y.n y.c)).setCell ⟨w.heap.size,1,none⟩ (.int .i64 y.pl)).setCell ⟨w.heap.size,2,none⟩ (.int .i64 y.sp.a)).setCell ⟨w.heap.size,3,none⟩ (.int .i64 y.sp.s)).setCell ⟨w.heap.size,4,none⟩ (.int .i64 y.sp.b)).setCell ⟨w.heap.size,5,none⟩ (.bool y.sp.lf)).setCell ⟨w.heap.size,6,none⟩ (.bool y.sp.cr)):=by
 obtain ⟨p1,p2⟩:=hr.put y
 refine ⟨y,gy,vo',os',rfl,hy.same (u8_put p2 hr),hn,h1.other p2 (fun e=>by have:=h0.own_lt e;omega) (fun e=>absurd (e.uniq ⟨_,hr⟩) (by decide)),hs,?_⟩
 exact k1.trans (Kps.grown (o:=fun k=>k=w.heap.size) p2 fun j e _=>(Option.some.inj e).symm) fun i hi e=>by subst e;omega
set_option maxHeartbeats 8000000 in
theorem next_any (enc:Int) (he:Cx.En enc) (L:List Int) (hL:Byt L) (hLl:L.length≤1073741824) (g bo n:Nat) (lv vo vm:Value) (x:It) (gx:List Int) (os ms:List PG) (w:World) (hW:Wr enc L g bo w lv vo vm ((x,gx) :: os) ms) (h0:0 < n) (hl:ln enc gx≤1073741824) :
  Calls Tryz.prog 123 #[.pointer (some ⟨g,0,none⟩),.int .i64 n] w fun e w'=>NxR enc L g bo n w lv vm ((x,gx) :: os) ms e w':=by
 have hx:Pc enc L w x gx:=hW.po (x,gx) List.mem_cons_self
 rcases id hW.old with ⟨e,_⟩ | ⟨o,c,hvo,hc1,hc2,hrow⟩
 ·exact absurd e (by simp [xsOf])
 subst hvo
 rw [xsOf_len,List.length_cons] at hc1 hW
 obtain ⟨⟨cg0,cg1,cg2,cg3⟩,cgf⟩:=hW.cells
 have hr0:=hrow.cell 0 (by simp [xsOf])
 rw [show (xsOf ((x,gx) :: os))[0]?.getD It.zero=x from rfl,Nat.zero_mul,Nat.add_zero] at hr0
 have hgl:=hW.lt
 have hbl:=hW.bl
 obtain ⟨wp,hwp,kr,kx,hbp,hsp⟩:∃ wp,wp=(w.alloc (.cells #[.slice none 0 0,.int .i64 0,.int .i64 0,.int .i64 0,.int .i64 0,.bool false,.bool false] 97)).alloc (.cells #[.slice x.p x.n x.c,.int .i64 x.pl,.int .i64 x.sp.a,.int .i64 x.sp.s,.int .i64 x.sp.b,.bool x.sp.lf,.bool x.sp.cr] 97)∧BlkI wp w.heap.size It.zero∧BlkI wp (w.heap.size + 1) x∧Below w.heap.size w wp∧wp.heap.size=w.heap.size + 2:=by
  refine ⟨_,rfl,BlkI.ext (w:=w.alloc _) (heap_alloc_new _ _) (zxa (Below.refl _ _) _),?_,zxa (zxa (Below.refl _ _) _) _,by simp⟩
  have e:w.heap.size + 1=(w.alloc (.cells #[.slice none 0 0,.int .i64 0,.int .i64 0,.int .i64 0,.int .i64 0,.bool false,.bool false] 97)).heap.size:=by simp
  rw [e]
  exact heap_alloc_new _ _
 have HKR:=zh kr
 have HKX:=zh kx
 have HBP:=zh hbp
 have HWP:=zh (hW.ext hbp)
 have HW0:=zh hW
 have HROW:=zh hrow
 have HXX:=zh hx
 have HLB:=zh hL
 have HEN:=zh he
 have xa:x.sp.a=(gx.length:Nat):=by rw [hx.sp,(spn_a enc gx hx.gr.fit).1]
 have HP:Hid (∀ w',Below wp.heap.size wp w'→(w'.cell? ⟨w.heap.size + 1,0,none⟩=some (.slice x.p x.n x.c)∧w'.cell? ⟨w.heap.size + 1,1,none⟩=some (.int .i64 x.pl)∧w'.cell? ⟨w.heap.size + 1,2,none⟩=some (.int .i64 x.sp.a)∧w'.cell? ⟨w.heap.size + 1,3,none⟩=some (.int .i64 x.sp.s)∧w'.cell? ⟨w.heap.size + 1,4,none⟩=some (.int .i64 x.sp.b)∧w'.cell? ⟨w.heap.size + 1,5,none⟩=some (.bool x.sp.lf)∧w'.cell? ⟨w.heap.size + 1,6,none⟩=some (.bool x.sp.cr))∧w'.cell? ⟨g,0,none⟩=some (.int .i64 enc)):=fun w' hb=>⟨(kx.ext hb).cells.1,((zxt hbp hb).cell (p:=⟨g,0,none⟩) hgl).trans cg0⟩
 clear kr kx hbp hrow hx hL he hW
 by_cases hle:gx.length≤n
 ·have hle':x.sp.a≤(n:Int):=by omega
  have XA:=zh xa
  clear xa
  go_enter Tryz.func123,Tryz.ntmps123
  go_upto_region 2 with fail
  rw [← hwp]
  clear hwp cg0 cg1 cg2 cg3 cgf hr0
  obtain ⟨d0,_⟩:=HP.out wp (Below.refl _ _)
  obtain ⟨⟨_,_,cg2,_⟩,cgf⟩:=HWP.out.cells
  obtain ⟨r0,_,rf⟩:=HKR.out.cells
  have rl:=HKR.out.lt
  have hgl':=HWP.out.lt
  have hng:¬ g=w.heap.size:=by omega
  have FIN:Hid (∀ v,OldR wp bo v (xsOf os)→NxR enc L g bo n w lv vm ((x,gx) :: os) ms (.returned (.agg #[.slice x.p x.n x.c,.int .i64 x.pl,.int .i64 x.sp.a,.int .i64 x.sp.s,.int .i64 x.sp.b,.bool x.sp.lf,.bool x.sp.cr])) ((((((((wp.setCell ⟨g,2,none⟩ v).setCell ⟨w.heap.size,0,none⟩ (.slice x.p x.n x.c)).setCell ⟨w.heap.size,1,none⟩ (.int .i64 x.pl)).setCell ⟨w.heap.size,2,none⟩ (.int .i64 x.sp.a)).setCell ⟨w.heap.size,3,none⟩ (.int .i64 x.sp.s)).setCell ⟨w.heap.size,4,none⟩ (.int .i64 x.sp.b)).setCell ⟨w.heap.size,5,none⟩ (.bool x.sp.lf)).setCell ⟨w.heap.size,6,none⟩ (.bool x.sp.cr))):=fun v hv=>by
   obtain ⟨a1,a2⟩:=HWP.out.adv hv
   obtain ⟨_,s2⟩:=set1 HWP.out.blk 2 v
   exact nx_fin HW0.out ((Kps.of_below _ HBP.out).trans a2 fun _ _ e=>e) a1 (HKR.out.other s2 (by omega)) x gx ((HXX.out.ext HBP.out).same (u8_kept a2 fun _=>HWP.out.own_nu)) hle (by rw [sh_cons])
  by_cases hc:c=1
  ·subst hc
   have hos:os=[]:=List.length_eq_zero_iff.1 (by omega)
   have F:=zh (FIN.out (.slice (some ⟨bo,o,none⟩) 0 0) (.inl ⟨by rw [hos];rfl,_,_,rfl⟩))
   clear FIN hos
   go_wp2_with fail
   exact bodyPost_ret (v:=.agg #[.slice x.p x.n x.c,.int .i64 x.pl,.int .i64 x.sp.a,.int .i64 x.sp.s,.int .i64 x.sp.b,.bool x.sp.lf,.bool x.sp.cr]) (by simp [results,Tryz.results123,go_sem,r0,It.zero,Rs.zero]) rfl F.out
  ·have F:=zh (FIN.out (.slice (some ⟨bo,o + 7,none⟩) os.length (c - 1)) (.inr ⟨o + 7,c - 1,by rw [xsOf_len],by rw [xsOf_len];omega,by omega,(HROW.out.ext HBP.out).tail⟩))
   clear FIN
   go_wp2_with fail
   exact bodyPost_ret (v:=.agg #[.slice x.p x.n x.c,.int .i64 x.pl,.int .i64 x.sp.a,.int .i64 x.sp.s,.int .i64 x.sp.b,.bool x.sp.lf,.bool x.sp.cr]) (by simp [results,Tryz.results123,go_sem,r0,It.zero,Rs.zero]) rfl F.out
 ·have hle':¬ x.sp.a≤(n:Int):=by omega
  have XA:=zh xa
  have SP:Hid (∀ w',Below wp.heap.size wp w'→Calls Tryz.prog 115 #[.agg #[.slice x.p x.n x.c,.int .i64 x.pl,.int .i64 x.sp.a,.int .i64 x.sp.s,.int .i64 x.sp.b,.bool x.sp.lf,.bool x.sp.cr],.int .i64 enc,.int .i64 n] w' fun e w''=>∃ hd rs:It,e=.returned (.tuple #[.agg #[.slice hd.p hd.n hd.c,.int .i64 hd.pl,.int .i64 hd.sp.a,.int .i64 hd.sp.s,.int .i64 hd.sp.b,.bool hd.sp.lf,.bool hd.sp.cr],.agg #[.slice rs.p rs.n rs.c,.int .i64 rs.pl,.int .i64 rs.sp.a,.int .i64 rs.sp.s,.int .i64 rs.sp.b,.bool rs.sp.lf,.bool rs.sp.cr]]) ∧
   Hid ((Pc enc L w'' hd (gx.take n)∧Pc enc L w'' rs (gx.drop n))∧ctn enc hd.pl (gx.take n) ++ ctn enc rs.pl (gx.drop n)=ctn enc x.pl gx)∧Below w'.heap.size w' w''):=fun w' hb=>by
   have hx':=(HXX.out.ext HBP.out).ext hb
   obtain ⟨b1,o1,hp1,_⟩:=hx'.mem
   have h2:=hx'.end HEN.out HLB.out
   have h3:(Cx.encB enc gx).length=ln enc gx:=rfl
   refine (split_any enc HEN.out x (Cx.encB enc gx) n w' (hx'.rd (by omega)) hx'.gr.byt (by omega) (by rw [hx'.gr.dec];exact hx'.sp) h0 (by rw [hx'.gr.dec];omega) hx'.low (by omega) b1 o1 hp1 (by rw [hx'.xc];exact Nat.le_refl _)).mono fun e w'' ⟨hd,rs,h4,h5,h6⟩=>⟨hd,rs,h4,?_,h6⟩
   obtain ⟨k1,k2,k3⟩:=Pc.cut HEN.out HLB.out (hx'.ext h6) n h0 (by omega) b1 o1 hp1 h5.out
   exact ⟨⟨k1,k2⟩,k3⟩
  clear xa
  go_enter Tryz.func123,Tryz.ntmps123
  go_upto_region 2 with fail
  rw [← hwp]
  clear hwp cg0 cg1 cg2 cg3 cgf hr0
  obtain ⟨d0,c0⟩:=HP.out wp (Below.refl _ _)
  go_upto_region 5 with fail
  have HBc:=zh (Below.refl wp.heap.size wp)
  have HSZ:=zh hsp
  clear hsp
  go_cut [6,7] from 28 to 37 (fun p q wF=>∃ (b6 b7:Nat) (hd rs:It),p=.pointer (some ⟨b6,0,none⟩)∧q=.pointer (some ⟨b7,0,none⟩)∧Hid ((Pc enc L wF hd (gx.take n)∧Pc enc L wF rs (gx.drop n))∧ctn enc hd.pl (gx.take n) ++ ctn enc rs.pl (gx.drop n)=ctn enc x.pl gx)∧BlkI wF b6 hd∧BlkI wF b7 rs∧wp.heap.size≤b6∧wp.heap.size≤b7∧b6≠b7∧Below wp.heap.size wp wF)
  case first =>
   refine wp_region_held_drew (S:=fun w''=>(w''.cell? ⟨w.heap.size + 1,0,none⟩=some (.slice x.p x.n x.c)∧w''.cell? ⟨w.heap.size + 1,1,none⟩=some (.int .i64 x.pl)∧w''.cell? ⟨w.heap.size + 1,2,none⟩=some (.int .i64 x.sp.a)∧w''.cell? ⟨w.heap.size + 1,3,none⟩=some (.int .i64 x.sp.s)∧w''.cell? ⟨w.heap.size + 1,4,none⟩=some (.int .i64 x.sp.b)∧w''.cell? ⟨w.heap.size + 1,5,none⟩=some (.bool x.sp.lf)∧w''.cell? ⟨w.heap.size + 1,6,none⟩=some (.bool x.sp.cr))∧w''.cell? ⟨g,0,none⟩=some (.int .i64 enc)) (by kernel_rfl) (⟨d0,c0⟩) (fun _=>?_)
   refine tkH 0 rfl ?_
   refine tkH 1 rfl ?_
   refine tkH 2 rfl ?_
   refine tkH 3 rfl ?_
   refine tkH 4 rfl ?_
   refine tkH 5 rfl ?_
   refine wpAnyH_ready (rs:=[6,10,11]) (by kernel_rfl) (by simp) ?_
   refine (AllReadyH.cons (o:=_) rfl (fun K hK=>?_) (AllReadyH.cons (o:=_) rfl (fun K hK=>?_) (AllReadyH.cons (o:=_) rfl (fun K hK=>?_) AllReadyH.nil)))
   ·skip
    go_simp
    refine (SP.out _ HBc.out.drew).mono ?_;(try clear z6 zf6 zl6);(try clear z7 zf7 zl7);clear d0 c0;rintro e v1 ⟨hd,rs,rfl,HSP,hb⟩;have hst:Below wp.heap.size wp v1:=zxt (Below.drew (Below.refl _ _)) hb;clear hb;have HBn:=zh (zxt HBc.out hst);clear HBc;have HBc:=HBn;clear HBn;obtain ⟨d0,c0⟩:=HP.out v1 HBc.out;have sz1:wp.heap.size≤v1.heap.size:=hst.size;clear hst;try dsimp only
    refine hK.out _ _ ?_ (fun _=>?_)
    ·(try simp only [World.cell?_drew]);exact HP.out v1 HBc.out
    clear hK K
    try simp only [Act.put,tS]
    refine tkH 7 rfl ?_
    refine tkH 8 rfl ?_
    refine tkH 9 rfl ?_
    refine wpAnyH_ready (rs:=[10,11]) (by kernel_rfl) (by simp) ?_
    refine (AllReadyH.cons (o:=_) rfl (fun K hK=>?_) (AllReadyH.cons (o:=_) rfl (fun K hK=>?_) AllReadyH.nil))
    ·skip
     go_simp
     generalize hwN:World.alloc _ _=v2;have hst:Below v1.heap.size v1 v2:=(by rw [← hwN];exact zxa (Below.refl _ _) _);(try clear z6 zf6 zl6);(try clear z7 zf7 zl7);clear d0 c0;have HSn:Hid ((Pc enc L v2 hd (gx.take n)∧Pc enc L v2 rs (gx.drop n))∧ctn enc hd.pl (gx.take n) ++ ctn enc rs.pl (gx.drop n)=ctn enc x.pl gx):=⟨⟨HSP.out.1.1.ext hst,HSP.out.1.2.ext hst⟩,HSP.out.2⟩;clear HSP;have HSP:=HSn;clear HSn;have HBn:=zh (zxt HBc.out hst);clear HBc;have HBc:=HBn;clear HBn;have H6:Hid (BlkI v2 v1.heap.size It.zero):=(by unfold Hid;rw [← hwN];exact heap_alloc_new _ _);obtain ⟨z6,_,zf6⟩:=H6.out.cells;have zl6:=H6.out.lt;have lb10:wp.heap.size≤v1.heap.size:=(by omega);have sz2:v1.heap.size < v2.heap.size:=H6.out.lt;obtain ⟨d0,c0⟩:=HP.out v2 HBc.out;clear hwN hst
     refine hK.out _ _ ?_ (fun _=>?_)
     ·(try simp only [World.cell?_drew]);exact HP.out v2 HBc.out
     clear hK K
     try simp only [Act.put,tS]
     refine rdH 11 rfl fun K hK=>?_
     go_simp
     generalize hwN:World.alloc _ _=v3;have hst:Below v2.heap.size v2 v3:=(by rw [← hwN];exact zxa (Below.refl _ _) _);(try clear z6 zf6 zl6);(try clear z7 zf7 zl7);clear d0 c0;have HSn:Hid ((Pc enc L v3 hd (gx.take n)∧Pc enc L v3 rs (gx.drop n))∧ctn enc hd.pl (gx.take n) ++ ctn enc rs.pl (gx.drop n)=ctn enc x.pl gx):=⟨⟨HSP.out.1.1.ext hst,HSP.out.1.2.ext hst⟩,HSP.out.2⟩;clear HSP;have HSP:=HSn;clear HSn;have HBn:=zh (zxt HBc.out hst);clear HBc;have HBc:=HBn;clear HBn;have Hn:=zh (H6.out.ext hst);clear H6;have H6:=Hn;clear Hn;obtain ⟨z6,_,zf6⟩:=H6.out.cells;have zl6:=H6.out.lt;have H7:Hid (BlkI v3 v2.heap.size It.zero):=(by unfold Hid;rw [← hwN];exact heap_alloc_new _ _);obtain ⟨z7,_,zf7⟩:=H7.out.cells;have zl7:=H7.out.lt;have lb11:wp.heap.size≤v2.heap.size:=(by omega);have sz3:v2.heap.size < v3.heap.size:=H7.out.lt;obtain ⟨d0,c0⟩:=HP.out v3 HBc.out;clear hwN hst
     refine hK.out _ _ ?_ (fun _=>?_)
     ·(try simp only [World.cell?_drew]);exact HP.out v3 HBc.out
     clear hK K
     try simp only [Act.put,tS]
     refine rdH 12 rfl fun K hK=>?_
     go_simp
     generalize hwN:World.setCell _ _ _=v4;have q0:=H6.out;have q2:v3.grownBy v4 (some v1.heap.size):=(by rw [← hwN];exact (H6.out.put hd).2);have q1:BlkI v4 v1.heap.size hd:=(by rw [← hwN];exact (H6.out.put hd).1);(try clear z6 zf6 zl6);(try clear z7 zf7 zl7);clear d0 c0;have HBn:=zh (zbp HBc.out HBc.out.size q2 (by omega));clear HBc;have HBc:=HBn;clear HBn;clear H6;have H6:=zh q1;have HSn:Hid ((Pc enc L v4 hd (gx.take n)∧Pc enc L v4 rs (gx.drop n))∧ctn enc hd.pl (gx.take n) ++ ctn enc rs.pl (gx.drop n)=ctn enc x.pl gx):=⟨⟨HSP.out.1.1.same (u8_put q2 q0),HSP.out.1.2.same (u8_put q2 q0)⟩,HSP.out.2⟩;clear HSP q0;have HSP:=HSn;clear HSn;have Hn:=zh (H7.out.other q2 (by omega));clear H7;have H7:=Hn;clear Hn;obtain ⟨z6,_,zf6⟩:=H6.out.cells;have zl6:=H6.out.lt;obtain ⟨z7,_,zf7⟩:=H7.out.cells;have zl7:=H7.out.lt;obtain ⟨d0,c0⟩:=HP.out v4 HBc.out;have sz4:=q2.size;clear hwN q1 q2
     refine hK.out _ _ ?_ (fun _=>?_)
     ·(try simp only [World.cell?_drew]);exact HP.out v4 HBc.out
     clear hK K
     try simp only [Act.put,tS]
     refine rdH 13 rfl fun K hK=>?_
     go_simp
     generalize hwN:World.setCell _ _ _=v5;have q0:=H7.out;have q2:v4.grownBy v5 (some v2.heap.size):=(by rw [← hwN];exact (H7.out.put rs).2);have q1:BlkI v5 v2.heap.size rs:=(by rw [← hwN];exact (H7.out.put rs).1);(try clear z6 zf6 zl6);(try clear z7 zf7 zl7);clear d0 c0;have HBn:=zh (zbp HBc.out HBc.out.size q2 (by omega));clear HBc;have HBc:=HBn;clear HBn;clear H7;have H7:=zh q1;have HSn:Hid ((Pc enc L v5 hd (gx.take n)∧Pc enc L v5 rs (gx.drop n))∧ctn enc hd.pl (gx.take n) ++ ctn enc rs.pl (gx.drop n)=ctn enc x.pl gx):=⟨⟨HSP.out.1.1.same (u8_put q2 q0),HSP.out.1.2.same (u8_put q2 q0)⟩,HSP.out.2⟩;clear HSP q0;have HSP:=HSn;clear HSn;have Hn:=zh (H6.out.other q2 (by omega));clear H6;have H6:=Hn;clear Hn;obtain ⟨z6,_,zf6⟩:=H6.out.cells;have zl6:=H6.out.lt;obtain ⟨z7,_,zf7⟩:=H7.out.cells;have zl7:=H7.out.lt;obtain ⟨d0,c0⟩:=HP.out v5 HBc.out;have sz5:=q2.size;clear hwN q1 q2
     refine hK.out _ _ ?_ (fun _=>?_)
     ·(try simp only [World.cell?_drew]);exact HP.out v5 HBc.out
     clear hK K
     try simp only [Act.put,tS]
     refine dnH ?_
     go_wp2_with fail
     go_meet
     case rel=>exact ⟨v1.heap.size,v2.heap.size,hd,rs,rfl,rfl,HSP,H6.out,H7.out,by omega,by omega,by omega,HBc.out⟩
    ·skip
     go_simp
     generalize hwN:World.alloc _ _=v2;have hst:Below v1.heap.size v1 v2:=(by rw [← hwN];exact zxa (Below.refl _ _) _);(try clear z6 zf6 zl6);(try clear z7 zf7 zl7);clear d0 c0;have HSn:Hid ((Pc enc L v2 hd (gx.take n)∧Pc enc L v2 rs (gx.drop n))∧ctn enc hd.pl (gx.take n) ++ ctn enc rs.pl (gx.drop n)=ctn enc x.pl gx):=⟨⟨HSP.out.1.1.ext hst,HSP.out.1.2.ext hst⟩,HSP.out.2⟩;clear HSP;have HSP:=HSn;clear HSn;have HBn:=zh (zxt HBc.out hst);clear HBc;have HBc:=HBn;clear HBn;have H7:Hid (BlkI v2 v1.heap.size It.zero):=(by unfold Hid;rw [← hwN];exact heap_alloc_new _ _);obtain ⟨z7,_,zf7⟩:=H7.out.cells;have zl7:=H7.out.lt;have lb11:wp.heap.size≤v1.heap.size:=(by omega);have sz2:v1.heap.size < v2.heap.size:=H7.out.lt;obtain ⟨d0,c0⟩:=HP.out v2 HBc.out;clear hwN hst
     refine hK.out _ _ ?_ (fun _=>?_)
     ·(try simp only [World.cell?_drew]);exact HP.out v2 HBc.out
     clear hK K
     try simp only [Act.put,tS]
     refine rdH 10 rfl fun K hK=>?_
     go_simp
     generalize hwN:World.alloc _ _=v3;have hst:Below v2.heap.size v2 v3:=(by rw [← hwN];exact zxa (Below.refl _ _) _);(try clear z6 zf6 zl6);(try clear z7 zf7 zl7);clear d0 c0;have HSn:Hid ((Pc enc L v3 hd (gx.take n)∧Pc enc L v3 rs (gx.drop n))∧ctn enc hd.pl (gx.take n) ++ ctn enc rs.pl (gx.drop n)=ctn enc x.pl gx):=⟨⟨HSP.out.1.1.ext hst,HSP.out.1.2.ext hst⟩,HSP.out.2⟩;clear HSP;have HSP:=HSn;clear HSn;have HBn:=zh (zxt HBc.out hst);clear HBc;have HBc:=HBn;clear HBn;have Hn:=zh (H7.out.ext hst);clear H7;have H7:=Hn;clear Hn;obtain ⟨z7,_,zf7⟩:=H7.out.cells;have zl7:=H7.out.lt;have H6:Hid (BlkI v3 v2.heap.size It.zero):=(by unfold Hid;rw [← hwN];exact heap_alloc_new _ _);obtain ⟨z6,_,zf6⟩:=H6.out.cells;have zl6:=H6.out.lt;have lb10:wp.heap.size≤v2.heap.size:=(by omega);have sz3:v2.heap.size < v3.heap.size:=H6.out.lt;obtain ⟨d0,c0⟩:=HP.out v3 HBc.out;clear hwN hst
     refine hK.out _ _ ?_ (fun _=>?_)
     ·(try simp only [World.cell?_drew]);exact HP.out v3 HBc.out
     clear hK K
     try simp only [Act.put,tS]
     refine rdH 12 rfl fun K hK=>?_
     go_simp
     generalize hwN:World.setCell _ _ _=v4;have q0:=H6.out;have q2:v3.grownBy v4 (some v2.heap.size):=(by rw [← hwN];exact (H6.out.put hd).2);have q1:BlkI v4 v2.heap.size hd:=(by rw [← hwN];exact (H6.out.put hd).1);(try clear z6 zf6 zl6);(try clear z7 zf7 zl7);clear d0 c0;have HBn:=zh (zbp HBc.out HBc.out.size q2 (by omega));clear HBc;have HBc:=HBn;clear HBn;clear H6;have H6:=zh q1;have HSn:Hid ((Pc enc L v4 hd (gx.take n)∧Pc enc L v4 rs (gx.drop n))∧ctn enc hd.pl (gx.take n) ++ ctn enc rs.pl (gx.drop n)=ctn enc x.pl gx):=⟨⟨HSP.out.1.1.same (u8_put q2 q0),HSP.out.1.2.same (u8_put q2 q0)⟩,HSP.out.2⟩;clear HSP q0;have HSP:=HSn;clear HSn;have Hn:=zh (H7.out.other q2 (by omega));clear H7;have H7:=Hn;clear Hn;obtain ⟨z6,_,zf6⟩:=H6.out.cells;have zl6:=H6.out.lt;obtain ⟨z7,_,zf7⟩:=H7.out.cells;have zl7:=H7.out.lt;obtain ⟨d0,c0⟩:=HP.out v4 HBc.out;have sz4:=q2.size;clear hwN q1 q2
     refine hK.out _ _ ?_ (fun _=>?_)
     ·(try simp only [World.cell?_drew]);exact HP.out v4 HBc.out
     clear hK K
     try simp only [Act.put,tS]
     refine rdH 13 rfl fun K hK=>?_
     go_simp
     generalize hwN:World.setCell _ _ _=v5;have q0:=H7.out;have q2:v4.grownBy v5 (some v1.heap.size):=(by rw [← hwN];exact (H7.out.put rs).2);have q1:BlkI v5 v1.heap.size rs:=(by rw [← hwN];exact (H7.out.put rs).1);(try clear z6 zf6 zl6);(try clear z7 zf7 zl7);clear d0 c0;have HBn:=zh (zbp HBc.out HBc.out.size q2 (by omega));clear HBc;have HBc:=HBn;clear HBn;clear H7;have H7:=zh q1;have HSn:Hid ((Pc enc L v5 hd (gx.take n)∧Pc enc L v5 rs (gx.drop n))∧ctn enc hd.pl (gx.take n) ++ ctn enc rs.pl (gx.drop n)=ctn enc x.pl gx):=⟨⟨HSP.out.1.1.same (u8_put q2 q0),HSP.out.1.2.same (u8_put q2 q0)⟩,HSP.out.2⟩;clear HSP q0;have HSP:=HSn;clear HSn;have Hn:=zh (H6.out.other q2 (by omega));clear H6;have H6:=Hn;clear Hn;obtain ⟨z6,_,zf6⟩:=H6.out.cells;have zl6:=H6.out.lt;obtain ⟨z7,_,zf7⟩:=H7.out.cells;have zl7:=H7.out.lt;obtain ⟨d0,c0⟩:=HP.out v5 HBc.out;have sz5:=q2.size;clear hwN q1 q2
     refine hK.out _ _ ?_ (fun _=>?_)
     ·(try simp only [World.cell?_drew]);exact HP.out v5 HBc.out
     clear hK K
     try simp only [Act.put,tS]
     refine dnH ?_
     go_wp2_with fail
     go_meet
     case rel=>exact ⟨v2.heap.size,v1.heap.size,hd,rs,rfl,rfl,HSP,H6.out,H7.out,by omega,by omega,by omega,HBc.out⟩
   ·skip
    go_simp
    generalize hwN:World.alloc _ _=v1;have hst:Below wp.heap.size wp v1:=(by rw [← hwN];exact zxa (Below.refl _ _) _);(try clear z6 zf6 zl6);(try clear z7 zf7 zl7);clear d0 c0;have HBn:=zh (zxt HBc.out hst);clear HBc;have HBc:=HBn;clear HBn;have H6:Hid (BlkI v1 wp.heap.size It.zero):=(by unfold Hid;rw [← hwN];exact heap_alloc_new _ _);obtain ⟨z6,_,zf6⟩:=H6.out.cells;have zl6:=H6.out.lt;have lb10:wp.heap.size≤wp.heap.size:=(by exact Nat.le_refl _);have sz1:wp.heap.size < v1.heap.size:=H6.out.lt;obtain ⟨d0,c0⟩:=HP.out v1 HBc.out;clear hwN hst
    refine hK.out _ _ ?_ (fun _=>?_)
    ·(try simp only [World.cell?_drew]);exact HP.out v1 HBc.out
    clear hK K
    try simp only [Act.put,tS]
    refine wpAnyH_ready (rs:=[6,11]) (by kernel_rfl) (by simp) ?_
    refine (AllReadyH.cons (o:=_) rfl (fun K hK=>?_) (AllReadyH.cons (o:=_) rfl (fun K hK=>?_) AllReadyH.nil))
    ·skip
     go_simp
     refine (SP.out _ HBc.out.drew).mono ?_;(try clear z6 zf6 zl6);(try clear z7 zf7 zl7);clear d0 c0;rintro e v2 ⟨hd,rs,rfl,HSP,hb⟩;have hst:Below v1.heap.size v1 v2:=zxt (Below.drew (Below.refl _ _)) hb;clear hb;have HBn:=zh (zxt HBc.out hst);clear HBc;have HBc:=HBn;clear HBn;have Hn:=zh (H6.out.ext hst);clear H6;have H6:=Hn;clear Hn;obtain ⟨z6,_,zf6⟩:=H6.out.cells;have zl6:=H6.out.lt;obtain ⟨d0,c0⟩:=HP.out v2 HBc.out;have sz2:v1.heap.size≤v2.heap.size:=hst.size;clear hst;try dsimp only
     refine hK.out _ _ ?_ (fun _=>?_)
     ·(try simp only [World.cell?_drew]);exact HP.out v2 HBc.out
     clear hK K
     try simp only [Act.put,tS]
     refine tkH 7 rfl ?_
     refine tkH 8 rfl ?_
     refine tkH 9 rfl ?_
     refine rdH 11 rfl fun K hK=>?_
     go_simp
     generalize hwN:World.alloc _ _=v3;have hst:Below v2.heap.size v2 v3:=(by rw [← hwN];exact zxa (Below.refl _ _) _);(try clear z6 zf6 zl6);(try clear z7 zf7 zl7);clear d0 c0;have HSn:Hid ((Pc enc L v3 hd (gx.take n)∧Pc enc L v3 rs (gx.drop n))∧ctn enc hd.pl (gx.take n) ++ ctn enc rs.pl (gx.drop n)=ctn enc x.pl gx):=⟨⟨HSP.out.1.1.ext hst,HSP.out.1.2.ext hst⟩,HSP.out.2⟩;clear HSP;have HSP:=HSn;clear HSn;have HBn:=zh (zxt HBc.out hst);clear HBc;have HBc:=HBn;clear HBn;have Hn:=zh (H6.out.ext hst);clear H6;have H6:=Hn;clear Hn;obtain ⟨z6,_,zf6⟩:=H6.out.cells;have zl6:=H6.out.lt;have H7:Hid (BlkI v3 v2.heap.size It.zero):=(by unfold Hid;rw [← hwN];exact heap_alloc_new _ _);obtain ⟨z7,_,zf7⟩:=H7.out.cells;have zl7:=H7.out.lt;have lb11:wp.heap.size≤v2.heap.size:=(by omega);have sz3:v2.heap.size < v3.heap.size:=H7.out.lt;obtain ⟨d0,c0⟩:=HP.out v3 HBc.out;clear hwN hst
     refine hK.out _ _ ?_ (fun _=>?_)
     ·(try simp only [World.cell?_drew]);exact HP.out v3 HBc.out
     clear hK K
     try simp only [Act.put,tS]
     refine rdH 12 rfl fun K hK=>?_
     go_simp
     generalize hwN:World.setCell _ _ _=v4;have q0:=H6.out;have q2:v3.grownBy v4 (some wp.heap.size):=(by rw [← hwN];exact (H6.out.put hd).2);have q1:BlkI v4 wp.heap.size hd:=(by rw [← hwN];exact (H6.out.put hd).1);(try clear z6 zf6 zl6);(try clear z7 zf7 zl7);clear d0 c0;have HBn:=zh (zbp HBc.out HBc.out.size q2 (by omega));clear HBc;have HBc:=HBn;clear HBn;clear H6;have H6:=zh q1;have HSn:Hid ((Pc enc L v4 hd (gx.take n)∧Pc enc L v4 rs (gx.drop n))∧ctn enc hd.pl (gx.take n) ++ ctn enc rs.pl (gx.drop n)=ctn enc x.pl gx):=⟨⟨HSP.out.1.1.same (u8_put q2 q0),HSP.out.1.2.same (u8_put q2 q0)⟩,HSP.out.2⟩;clear HSP q0;have HSP:=HSn;clear HSn;have Hn:=zh (H7.out.other q2 (by omega));clear H7;have H7:=Hn;clear Hn;obtain ⟨z6,_,zf6⟩:=H6.out.cells;have zl6:=H6.out.lt;obtain ⟨z7,_,zf7⟩:=H7.out.cells;have zl7:=H7.out.lt;obtain ⟨d0,c0⟩:=HP.out v4 HBc.out;have sz4:=q2.size;clear hwN q1 q2
     refine hK.out _ _ ?_ (fun _=>?_)
     ·(try simp only [World.cell?_drew]);exact HP.out v4 HBc.out
     clear hK K
     try simp only [Act.put,tS]
     refine rdH 13 rfl fun K hK=>?_
     go_simp
     generalize hwN:World.setCell _ _ _=v5;have q0:=H7.out;have q2:v4.grownBy v5 (some v2.heap.size):=(by rw [← hwN];exact (H7.out.put rs).2);have q1:BlkI v5 v2.heap.size rs:=(by rw [← hwN];exact (H7.out.put rs).1);(try clear z6 zf6 zl6);(try clear z7 zf7 zl7);clear d0 c0;have HBn:=zh (zbp HBc.out HBc.out.size q2 (by omega));clear HBc;have HBc:=HBn;clear HBn;clear H7;have H7:=zh q1;have HSn:Hid ((Pc enc L v5 hd (gx.take n)∧Pc enc L v5 rs (gx.drop n))∧ctn enc hd.pl (gx.take n) ++ ctn enc rs.pl (gx.drop n)=ctn enc x.pl gx):=⟨⟨HSP.out.1.1.same (u8_put q2 q0),HSP.out.1.2.same (u8_put q2 q0)⟩,HSP.out.2⟩;clear HSP q0;have HSP:=HSn;clear HSn;have Hn:=zh (H6.out.other q2 (by omega));clear H6;have H6:=Hn;clear Hn;obtain ⟨z6,_,zf6⟩:=H6.out.cells;have zl6:=H6.out.lt;obtain ⟨z7,_,zf7⟩:=H7.out.cells;have zl7:=H7.out.lt;obtain ⟨d0,c0⟩:=HP.out v5 HBc.out;have sz5:=q2.size;clear hwN q1 q2
     refine hK.out _ _ ?_ (fun _=>?_)
     ·(try simp only [World.cell?_drew]);exact HP.out v5 HBc.out
     clear hK K
     try simp only [Act.put,tS]
     refine dnH ?_
     go_wp2_with fail
     go_meet
     case rel=>exact ⟨wp.heap.size,v2.heap.size,hd,rs,rfl,rfl,HSP,H6.out,H7.out,by omega,by omega,by omega,HBc.out⟩
    ·skip
     go_simp
     generalize hwN:World.alloc _ _=v2;have hst:Below v1.heap.size v1 v2:=(by rw [← hwN];exact zxa (Below.refl _ _) _);(try clear z6 zf6 zl6);(try clear z7 zf7 zl7);clear d0 c0;have HBn:=zh (zxt HBc.out hst);clear HBc;have HBc:=HBn;clear HBn;have Hn:=zh (H6.out.ext hst);clear H6;have H6:=Hn;clear Hn;obtain ⟨z6,_,zf6⟩:=H6.out.cells;have zl6:=H6.out.lt;have H7:Hid (BlkI v2 v1.heap.size It.zero):=(by unfold Hid;rw [← hwN];exact heap_alloc_new _ _);obtain ⟨z7,_,zf7⟩:=H7.out.cells;have zl7:=H7.out.lt;have lb11:wp.heap.size≤v1.heap.size:=(by omega);have sz2:v1.heap.size < v2.heap.size:=H7.out.lt;obtain ⟨d0,c0⟩:=HP.out v2 HBc.out;clear hwN hst
     refine hK.out _ _ ?_ (fun _=>?_)
     ·(try simp only [World.cell?_drew]);exact HP.out v2 HBc.out
     clear hK K
     try simp only [Act.put,tS]
     refine rdH 6 rfl fun K hK=>?_
     go_simp
     refine (SP.out _ HBc.out.drew).mono ?_;(try clear z6 zf6 zl6);(try clear z7 zf7 zl7);clear d0 c0;rintro e v3 ⟨hd,rs,rfl,HSP,hb⟩;have hst:Below v2.heap.size v2 v3:=zxt (Below.drew (Below.refl _ _)) hb;clear hb;have HBn:=zh (zxt HBc.out hst);clear HBc;have HBc:=HBn;clear HBn;have Hn:=zh (H6.out.ext hst);clear H6;have H6:=Hn;clear Hn;obtain ⟨z6,_,zf6⟩:=H6.out.cells;have zl6:=H6.out.lt;have Hn:=zh (H7.out.ext hst);clear H7;have H7:=Hn;clear Hn;obtain ⟨z7,_,zf7⟩:=H7.out.cells;have zl7:=H7.out.lt;obtain ⟨d0,c0⟩:=HP.out v3 HBc.out;have sz3:v2.heap.size≤v3.heap.size:=hst.size;clear hst;try dsimp only
     refine hK.out _ _ ?_ (fun _=>?_)
     ·(try simp only [World.cell?_drew]);exact HP.out v3 HBc.out
     clear hK K
     try simp only [Act.put,tS]
     refine tkH 7 rfl ?_
     refine tkH 8 rfl ?_
     refine tkH 9 rfl ?_
     refine rdH 12 rfl fun K hK=>?_
     go_simp
     generalize hwN:World.setCell _ _ _=v4;have q0:=H6.out;have q2:v3.grownBy v4 (some wp.heap.size):=(by rw [← hwN];exact (H6.out.put hd).2);have q1:BlkI v4 wp.heap.size hd:=(by rw [← hwN];exact (H6.out.put hd).1);(try clear z6 zf6 zl6);(try clear z7 zf7 zl7);clear d0 c0;have HBn:=zh (zbp HBc.out HBc.out.size q2 (by omega));clear HBc;have HBc:=HBn;clear HBn;clear H6;have H6:=zh q1;have HSn:Hid ((Pc enc L v4 hd (gx.take n)∧Pc enc L v4 rs (gx.drop n))∧ctn enc hd.pl (gx.take n) ++ ctn enc rs.pl (gx.drop n)=ctn enc x.pl gx):=⟨⟨HSP.out.1.1.same (u8_put q2 q0),HSP.out.1.2.same (u8_put q2 q0)⟩,HSP.out.2⟩;clear HSP q0;have HSP:=HSn;clear HSn;have Hn:=zh (H7.out.other q2 (by omega));clear H7;have H7:=Hn;clear Hn;obtain ⟨z6,_,zf6⟩:=H6.out.cells;have zl6:=H6.out.lt;obtain ⟨z7,_,zf7⟩:=H7.out.cells;have zl7:=H7.out.lt;obtain ⟨d0,c0⟩:=HP.out v4 HBc.out;have sz4:=q2.size;clear hwN q1 q2
     refine hK.out _ _ ?_ (fun _=>?_)
     ·(try simp only [World.cell?_drew]);exact HP.out v4 HBc.out
     clear hK K
     try simp only [Act.put,tS]
     refine rdH 13 rfl fun K hK=>?_
     go_simp
     generalize hwN:World.setCell _ _ _=v5;have q0:=H7.out;have q2:v4.grownBy v5 (some v1.heap.size):=(by rw [← hwN];exact (H7.out.put rs).2);have q1:BlkI v5 v1.heap.size rs:=(by rw [← hwN];exact (H7.out.put rs).1);(try clear z6 zf6 zl6);(try clear z7 zf7 zl7);clear d0 c0;have HBn:=zh (zbp HBc.out HBc.out.size q2 (by omega));clear HBc;have HBc:=HBn;clear HBn;clear H7;have H7:=zh q1;have HSn:Hid ((Pc enc L v5 hd (gx.take n)∧Pc enc L v5 rs (gx.drop n))∧ctn enc hd.pl (gx.take n) ++ ctn enc rs.pl (gx.drop n)=ctn enc x.pl gx):=⟨⟨HSP.out.1.1.same (u8_put q2 q0),HSP.out.1.2.same (u8_put q2 q0)⟩,HSP.out.2⟩;clear HSP q0;have HSP:=HSn;clear HSn;have Hn:=zh (H6.out.other q2 (by omega));clear H6;have H6:=Hn;clear Hn;obtain ⟨z6,_,zf6⟩:=H6.out.cells;have zl6:=H6.out.lt;obtain ⟨z7,_,zf7⟩:=H7.out.cells;have zl7:=H7.out.lt;obtain ⟨d0,c0⟩:=HP.out v5 HBc.out;have sz5:=q2.size;clear hwN q1 q2
     refine hK.out _ _ ?_ (fun _=>?_)
     ·(try simp only [World.cell?_drew]);exact HP.out v5 HBc.out
     clear hK K
     try simp only [Act.put,tS]
     refine dnH ?_
     go_wp2_with fail
     go_meet
     case rel=>exact ⟨wp.heap.size,v1.heap.size,hd,rs,rfl,rfl,HSP,H6.out,H7.out,by omega,by omega,by omega,HBc.out⟩
   ·skip
    go_simp
    generalize hwN:World.alloc _ _=v1;have hst:Below wp.heap.size wp v1:=(by rw [← hwN];exact zxa (Below.refl _ _) _);(try clear z6 zf6 zl6);(try clear z7 zf7 zl7);clear d0 c0;have HBn:=zh (zxt HBc.out hst);clear HBc;have HBc:=HBn;clear HBn;have H7:Hid (BlkI v1 wp.heap.size It.zero):=(by unfold Hid;rw [← hwN];exact heap_alloc_new _ _);obtain ⟨z7,_,zf7⟩:=H7.out.cells;have zl7:=H7.out.lt;have lb11:wp.heap.size≤wp.heap.size:=(by exact Nat.le_refl _);have sz1:wp.heap.size < v1.heap.size:=H7.out.lt;obtain ⟨d0,c0⟩:=HP.out v1 HBc.out;clear hwN hst
    refine hK.out _ _ ?_ (fun _=>?_)
    ·(try simp only [World.cell?_drew]);exact HP.out v1 HBc.out
    clear hK K
    try simp only [Act.put,tS]
    refine wpAnyH_ready (rs:=[6,10]) (by kernel_rfl) (by simp) ?_
    refine (AllReadyH.cons (o:=_) rfl (fun K hK=>?_) (AllReadyH.cons (o:=_) rfl (fun K hK=>?_) AllReadyH.nil))
    ·skip
     go_simp
     refine (SP.out _ HBc.out.drew).mono ?_;(try clear z6 zf6 zl6);(try clear z7 zf7 zl7);clear d0 c0;rintro e v2 ⟨hd,rs,rfl,HSP,hb⟩;have hst:Below v1.heap.size v1 v2:=zxt (Below.drew (Below.refl _ _)) hb;clear hb;have HBn:=zh (zxt HBc.out hst);clear HBc;have HBc:=HBn;clear HBn;have Hn:=zh (H7.out.ext hst);clear H7;have H7:=Hn;clear Hn;obtain ⟨z7,_,zf7⟩:=H7.out.cells;have zl7:=H7.out.lt;obtain ⟨d0,c0⟩:=HP.out v2 HBc.out;have sz2:v1.heap.size≤v2.heap.size:=hst.size;clear hst;try dsimp only
     refine hK.out _ _ ?_ (fun _=>?_)
     ·(try simp only [World.cell?_drew]);exact HP.out v2 HBc.out
     clear hK K
     try simp only [Act.put,tS]
     refine tkH 7 rfl ?_
     refine tkH 8 rfl ?_
     refine tkH 9 rfl ?_
     refine rdH 10 rfl fun K hK=>?_
     go_simp
     generalize hwN:World.alloc _ _=v3;have hst:Below v2.heap.size v2 v3:=(by rw [← hwN];exact zxa (Below.refl _ _) _);(try clear z6 zf6 zl6);(try clear z7 zf7 zl7);clear d0 c0;have HSn:Hid ((Pc enc L v3 hd (gx.take n)∧Pc enc L v3 rs (gx.drop n))∧ctn enc hd.pl (gx.take n) ++ ctn enc rs.pl (gx.drop n)=ctn enc x.pl gx):=⟨⟨HSP.out.1.1.ext hst,HSP.out.1.2.ext hst⟩,HSP.out.2⟩;clear HSP;have HSP:=HSn;clear HSn;have HBn:=zh (zxt HBc.out hst);clear HBc;have HBc:=HBn;clear HBn;have Hn:=zh (H7.out.ext hst);clear H7;have H7:=Hn;clear Hn;obtain ⟨z7,_,zf7⟩:=H7.out.cells;have zl7:=H7.out.lt;have H6:Hid (BlkI v3 v2.heap.size It.zero):=(by unfold Hid;rw [← hwN];exact heap_alloc_new _ _);obtain ⟨z6,_,zf6⟩:=H6.out.cells;have zl6:=H6.out.lt;have lb10:wp.heap.size≤v2.heap.size:=(by omega);have sz3:v2.heap.size < v3.heap.size:=H6.out.lt;obtain ⟨d0,c0⟩:=HP.out v3 HBc.out;clear hwN hst
     refine hK.out _ _ ?_ (fun _=>?_)
     ·(try simp only [World.cell?_drew]);exact HP.out v3 HBc.out
     clear hK K
     try simp only [Act.put,tS]
     refine rdH 12 rfl fun K hK=>?_
     go_simp
     generalize hwN:World.setCell _ _ _=v4;have q0:=H6.out;have q2:v3.grownBy v4 (some v2.heap.size):=(by rw [← hwN];exact (H6.out.put hd).2);have q1:BlkI v4 v2.heap.size hd:=(by rw [← hwN];exact (H6.out.put hd).1);(try clear z6 zf6 zl6);(try clear z7 zf7 zl7);clear d0 c0;have HBn:=zh (zbp HBc.out HBc.out.size q2 (by omega));clear HBc;have HBc:=HBn;clear HBn;clear H6;have H6:=zh q1;have HSn:Hid ((Pc enc L v4 hd (gx.take n)∧Pc enc L v4 rs (gx.drop n))∧ctn enc hd.pl (gx.take n) ++ ctn enc rs.pl (gx.drop n)=ctn enc x.pl gx):=⟨⟨HSP.out.1.1.same (u8_put q2 q0),HSP.out.1.2.same (u8_put q2 q0)⟩,HSP.out.2⟩;clear HSP q0;have HSP:=HSn;clear HSn;have Hn:=zh (H7.out.other q2 (by omega));clear H7;have H7:=Hn;clear Hn;obtain ⟨z6,_,zf6⟩:=H6.out.cells;have zl6:=H6.out.lt;obtain ⟨z7,_,zf7⟩:=H7.out.cells;have zl7:=H7.out.lt;obtain ⟨d0,c0⟩:=HP.out v4 HBc.out;have sz4:=q2.size;clear hwN q1 q2
     refine hK.out _ _ ?_ (fun _=>?_)
     ·(try simp only [World.cell?_drew]);exact HP.out v4 HBc.out
     clear hK K
     try simp only [Act.put,tS]
     refine rdH 13 rfl fun K hK=>?_
     go_simp
     generalize hwN:World.setCell _ _ _=v5;have q0:=H7.out;have q2:v4.grownBy v5 (some wp.heap.size):=(by rw [← hwN];exact (H7.out.put rs).2);have q1:BlkI v5 wp.heap.size rs:=(by rw [← hwN];exact (H7.out.put rs).1);(try clear z6 zf6 zl6);(try clear z7 zf7 zl7);clear d0 c0;have HBn:=zh (zbp HBc.out HBc.out.size q2 (by omega));clear HBc;have HBc:=HBn;clear HBn;clear H7;have H7:=zh q1;have HSn:Hid ((Pc enc L v5 hd (gx.take n)∧Pc enc L v5 rs (gx.drop n))∧ctn enc hd.pl (gx.take n) ++ ctn enc rs.pl (gx.drop n)=ctn enc x.pl gx):=⟨⟨HSP.out.1.1.same (u8_put q2 q0),HSP.out.1.2.same (u8_put q2 q0)⟩,HSP.out.2⟩;clear HSP q0;have HSP:=HSn;clear HSn;have Hn:=zh (H6.out.other q2 (by omega));clear H6;have H6:=Hn;clear Hn;obtain ⟨z6,_,zf6⟩:=H6.out.cells;have zl6:=H6.out.lt;obtain ⟨z7,_,zf7⟩:=H7.out.cells;have zl7:=H7.out.lt;obtain ⟨d0,c0⟩:=HP.out v5 HBc.out;have sz5:=q2.size;clear hwN q1 q2
     refine hK.out _ _ ?_ (fun _=>?_)
     ·(try simp only [World.cell?_drew]);exact HP.out v5 HBc.out
     clear hK K
     try simp only [Act.put,tS]
     refine dnH ?_
     go_wp2_with fail
     go_meet
     case rel=>exact ⟨v2.heap.size,wp.heap.size,hd,rs,rfl,rfl,HSP,H6.out,H7.out,by omega,by omega,by omega,HBc.out⟩
    ·skip
     go_simp
     generalize hwN:World.alloc _ _=v2;have hst:Below v1.heap.size v1 v2:=(by rw [← hwN];exact zxa (Below.refl _ _) _);(try clear z6 zf6 zl6);(try clear z7 zf7 zl7);clear d0 c0;have HBn:=zh (zxt HBc.out hst);clear HBc;have HBc:=HBn;clear HBn;have Hn:=zh (H7.out.ext hst);clear H7;have H7:=Hn;clear Hn;obtain ⟨z7,_,zf7⟩:=H7.out.cells;have zl7:=H7.out.lt;have H6:Hid (BlkI v2 v1.heap.size It.zero):=(by unfold Hid;rw [← hwN];exact heap_alloc_new _ _);obtain ⟨z6,_,zf6⟩:=H6.out.cells;have zl6:=H6.out.lt;have lb10:wp.heap.size≤v1.heap.size:=(by omega);have sz2:v1.heap.size < v2.heap.size:=H6.out.lt;obtain ⟨d0,c0⟩:=HP.out v2 HBc.out;clear hwN hst
     refine hK.out _ _ ?_ (fun _=>?_)
     ·(try simp only [World.cell?_drew]);exact HP.out v2 HBc.out
     clear hK K
     try simp only [Act.put,tS]
     refine rdH 6 rfl fun K hK=>?_
     go_simp
     refine (SP.out _ HBc.out.drew).mono ?_;(try clear z6 zf6 zl6);(try clear z7 zf7 zl7);clear d0 c0;rintro e v3 ⟨hd,rs,rfl,HSP,hb⟩;have hst:Below v2.heap.size v2 v3:=zxt (Below.drew (Below.refl _ _)) hb;clear hb;have HBn:=zh (zxt HBc.out hst);clear HBc;have HBc:=HBn;clear HBn;have Hn:=zh (H6.out.ext hst);clear H6;have H6:=Hn;clear Hn;obtain ⟨z6,_,zf6⟩:=H6.out.cells;have zl6:=H6.out.lt;have Hn:=zh (H7.out.ext hst);clear H7;have H7:=Hn;clear Hn;obtain ⟨z7,_,zf7⟩:=H7.out.cells;have zl7:=H7.out.lt;obtain ⟨d0,c0⟩:=HP.out v3 HBc.out;have sz3:v2.heap.size≤v3.heap.size:=hst.size;clear hst;try dsimp only
     refine hK.out _ _ ?_ (fun _=>?_)
     ·(try simp only [World.cell?_drew]);exact HP.out v3 HBc.out
     clear hK K
     try simp only [Act.put,tS]
     refine tkH 7 rfl ?_
     refine tkH 8 rfl ?_
     refine tkH 9 rfl ?_
     refine rdH 12 rfl fun K hK=>?_
     go_simp
     generalize hwN:World.setCell _ _ _=v4;have q0:=H6.out;have q2:v3.grownBy v4 (some v1.heap.size):=(by rw [← hwN];exact (H6.out.put hd).2);have q1:BlkI v4 v1.heap.size hd:=(by rw [← hwN];exact (H6.out.put hd).1);(try clear z6 zf6 zl6);(try clear z7 zf7 zl7);clear d0 c0;have HBn:=zh (zbp HBc.out HBc.out.size q2 (by omega));clear HBc;have HBc:=HBn;clear HBn;clear H6;have H6:=zh q1;have HSn:Hid ((Pc enc L v4 hd (gx.take n)∧Pc enc L v4 rs (gx.drop n))∧ctn enc hd.pl (gx.take n) ++ ctn enc rs.pl (gx.drop n)=ctn enc x.pl gx):=⟨⟨HSP.out.1.1.same (u8_put q2 q0),HSP.out.1.2.same (u8_put q2 q0)⟩,HSP.out.2⟩;clear HSP q0;have HSP:=HSn;clear HSn;have Hn:=zh (H7.out.other q2 (by omega));clear H7;have H7:=Hn;clear Hn;obtain ⟨z6,_,zf6⟩:=H6.out.cells;have zl6:=H6.out.lt;obtain ⟨z7,_,zf7⟩:=H7.out.cells;have zl7:=H7.out.lt;obtain ⟨d0,c0⟩:=HP.out v4 HBc.out;have sz4:=q2.size;clear hwN q1 q2
     refine hK.out _ _ ?_ (fun _=>?_)
     ·(try simp only [World.cell?_drew]);exact HP.out v4 HBc.out
     clear hK K
     try simp only [Act.put,tS]
     refine rdH 13 rfl fun K hK=>?_
     go_simp
     generalize hwN:World.setCell _ _ _=v5;have q0:=H7.out;have q2:v4.grownBy v5 (some wp.heap.size):=(by rw [← hwN];exact (H7.out.put rs).2);have q1:BlkI v5 wp.heap.size rs:=(by rw [← hwN];exact (H7.out.put rs).1);(try clear z6 zf6 zl6);(try clear z7 zf7 zl7);clear d0 c0;have HBn:=zh (zbp HBc.out HBc.out.size q2 (by omega));clear HBc;have HBc:=HBn;clear HBn;clear H7;have H7:=zh q1;have HSn:Hid ((Pc enc L v5 hd (gx.take n)∧Pc enc L v5 rs (gx.drop n))∧ctn enc hd.pl (gx.take n) ++ ctn enc rs.pl (gx.drop n)=ctn enc x.pl gx):=⟨⟨HSP.out.1.1.same (u8_put q2 q0),HSP.out.1.2.same (u8_put q2 q0)⟩,HSP.out.2⟩;clear HSP q0;have HSP:=HSn;clear HSn;have Hn:=zh (H6.out.other q2 (by omega));clear H6;have H6:=Hn;clear Hn;obtain ⟨z6,_,zf6⟩:=H6.out.cells;have zl6:=H6.out.lt;obtain ⟨z7,_,zf7⟩:=H7.out.cells;have zl7:=H7.out.lt;obtain ⟨d0,c0⟩:=HP.out v5 HBc.out;have sz5:=q2.size;clear hwN q1 q2
     refine hK.out _ _ ?_ (fun _=>?_)
     ·(try simp only [World.cell?_drew]);exact HP.out v5 HBc.out
     clear hK K
     try simp only [Act.put,tS]
     refine dnH ?_
     go_wp2_with fail
     go_meet
     case rel=>exact ⟨v1.heap.size,wp.heap.size,hd,rs,rfl,rfl,HSP,H6.out,H7.out,by omega,by omega,by omega,HBc.out⟩
  obtain ⟨b6,b7,hd,rs,rfl,rfl,HSP,h6,h7,l6,l7,hne,hbw⟩:=hcut
  generalize hwc:wc=w2 at *
  have hsp:=HSZ.out
  clear hwc HP SP d0 c0
  have HW2:=zh (HWP.out.ext hbw)
  obtain ⟨⟨_,_,cg2,_⟩,_⟩:=HW2.out.cells
  obtain ⟨e0,_,_⟩:=h7.cells
  have hr2:=((HROW.out.ext HBP.out).ext hbw).cell 0 (by simp [xsOf])
  rw [show (xsOf ((x,gx) :: os))[0]?.getD It.zero=x from rfl,Nat.zero_mul,Nat.add_zero] at hr2
  have hfb:∀ i,w2.frozen? ⟨bo,i,none⟩=false:=by
   obtain ⟨cs,hcs,_⟩:=(HROW.out.ext HBP.out).ext hbw
   intro i
   simp [World.frozen?,hcs]
  have hbl2:bo < w2.heap.size:=Nat.lt_of_lt_of_le (by omega) hbw.size
  have n1:¬ g=bo:=fun e=>by
   have t1:=HW0.out.typ
   rw [e] at t1
   exact absurd (t1.uniq HROW.out.typ) (by decide)
  have n2:¬ b7=bo:=by omega
  have RE:=HW2.out.rep rs (gx.drop n) HSP.out.1.2
  have RG:w2.grownBy (((((((w2.setCell ⟨bo,o,none⟩ (.slice rs.p rs.n rs.c)).setCell ⟨bo,o + 1,none⟩ (.int .i64 rs.pl)).setCell ⟨bo,o + 2,none⟩ (.int .i64 rs.sp.a)).setCell ⟨bo,o + 3,none⟩ (.int .i64 rs.sp.s)).setCell ⟨bo,o + 4,none⟩ (.int .i64 rs.sp.b)).setCell ⟨bo,o + 5,none⟩ (.bool rs.sp.lf)).setCell ⟨bo,o + 6,none⟩ (.bool rs.sp.cr)) (some bo):=by
   obtain ⟨cs,hcs,_⟩:=(HROW.out.ext HBP.out).ext hbw
   exact (put7 hcs o rs).2
  simp only [Nat.zero_mul,Nat.add_zero] at RE
  have RE:=And.intro RE RG
  clear RG
  go_upto_region 6 with fail
  refine wp_region_held_drew (S:=fun w''=>w''.cell? ⟨g,2,none⟩=some (.slice (some ⟨bo,o,none⟩) (os.length + 1) c)∧(w''.cell? ⟨b7,0,none⟩=some (.slice rs.p rs.n rs.c)∧w''.cell? ⟨b7,1,none⟩=some (.int .i64 rs.pl)∧w''.cell? ⟨b7,2,none⟩=some (.int .i64 rs.sp.a)∧w''.cell? ⟨b7,3,none⟩=some (.int .i64 rs.sp.s)∧w''.cell? ⟨b7,4,none⟩=some (.int .i64 rs.sp.b)∧w''.cell? ⟨b7,5,none⟩=some (.bool rs.sp.lf)∧w''.cell? ⟨b7,6,none⟩=some (.bool rs.sp.cr))) (by kernel_rfl) (⟨cg2,e0⟩) (fun _=>?_)
  refine tkH 0 rfl ?_
  refine tkH 1 rfl ?_
  refine tkH 2 rfl ?_
  refine tkH 3 rfl ?_
  refine tkH 4 rfl ?_
  refine rdH 5 rfl fun K hK=>?_
  go_simp
  refine hK.out _ _ ?_ (fun _=>?_)
  ·(try simp only [World.cell?_drew]);exact ⟨cg2,e0⟩
  clear hK K
  try simp only [Act.put,tS]
  refine rdH 6 rfl fun K hK=>?_
  go_simp
  generalize hwN:World.setCell _ _ _=w3;rw [hwN] at RE;have HRE:=zh RE;have s3:w3.cell? ⟨g,2,none⟩=some (.slice (some ⟨bo,o,none⟩) (os.length + 1) c)∧(w3.cell? ⟨b7,0,none⟩=some (.slice rs.p rs.n rs.c)∧w3.cell? ⟨b7,1,none⟩=some (.int .i64 rs.pl)∧w3.cell? ⟨b7,2,none⟩=some (.int .i64 rs.sp.a)∧w3.cell? ⟨b7,3,none⟩=some (.int .i64 rs.sp.s)∧w3.cell? ⟨b7,4,none⟩=some (.int .i64 rs.sp.b)∧w3.cell? ⟨b7,5,none⟩=some (.bool rs.sp.lf)∧w3.cell? ⟨b7,6,none⟩=some (.bool rs.sp.cr)):=(by rw [← hwN];simp only [zcs n1,zcs n2];exact ⟨cg2,e0⟩);clear hwN RE
  refine hK.out _ _ ?_ (fun _=>?_)
  ·(try simp only [World.cell?_drew]);exact s3
  clear hK K
  try simp only [Act.put,tS]
  refine dnH ?_
  have g3:=HRE.out.2
  obtain ⟨q0,_,_⟩:=(h6.other g3 (by omega)).cells
  have k0:=(HKR.out.ext hbw).other g3 (by omega)
  obtain ⟨r0,_,rf⟩:=k0.cells
  have rl:=k0.lt
  have F:=zh (nx_fin (n:=n) HW0.out ((Kps.of_below _ (zxt HBP.out hbw)).trans HRE.out.1.2 fun _ _ e=>e) HRE.out.1.1 k0 hd (gx.take n) (HSP.out.1.1.same (u8_kept HRE.out.1.2 fun _=>HW2.out.own_nu)) (by rw [List.length_take];omega) (by rw [sh_cons,sh_cons,← List.append_assoc,HSP.out.2]))
  clear HRE s3 cg2 e0
  go_wp2_with fail
  exact bodyPost_ret (v:=.agg #[.slice hd.p hd.n hd.c,.int .i64 hd.pl,.int .i64 hd.sp.a,.int .i64 hd.sp.s,.int .i64 hd.sp.b,.bool hd.sp.lf,.bool hd.sp.cr]) (by simp [results,Tryz.results123,go_sem,r0,It.zero,Rs.zero]) rfl F.out.drew
end Go.Proofs.YtdhciadajendnaaGreat.P
