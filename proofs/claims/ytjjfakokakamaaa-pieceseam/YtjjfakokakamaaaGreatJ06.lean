import Derived.Test.YtjjfakokakamaaaGreatJ05
namespace Go.Proofs.YtjjfakokakamaaaGreat.P
open Go.RowKit
def NxR (enc:Int) (L:List Int) (g bo n:Nat) (w:World) (lv vm:Value) (os ms:List PG) (e:Ending) (w':World):Prop :=
 ∃ (y:It) (gy:List Int) (vo':Value) (os':List PG),e=.returned (.agg #[.slice y.p y.n y.c,.int .i64 y.pl,.int .i64 y.sp.a,.int .i64 y.sp.s,.int .i64 y.sp.b,.bool y.sp.lf,.bool y.sp.cr])∧Pc enc L w' y gy∧gy.length≤n∧Wr enc L g bo w' lv vo' vm os' ms∧ctn enc y.pl gy ++ sh enc os'=sh enc os∧Kps (ow g bo vm) w w'
theorem u8_put {w w':World} {k:Nat} {x:It} (hg:w.grownBy w' (some k)) (hx:BlkI w k x):∀ b,Typ 5 w b→w'.heap[b]?=w.heap[b]?:=fun b hb=>hg.block b hb.lt (fun e=>by cases e;exact absurd (hb.uniq ⟨_,hx⟩) (by decide))
theorem Pc.cut {enc:Int} (he:Cx.En enc) {L:List Int} (hL:Byt L) {w:World} {x hd rs:It} {g:List Int} (hx:Pc enc L w x g) (n:Nat) (h0:0 < n) (hn:n < g.length) (b o:Nat) (hp:x.p=some ⟨b,o,none⟩)
  (h:hd.p=x.p∧hd.n=off enc (Cx.encB enc g) n∧hd.c=off enc (Cx.encB enc g) n∧hd.pl=x.pl∧hd.sp=spn enc ((Cx.dec enc (Cx.encB enc g)).take n)∧rs.p=some ⟨b,o + off enc (Cx.encB enc g) n,none⟩∧rs.n=(Cx.encB enc g).length - off enc (Cx.encB enc g) n∧rs.c=(Cx.encB enc g).length - off enc (Cx.encB enc g) n∧rs.pl=tg x.pl (off enc (Cx.encB enc g) n)∧rs.sp=spn enc ((Cx.dec enc (Cx.encB enc g)).drop n)) :
  Pc enc L w hd (g.take n)∧Pc enc L w rs (g.drop n)∧ctn enc hd.pl (g.take n) ++ ctn enc rs.pl (g.drop n)=ctn enc x.pl g:=by
 obtain ⟨h1,h2,h3,h4,h5,h6,h7,h8,h9,h10⟩:=h
 rw [hx.gr.dec] at h5 h10
 rw [off_gr hx.gr] at h2 h3 h6 h7 h8 h9
 obtain ⟨g1,g2⟩:=hx.gr.cut he n h0 hn
 have eB:Cx.encB enc g=Cx.encB enc (g.take n) ++ Cx.encB enc (g.drop n):=by rw [← Cx.encB_app,List.take_append_drop]
 have eL:(Cx.encB enc g).length=ln enc (g.take n) + ln enc (g.drop n):=by rw [eB,List.length_append];rfl
 obtain ⟨b',o',hp',hr⟩:=hx.mem
 rw [hp] at hp'
 simp only [Option.some.injEq,Addr.mk.injEq,and_true] at hp'
 obtain ⟨rfl,rfl⟩:=hp'
 have r1:=hr.part 0 (ln enc (g.take n)) (by omega)
 have r2:=hr.part (ln enc (g.take n)) (ln enc (g.drop n)) (by omega)
 rw [List.drop_zero,eB,List.take_left' (show (Cx.encB enc (g.take n)).length=ln enc (g.take n) from rfl)] at r1
 rw [eB,List.drop_left' (show (Cx.encB enc (g.take n)).length=ln enc (g.take n) from rfl),List.take_of_length_le (show (Cx.encB enc (g.drop n)).length≤ln enc (g.drop n) from Nat.le_refl _)] at r2
 refine ⟨⟨g1,⟨b,o,by rw [h1,hp],r1⟩,h2,h3,h5,?_⟩,⟨g2,⟨b,_,h6,r2⟩,by rw [h7,eL];omega,by rw [h8,eL];omega,h10,?_⟩,?_⟩
 ·rw [h4]
  rcases hx.pl with e | ⟨i,e1,e2,e3⟩
  ·exact .inl e
  ·refine .inr ⟨i,e1,?_,?_⟩
   ·conv=>rhs;rw [← e2]
    rw [List.take_take,List.length_take]
   ·rw [List.length_take];omega
 ·rw [h9]
  rcases hx.pl with e | ⟨i,e1,e2,e3⟩
  ·exact .inl (by rw [e];rfl)
  ·have t1:((Cx.dec enc L).drop i).take (g.take n).length=g.take n:=by
    conv=>rhs;rw [← e2]
    rw [List.take_take,List.length_take]
   obtain ⟨_,_,q3,_⟩:=Gr.load he hL t1 (by rw [List.length_take];omega) g1.ne
   rw [List.length_take,Nat.min_eq_left (by omega)] at q3
   refine .inr ⟨i + n,?_,?_,by rw [List.length_drop];omega⟩
   ·unfold tg
    rw [if_neg (by omega),e1,← q3]
    omega
   ·conv=>rhs;rw [← e2]
    rw [List.drop_take,List.drop_drop,List.length_drop]
 ·rw [h4,h9,← ctn_app enc _ _ _ hx.low,List.take_append_drop]
theorem NxR.drew {enc:Int} {L:List Int} {g bo n:Nat} {w w':World} {lv vm:Value} {os ms:List PG} {e:Ending} (h:NxR enc L g bo n w lv vm os ms e w'):NxR enc L g bo n w lv vm os ms e w'.drew:=by
 obtain ⟨y,gy,vo',os',h1,h2,h3,h4,h5,h6⟩:=h
 have hb:Below w'.heap.size w' w'.drew:=(Below.refl _ _).drew
 exact ⟨y,gy,vo',os',h1,h2.ext hb,h3,h4.ext hb,h5,h6.trans (Kps.of_below _ hb) fun _ _ e=>e⟩
theorem nx_fin {enc:Int} {L:List Int} {g bo n:Nat} {w w1:World} {lv vo vo' vm:Value} {os os' ms:List PG} (h0:Wr enc L g bo w lv vo vm os ms) (k1:Kps (ow g bo vm) w w1) (h1:Wr enc L g bo w1 lv vo' vm os' ms) {z0:It} (hr:BlkI w1 w.heap.size z0) (y:It) (gy:List Int) (hy:Pc enc L w1 y gy) (hn:gy.length≤n) (hs:ctn enc y.pl gy ++ sh enc os'=sh enc os) :
  NxR enc L g bo n w lv vm os ms (.returned (.agg #[.slice y.p y.n y.c,.int .i64 y.pl,.int .i64 y.sp.a,.int .i64 y.sp.s,.int .i64 y.sp.b,.bool y.sp.lf,.bool y.sp.cr])) (((((((w1.setCell ⟨w.heap.size,0,none⟩ (.slice y.p y.n y.c)).setCell ⟨w.heap.size,1,none⟩ (.int .i64 y.pl)).setCell ⟨w.heap.size,2,none⟩ (.int .i64 y.sp.a)).setCell ⟨w.heap.size,3,none⟩ (.int .i64 y.sp.s)).setCell ⟨w.heap.size,4,none⟩ (.int .i64 y.sp.b)).setCell ⟨w.heap.size,5,none⟩ (.bool y.sp.lf)).setCell ⟨w.heap.size,6,none⟩ (.bool y.sp.cr)):=by
 obtain ⟨p1,p2⟩:=hr.put y
 refine ⟨y,gy,vo',os',rfl,hy.same (u8_put p2 hr),hn,h1.other p2 (fun e=>by have:=h0.own_lt e;omega) (fun e=>absurd (e.uniq ⟨_,hr⟩) (by decide)),hs,?_⟩
 exact k1.trans (Kps.grown (o:=fun k=>k=w.heap.size) p2 fun j e _=>(Option.some.inj e).symm) fun i hi e=>by subst e;omega
set_option maxRecDepth 100000 in
set_option maxHeartbeats 8000000 in
theorem next_any (enc:Int) (he:Cx.En enc) (L:List Int) (hL:Byt L) (hLl:L.length≤1073741824) (g bo n:Nat) (lv vo vm:Value) (x:It) (gx:List Int) (os ms:List PG) (w:World) (hW:Wr enc L g bo w lv vo vm ((x,gx) :: os) ms) (h0:0 < n) (hl:ln enc gx≤1073741824) :
  Calls Tryz.prog 121 #[.pointer (some ⟨g,0,none⟩),.int .i64 n] w fun e w'=>NxR enc L g bo n w lv vm ((x,gx) :: os) ms e w':=by
 have hx:Pc enc L w x gx:=hW.po (x,gx) List.mem_cons_self
 rcases id hW.old with ⟨e,_⟩ | ⟨o,c,hvo,hc1,hc2,hrow⟩
 ·exact absurd e (by simp [xsOf])
 subst hvo
 rw [xsOf_len,List.length_cons] at hc1 hW
 obtain ⟨⟨cg0,cg1,cg2,cg3⟩,cgf⟩:=hW.cells
 have hr0:=hrow.cell 0 (by simp [xsOf])
 rw [show (xsOf ((x,gx) :: os))[0]?.getD It.zero=x from rfl,Nat.zero_mul,Nat.add_zero] at hr0
 have hgl:=hW.lt
 have hbl:=hW.bl
 obtain ⟨wp,hwp,kr,kx,hbp,hsp⟩:∃ wp,wp=(w.alloc (.cells #[.slice none 0 0,.int .i64 0,.int .i64 0,.int .i64 0,.int .i64 0,.bool false,.bool false] 122)).alloc (.cells #[.slice x.p x.n x.c,.int .i64 x.pl,.int .i64 x.sp.a,.int .i64 x.sp.s,.int .i64 x.sp.b,.bool x.sp.lf,.bool x.sp.cr] 122)∧BlkI wp w.heap.size It.zero∧BlkI wp (w.heap.size + 1) x∧Below w.heap.size w wp∧wp.heap.size=w.heap.size + 2:=by
  refine ⟨_,rfl,BlkI.ext (w:=w.alloc _) (heap_alloc_new _ _) (ext_alloc (Below.refl _ _) _),?_,ext_alloc (ext_alloc (Below.refl _ _) _) _,by simp⟩
  have e:w.heap.size + 1=(w.alloc (.cells #[.slice none 0 0,.int .i64 0,.int .i64 0,.int .i64 0,.int .i64 0,.bool false,.bool false] 122)).heap.size:=by simp
  rw [e]
  exact heap_alloc_new _ _
 have HKR:=hidIt kr
 have HKX:=hidIt kx
 have HBP:=hidIt hbp
 have HWP:=hidIt (hW.ext hbp)
 have HW0:=hidIt hW
 have HROW:=hidIt hrow
 have HXX:=hidIt hx
 have HLB:=hidIt hL
 have HEN:=hidIt he
 have xa:x.sp.a=(gx.length:Nat):=by rw [hx.sp,(spn_a enc gx hx.gr.fit).1]
 have HP:Hid (∀ w',Below wp.heap.size wp w'→(w'.cell? ⟨w.heap.size + 1,0,none⟩=some (.slice x.p x.n x.c)∧w'.cell? ⟨w.heap.size + 1,1,none⟩=some (.int .i64 x.pl)∧w'.cell? ⟨w.heap.size + 1,2,none⟩=some (.int .i64 x.sp.a)∧w'.cell? ⟨w.heap.size + 1,3,none⟩=some (.int .i64 x.sp.s)∧w'.cell? ⟨w.heap.size + 1,4,none⟩=some (.int .i64 x.sp.b)∧w'.cell? ⟨w.heap.size + 1,5,none⟩=some (.bool x.sp.lf)∧w'.cell? ⟨w.heap.size + 1,6,none⟩=some (.bool x.sp.cr))∧w'.cell? ⟨g,0,none⟩=some (.int .i64 enc)):=fun w' hb=>⟨(kx.ext hb).cells.1,((ext_trans hbp hb).cell (p:=⟨g,0,none⟩) hgl).trans cg0⟩
 clear kr kx hbp hrow hx hL he hW
 by_cases hle:gx.length≤n
 ·have hle':x.sp.a≤(n:Int):=by omega
  have XA:=hidIt xa
  clear xa
  go_enter Tryz.func121,Tryz.ntmps121
  go_upto_region 2 with fail
  rw [← hwp]
  clear hwp cg0 cg1 cg2 cg3 cgf hr0
  obtain ⟨d0,_⟩:=HP.out wp (Below.refl _ _)
  obtain ⟨⟨_,_,cg2,_⟩,cgf⟩:=HWP.out.cells
  obtain ⟨r0,_,rf⟩:=HKR.out.cells
  have rl:=HKR.out.lt
  have hgl':=HWP.out.lt
  have hng:¬ g=w.heap.size:=by omega
  have FIN:Hid (∀ v,OldR wp bo v (xsOf os)→NxR enc L g bo n w lv vm ((x,gx) :: os) ms (.returned (.agg #[.slice x.p x.n x.c,.int .i64 x.pl,.int .i64 x.sp.a,.int .i64 x.sp.s,.int .i64 x.sp.b,.bool x.sp.lf,.bool x.sp.cr])) ((((((((wp.setCell ⟨g,2,none⟩ v).setCell ⟨w.heap.size,0,none⟩ (.slice x.p x.n x.c)).setCell ⟨w.heap.size,1,none⟩ (.int .i64 x.pl)).setCell ⟨w.heap.size,2,none⟩ (.int .i64 x.sp.a)).setCell ⟨w.heap.size,3,none⟩ (.int .i64 x.sp.s)).setCell ⟨w.heap.size,4,none⟩ (.int .i64 x.sp.b)).setCell ⟨w.heap.size,5,none⟩ (.bool x.sp.lf)).setCell ⟨w.heap.size,6,none⟩ (.bool x.sp.cr))):=fun v hv=>by
   obtain ⟨a1,a2⟩:=HWP.out.adv hv
   obtain ⟨_,s2⟩:=set1 HWP.out.blk 2 v
   exact nx_fin HW0.out ((Kps.of_below _ HBP.out).trans a2 fun _ _ e=>e) a1 (HKR.out.other s2 (by omega)) x gx ((HXX.out.ext HBP.out).same (u8_kept a2 fun _=>HWP.out.own_nu)) hle (by rw [sh_cons])
  by_cases hc:c=1
  ·subst hc
   have hos:os=[]:=List.length_eq_zero_iff.1 (by omega)
   have F:=hidIt (FIN.out (.slice (some ⟨bo,o,none⟩) 0 0) (.inl ⟨by rw [hos];rfl,_,_,rfl⟩))
   clear FIN hos
   go_wp2_with fail
   exact bodyPost_ret (v:=.agg #[.slice x.p x.n x.c,.int .i64 x.pl,.int .i64 x.sp.a,.int .i64 x.sp.s,.int .i64 x.sp.b,.bool x.sp.lf,.bool x.sp.cr]) (by simp [results,Tryz.results121,go_sem,r0,It.zero,Rs.zero]) rfl F.out
  ·have F:=hidIt (FIN.out (.slice (some ⟨bo,o + 7,none⟩) os.length (c - 1)) (.inr ⟨o + 7,c - 1,by rw [xsOf_len],by rw [xsOf_len];omega,by omega,(HROW.out.ext HBP.out).tail⟩))
   clear FIN
   go_wp2_with fail
   exact bodyPost_ret (v:=.agg #[.slice x.p x.n x.c,.int .i64 x.pl,.int .i64 x.sp.a,.int .i64 x.sp.s,.int .i64 x.sp.b,.bool x.sp.lf,.bool x.sp.cr]) (by simp [results,Tryz.results121,go_sem,r0,It.zero,Rs.zero]) rfl F.out
 ·have hle':¬ x.sp.a≤(n:Int):=by omega
  have XA:=hidIt xa
  have SP:Hid (∀ w',Below wp.heap.size wp w'→Calls Tryz.prog 68 #[.agg #[.slice x.p x.n x.c,.int .i64 x.pl,.int .i64 x.sp.a,.int .i64 x.sp.s,.int .i64 x.sp.b,.bool x.sp.lf,.bool x.sp.cr],.int .i64 enc,.int .i64 n] w' fun e w''=>∃ hd rs:It,e=.returned (.tuple #[.agg #[.slice hd.p hd.n hd.c,.int .i64 hd.pl,.int .i64 hd.sp.a,.int .i64 hd.sp.s,.int .i64 hd.sp.b,.bool hd.sp.lf,.bool hd.sp.cr],.agg #[.slice rs.p rs.n rs.c,.int .i64 rs.pl,.int .i64 rs.sp.a,.int .i64 rs.sp.s,.int .i64 rs.sp.b,.bool rs.sp.lf,.bool rs.sp.cr]]) ∧
   Hid ((Pc enc L w'' hd (gx.take n)∧Pc enc L w'' rs (gx.drop n))∧ctn enc hd.pl (gx.take n) ++ ctn enc rs.pl (gx.drop n)=ctn enc x.pl gx)∧Below w'.heap.size w' w''):=fun w' hb=>by
   have hx':=(HXX.out.ext HBP.out).ext hb
   obtain ⟨b1,o1,hp1,_⟩:=hx'.mem
   have h2:=hx'.end HEN.out HLB.out
   have h3:(Cx.encB enc gx).length=ln enc gx:=rfl
   refine (split_any enc HEN.out x (Cx.encB enc gx) n w' (hx'.rd (by omega)) hx'.gr.byt (by omega) (by rw [hx'.gr.dec];exact hx'.sp) h0 (by rw [hx'.gr.dec];omega) hx'.low (by omega) b1 o1 hp1 (by rw [hx'.xc];exact Nat.le_refl _)).mono fun e w'' ⟨hd,rs,h4,h5,h6⟩=>⟨hd,rs,h4,?_,h6⟩
   obtain ⟨k1,k2,k3⟩:=Pc.cut HEN.out HLB.out (hx'.ext h6) n h0 (by omega) b1 o1 hp1 h5.out
   exact ⟨⟨k1,k2⟩,k3⟩
  clear xa
  go_enter Tryz.func121,Tryz.ntmps121
  go_upto_region 2 with fail
  rw [← hwp]
  clear hwp cg0 cg1 cg2 cg3 cgf hr0
  obtain ⟨d0,c0⟩:=HP.out wp (Below.refl _ _)
  go_upto_region 5 with fail
  have HBc:=hidIt (Below.refl wp.heap.size wp)
  have HSZ:=hidIt hsp
  clear hsp
  go_cut [6,7] from 28 to 37 (fun p q wF=>∃ (b6 b7:Nat) (hd rs:It),p=.pointer (some ⟨b6,0,none⟩)∧q=.pointer (some ⟨b7,0,none⟩)∧Hid ((Pc enc L wF hd (gx.take n)∧Pc enc L wF rs (gx.drop n))∧ctn enc hd.pl (gx.take n) ++ ctn enc rs.pl (gx.drop n)=ctn enc x.pl gx)∧BlkI wF b6 hd∧BlkI wF b7 rs∧wp.heap.size≤b6∧wp.heap.size≤b7∧b6≠b7∧Below wp.heap.size wp wF)
  case first =>
   refine wp_region_held_drew (S:=fun w''=>(w''.cell? ⟨w.heap.size + 1,0,none⟩=some (.slice x.p x.n x.c)∧w''.cell? ⟨w.heap.size + 1,1,none⟩=some (.int .i64 x.pl)∧w''.cell? ⟨w.heap.size + 1,2,none⟩=some (.int .i64 x.sp.a)∧w''.cell? ⟨w.heap.size + 1,3,none⟩=some (.int .i64 x.sp.s)∧w''.cell? ⟨w.heap.size + 1,4,none⟩=some (.int .i64 x.sp.b)∧w''.cell? ⟨w.heap.size + 1,5,none⟩=some (.bool x.sp.lf)∧w''.cell? ⟨w.heap.size + 1,6,none⟩=some (.bool x.sp.cr))∧w''.cell? ⟨g,0,none⟩=some (.int .i64 enc)) (by kernel_rfl) (⟨d0,c0⟩) (fun hHeld=>?_)
   refine tkH (v:=?_) 0 rfl ?_ ?_;rotate_left 1
   ·intro wq hSw;(try dsimp only at hSw);go_simp;try (with_reducible rfl)
   try simp only [Act.put,sA1,sA3,sA4,sA5,sA6]
   refine tkH (v:=?_) 1 rfl ?_ ?_;rotate_left 1
   ·intro wq hSw;(try dsimp only at hSw);go_simp;try (with_reducible rfl)
   try simp only [Act.put,sA1,sA2,sA3,sA4,sA5,sA6]
   refine tkH (v:=?_) 2 rfl ?_ ?_;rotate_left 1
   ·intro wq hSw;(try dsimp only at hSw);go_simp;try (with_reducible rfl)
   try simp only [Act.put,sA1,sA2,sA3,sA4,sA5,sA6]
   refine tkH (v:=?_) 3 rfl ?_ ?_;rotate_left 1
   ·intro wq hSw;(try dsimp only at hSw);go_simp;try (with_reducible rfl)
   try simp only [Act.put,sA1,sA2,sA3,sA4,sA5,sA6]
   refine tkH (v:=?_) 4 rfl ?_ ?_;rotate_left 1
   ·intro wq hSw;(try dsimp only at hSw);go_simp;try (with_reducible rfl)
   try simp only [Act.put,sA1,sA2,sA3,sA4,sA5,sA6]
   refine tkH (v:=?_) 5 rfl ?_ ?_;rotate_left 1
   ·intro wq hSw;(try dsimp only at hSw);go_simp;try (with_reducible rfl)
   try simp only [Act.put,sA1,sA2,sA3,sA4,sA5,sA6]
   refine wpAnyH_ready (rs:=[6,10,11]) (by kernel_rfl) (by simp) ?_
   refine (AllReadyH.cons (o:=_) rfl (fun K hK=>?_) (AllReadyH.cons (o:=_) rfl (fun K hK=>?_) (AllReadyH.cons (o:=_) rfl (fun K hK=>?_) AllReadyH.nil)))
   ·skip
    go_simp
    refine (SP.out _ HBc.out.drew).mono ?_;(try clear z6 zf6 zl6);(try clear z7 zf7 zl7);clear d0 c0;rintro e v1 ⟨hd,rs,rfl,HSP,hb⟩;have hst:Below wp.heap.size wp v1:=ext_trans (Below.drew (Below.refl _ _)) hb;clear hb;have HBn:=hidIt (ext_trans HBc.out hst);clear HBc;have HBc:=HBn;clear HBn;obtain ⟨d0,c0⟩:=HP.out v1 HBc.out;have sz1:wp.heap.size≤v1.heap.size:=hst.size;clear hst;try dsimp only
    refine hK.out _ _ ?_ (fun hHeld=>?_)
    ·(try simp only [World.cell?_drew]);exact HP.out v1 HBc.out
    clear hK K
    try simp only [Act.put,sA1,sA2,sA3,sA4,sA5,sA6]
    refine tkH (v:=?_) 7 rfl ?_ ?_;rotate_left 1
    ·intro wq hSw;(try dsimp only at hSw);go_simp;try (with_reducible rfl)
    try simp only [Act.put,sA1,sA2,sA3,sA4,sA5,sA6]
    refine tkH (v:=?_) 8 rfl ?_ ?_;rotate_left 1
    ·intro wq hSw;(try dsimp only at hSw);go_simp;try (with_reducible rfl)
    try simp only [Act.put,sA1,sA2,sA3,sA4,sA5,sA6]
    refine tkH (v:=?_) 9 rfl ?_ ?_;rotate_left 1
    ·intro wq hSw;(try dsimp only at hSw);go_simp;try (with_reducible rfl)
    try simp only [Act.put,sA1,sA2,sA3,sA4,sA5,sA6]
    refine wpAnyH_ready (rs:=[10,11]) (by kernel_rfl) (by simp) ?_
    refine (AllReadyH.cons (o:=_) rfl (fun K hK=>?_) (AllReadyH.cons (o:=_) rfl (fun K hK=>?_) AllReadyH.nil))
    ·skip
     go_simp
     generalize hwN:World.alloc _ _=v2;have hst:Below v1.heap.size v1 v2:=(by rw [← hwN];exact ext_alloc (Below.refl _ _) _);(try clear z6 zf6 zl6);(try clear z7 zf7 zl7);clear d0 c0;have HSn:Hid ((Pc enc L v2 hd (gx.take n)∧Pc enc L v2 rs (gx.drop n))∧ctn enc hd.pl (gx.take n) ++ ctn enc rs.pl (gx.drop n)=ctn enc x.pl gx):=⟨⟨HSP.out.1.1.ext hst,HSP.out.1.2.ext hst⟩,HSP.out.2⟩;clear HSP;have HSP:=HSn;clear HSn;have HBn:=hidIt (ext_trans HBc.out hst);clear HBc;have HBc:=HBn;clear HBn;have H6:Hid (BlkI v2 v1.heap.size It.zero):=(by unfold Hid;rw [← hwN];exact heap_alloc_new _ _);obtain ⟨z6,_,zf6⟩:=H6.out.cells;have zl6:=H6.out.lt;have lb10:wp.heap.size≤v1.heap.size:=(by omega);have sz2:v1.heap.size < v2.heap.size:=H6.out.lt;obtain ⟨d0,c0⟩:=HP.out v2 HBc.out;clear hwN hst
     refine hK.out _ _ ?_ (fun hHeld=>?_)
     ·(try simp only [World.cell?_drew]);exact HP.out v2 HBc.out
     clear hK K
     try simp only [Act.put,sA1,sA2,sA3,sA4,sA5,sA6]
     refine wpAnyH_ready (rs:=[11]) (by kernel_rfl) (by simp) ?_
     refine AllReadyH.cons (o:=_) rfl (fun K hK=>?_) AllReadyH.nil
     go_simp
     generalize hwN:World.alloc _ _=v3;have hst:Below v2.heap.size v2 v3:=(by rw [← hwN];exact ext_alloc (Below.refl _ _) _);(try clear z6 zf6 zl6);(try clear z7 zf7 zl7);clear d0 c0;have HSn:Hid ((Pc enc L v3 hd (gx.take n)∧Pc enc L v3 rs (gx.drop n))∧ctn enc hd.pl (gx.take n) ++ ctn enc rs.pl (gx.drop n)=ctn enc x.pl gx):=⟨⟨HSP.out.1.1.ext hst,HSP.out.1.2.ext hst⟩,HSP.out.2⟩;clear HSP;have HSP:=HSn;clear HSn;have HBn:=hidIt (ext_trans HBc.out hst);clear HBc;have HBc:=HBn;clear HBn;have Hn:=hidIt (H6.out.ext hst);clear H6;have H6:=Hn;clear Hn;obtain ⟨z6,_,zf6⟩:=H6.out.cells;have zl6:=H6.out.lt;have H7:Hid (BlkI v3 v2.heap.size It.zero):=(by unfold Hid;rw [← hwN];exact heap_alloc_new _ _);obtain ⟨z7,_,zf7⟩:=H7.out.cells;have zl7:=H7.out.lt;have lb11:wp.heap.size≤v2.heap.size:=(by omega);have sz3:v2.heap.size < v3.heap.size:=H7.out.lt;obtain ⟨d0,c0⟩:=HP.out v3 HBc.out;clear hwN hst
     refine hK.out _ _ ?_ (fun hHeld=>?_)
     ·(try simp only [World.cell?_drew]);exact HP.out v3 HBc.out
     clear hK K
     try simp only [Act.put,sA1,sA2,sA3,sA4,sA5,sA6]
     refine wpAnyH_ready (rs:=[12]) (by kernel_rfl) (by simp) ?_
     refine AllReadyH.cons (o:=_) rfl (fun K hK=>?_) AllReadyH.nil
     go_simp
     generalize hwN:World.setCell _ _ _=v4;have q0:=H6.out;have q2:v3.grownBy v4 (some v1.heap.size):=(by rw [← hwN];exact (H6.out.put hd).2);have q1:BlkI v4 v1.heap.size hd:=(by rw [← hwN];exact (H6.out.put hd).1);(try clear z6 zf6 zl6);(try clear z7 zf7 zl7);clear d0 c0;have HBn:=hidIt (below_put HBc.out HBc.out.size q2 (by omega));clear HBc;have HBc:=HBn;clear HBn;clear H6;have H6:=hidIt q1;have HSn:Hid ((Pc enc L v4 hd (gx.take n)∧Pc enc L v4 rs (gx.drop n))∧ctn enc hd.pl (gx.take n) ++ ctn enc rs.pl (gx.drop n)=ctn enc x.pl gx):=⟨⟨HSP.out.1.1.same (u8_put q2 q0),HSP.out.1.2.same (u8_put q2 q0)⟩,HSP.out.2⟩;clear HSP q0;have HSP:=HSn;clear HSn;have Hn:=hidIt (H7.out.other q2 (by omega));clear H7;have H7:=Hn;clear Hn;obtain ⟨z6,_,zf6⟩:=H6.out.cells;have zl6:=H6.out.lt;obtain ⟨z7,_,zf7⟩:=H7.out.cells;have zl7:=H7.out.lt;obtain ⟨d0,c0⟩:=HP.out v4 HBc.out;have sz4:=q2.size;clear hwN q1 q2
     refine hK.out _ _ ?_ (fun hHeld=>?_)
     ·(try simp only [World.cell?_drew]);exact HP.out v4 HBc.out
     clear hK K
     try simp only [Act.put,sA1,sA2,sA3,sA4,sA5,sA6]
     refine wpAnyH_ready (rs:=[13]) (by kernel_rfl) (by simp) ?_
     refine AllReadyH.cons (o:=_) rfl (fun K hK=>?_) AllReadyH.nil
     go_simp
     generalize hwN:World.setCell _ _ _=v5;have q0:=H7.out;have q2:v4.grownBy v5 (some v2.heap.size):=(by rw [← hwN];exact (H7.out.put rs).2);have q1:BlkI v5 v2.heap.size rs:=(by rw [← hwN];exact (H7.out.put rs).1);(try clear z6 zf6 zl6);(try clear z7 zf7 zl7);clear d0 c0;have HBn:=hidIt (below_put HBc.out HBc.out.size q2 (by omega));clear HBc;have HBc:=HBn;clear HBn;clear H7;have H7:=hidIt q1;have HSn:Hid ((Pc enc L v5 hd (gx.take n)∧Pc enc L v5 rs (gx.drop n))∧ctn enc hd.pl (gx.take n) ++ ctn enc rs.pl (gx.drop n)=ctn enc x.pl gx):=⟨⟨HSP.out.1.1.same (u8_put q2 q0),HSP.out.1.2.same (u8_put q2 q0)⟩,HSP.out.2⟩;clear HSP q0;have HSP:=HSn;clear HSn;have Hn:=hidIt (H6.out.other q2 (by omega));clear H6;have H6:=Hn;clear Hn;obtain ⟨z6,_,zf6⟩:=H6.out.cells;have zl6:=H6.out.lt;obtain ⟨z7,_,zf7⟩:=H7.out.cells;have zl7:=H7.out.lt;obtain ⟨d0,c0⟩:=HP.out v5 HBc.out;have sz5:=q2.size;clear hwN q1 q2
     refine hK.out _ _ ?_ (fun hHeld=>?_)
     ·(try simp only [World.cell?_drew]);exact HP.out v5 HBc.out
     clear hK K
     try simp only [Act.put,sA1,sA2,sA3,sA4,sA5,sA6]
     refine wpAnyH_done (by kernel_rfl) ?_ _
     go_wp2_with fail
     go_meet
     case rel=>exact ⟨v1.heap.size,v2.heap.size,hd,rs,rfl,rfl,HSP,H6.out,H7.out,by omega,by omega,by omega,HBc.out⟩
    ·skip
     go_simp
     generalize hwN:World.alloc _ _=v2;have hst:Below v1.heap.size v1 v2:=(by rw [← hwN];exact ext_alloc (Below.refl _ _) _);(try clear z6 zf6 zl6);(try clear z7 zf7 zl7);clear d0 c0;have HSn:Hid ((Pc enc L v2 hd (gx.take n)∧Pc enc L v2 rs (gx.drop n))∧ctn enc hd.pl (gx.take n) ++ ctn enc rs.pl (gx.drop n)=ctn enc x.pl gx):=⟨⟨HSP.out.1.1.ext hst,HSP.out.1.2.ext hst⟩,HSP.out.2⟩;clear HSP;have HSP:=HSn;clear HSn;have HBn:=hidIt (ext_trans HBc.out hst);clear HBc;have HBc:=HBn;clear HBn;have H7:Hid (BlkI v2 v1.heap.size It.zero):=(by unfold Hid;rw [← hwN];exact heap_alloc_new _ _);obtain ⟨z7,_,zf7⟩:=H7.out.cells;have zl7:=H7.out.lt;have lb11:wp.heap.size≤v1.heap.size:=(by omega);have sz2:v1.heap.size < v2.heap.size:=H7.out.lt;obtain ⟨d0,c0⟩:=HP.out v2 HBc.out;clear hwN hst
     refine hK.out _ _ ?_ (fun hHeld=>?_)
     ·(try simp only [World.cell?_drew]);exact HP.out v2 HBc.out
     clear hK K
     try simp only [Act.put,sA1,sA2,sA3,sA4,sA5,sA6]
     refine wpAnyH_ready (rs:=[10]) (by kernel_rfl) (by simp) ?_
     refine AllReadyH.cons (o:=_) rfl (fun K hK=>?_) AllReadyH.nil
     go_simp
     generalize hwN:World.alloc _ _=v3;have hst:Below v2.heap.size v2 v3:=(by rw [← hwN];exact ext_alloc (Below.refl _ _) _);(try clear z6 zf6 zl6);(try clear z7 zf7 zl7);clear d0 c0;have HSn:Hid ((Pc enc L v3 hd (gx.take n)∧Pc enc L v3 rs (gx.drop n))∧ctn enc hd.pl (gx.take n) ++ ctn enc rs.pl (gx.drop n)=ctn enc x.pl gx):=⟨⟨HSP.out.1.1.ext hst,HSP.out.1.2.ext hst⟩,HSP.out.2⟩;clear HSP;have HSP:=HSn;clear HSn;have HBn:=hidIt (ext_trans HBc.out hst);clear HBc;have HBc:=HBn;clear HBn;have Hn:=hidIt (H7.out.ext hst);clear H7;have H7:=Hn;clear Hn;obtain ⟨z7,_,zf7⟩:=H7.out.cells;have zl7:=H7.out.lt;have H6:Hid (BlkI v3 v2.heap.size It.zero):=(by unfold Hid;rw [← hwN];exact heap_alloc_new _ _);obtain ⟨z6,_,zf6⟩:=H6.out.cells;have zl6:=H6.out.lt;have lb10:wp.heap.size≤v2.heap.size:=(by omega);have sz3:v2.heap.size < v3.heap.size:=H6.out.lt;obtain ⟨d0,c0⟩:=HP.out v3 HBc.out;clear hwN hst
     refine hK.out _ _ ?_ (fun hHeld=>?_)
     ·(try simp only [World.cell?_drew]);exact HP.out v3 HBc.out
     clear hK K
     try simp only [Act.put,sA1,sA2,sA3,sA4,sA5,sA6]
     refine wpAnyH_ready (rs:=[12]) (by kernel_rfl) (by simp) ?_
     refine AllReadyH.cons (o:=_) rfl (fun K hK=>?_) AllReadyH.nil
     go_simp
     generalize hwN:World.setCell _ _ _=v4;have q0:=H6.out;have q2:v3.grownBy v4 (some v2.heap.size):=(by rw [← hwN];exact (H6.out.put hd).2);have q1:BlkI v4 v2.heap.size hd:=(by rw [← hwN];exact (H6.out.put hd).1);(try clear z6 zf6 zl6);(try clear z7 zf7 zl7);clear d0 c0;have HBn:=hidIt (below_put HBc.out HBc.out.size q2 (by omega));clear HBc;have HBc:=HBn;clear HBn;clear H6;have H6:=hidIt q1;have HSn:Hid ((Pc enc L v4 hd (gx.take n)∧Pc enc L v4 rs (gx.drop n))∧ctn enc hd.pl (gx.take n) ++ ctn enc rs.pl (gx.drop n)=ctn enc x.pl gx):=⟨⟨HSP.out.1.1.same (u8_put q2 q0),HSP.out.1.2.same (u8_put q2 q0)⟩,HSP.out.2⟩;clear HSP q0;have HSP:=HSn;clear HSn;have Hn:=hidIt (H7.out.other q2 (by omega));clear H7;have H7:=Hn;clear Hn;obtain ⟨z6,_,zf6⟩:=H6.out.cells;have zl6:=H6.out.lt;obtain ⟨z7,_,zf7⟩:=H7.out.cells;have zl7:=H7.out.lt;obtain ⟨d0,c0⟩:=HP.out v4 HBc.out;have sz4:=q2.size;clear hwN q1 q2
     refine hK.out _ _ ?_ (fun hHeld=>?_)
     ·(try simp only [World.cell?_drew]);exact HP.out v4 HBc.out
     clear hK K
     try simp only [Act.put,sA1,sA2,sA3,sA4,sA5,sA6]
     refine wpAnyH_ready (rs:=[13]) (by kernel_rfl) (by simp) ?_
     refine AllReadyH.cons (o:=_) rfl (fun K hK=>?_) AllReadyH.nil
     go_simp
     generalize hwN:World.setCell _ _ _=v5;have q0:=H7.out;have q2:v4.grownBy v5 (some v1.heap.size):=(by rw [← hwN];exact (H7.out.put rs).2);have q1:BlkI v5 v1.heap.size rs:=(by rw [← hwN];exact (H7.out.put rs).1);(try clear z6 zf6 zl6);(try clear z7 zf7 zl7);clear d0 c0;have HBn:=hidIt (below_put HBc.out HBc.out.size q2 (by omega));clear HBc;have HBc:=HBn;clear HBn;clear H7;have H7:=hidIt q1;have HSn:Hid ((Pc enc L v5 hd (gx.take n)∧Pc enc L v5 rs (gx.drop n))∧ctn enc hd.pl (gx.take n) ++ ctn enc rs.pl (gx.drop n)=ctn enc x.pl gx):=⟨⟨HSP.out.1.1.same (u8_put q2 q0),HSP.out.1.2.same (u8_put q2 q0)⟩,HSP.out.2⟩;clear HSP q0;have HSP:=HSn;clear HSn;have Hn:=hidIt (H6.out.other q2 (by omega));clear H6;have H6:=Hn;clear Hn;obtain ⟨z6,_,zf6⟩:=H6.out.cells;have zl6:=H6.out.lt;obtain ⟨z7,_,zf7⟩:=H7.out.cells;have zl7:=H7.out.lt;obtain ⟨d0,c0⟩:=HP.out v5 HBc.out;have sz5:=q2.size;clear hwN q1 q2
     refine hK.out _ _ ?_ (fun hHeld=>?_)
     ·(try simp only [World.cell?_drew]);exact HP.out v5 HBc.out
     clear hK K
     try simp only [Act.put,sA1,sA2,sA3,sA4,sA5,sA6]
     refine wpAnyH_done (by kernel_rfl) ?_ _
     go_wp2_with fail
     go_meet
     case rel=>exact ⟨v2.heap.size,v1.heap.size,hd,rs,rfl,rfl,HSP,H6.out,H7.out,by omega,by omega,by omega,HBc.out⟩
   ·skip
    go_simp
    generalize hwN:World.alloc _ _=v1;have hst:Below wp.heap.size wp v1:=(by rw [← hwN];exact ext_alloc (Below.refl _ _) _);(try clear z6 zf6 zl6);(try clear z7 zf7 zl7);clear d0 c0;have HBn:=hidIt (ext_trans HBc.out hst);clear HBc;have HBc:=HBn;clear HBn;have H6:Hid (BlkI v1 wp.heap.size It.zero):=(by unfold Hid;rw [← hwN];exact heap_alloc_new _ _);obtain ⟨z6,_,zf6⟩:=H6.out.cells;have zl6:=H6.out.lt;have lb10:wp.heap.size≤wp.heap.size:=(by exact Nat.le_refl _);have sz1:wp.heap.size < v1.heap.size:=H6.out.lt;obtain ⟨d0,c0⟩:=HP.out v1 HBc.out;clear hwN hst
    refine hK.out _ _ ?_ (fun hHeld=>?_)
    ·(try simp only [World.cell?_drew]);exact HP.out v1 HBc.out
    clear hK K
    try simp only [Act.put,sA1,sA2,sA3,sA4,sA5,sA6]
    refine wpAnyH_ready (rs:=[6,11]) (by kernel_rfl) (by simp) ?_
    refine (AllReadyH.cons (o:=_) rfl (fun K hK=>?_) (AllReadyH.cons (o:=_) rfl (fun K hK=>?_) AllReadyH.nil))
    ·skip
     go_simp
     refine (SP.out _ HBc.out.drew).mono ?_;(try clear z6 zf6 zl6);(try clear z7 zf7 zl7);clear d0 c0;rintro e v2 ⟨hd,rs,rfl,HSP,hb⟩;have hst:Below v1.heap.size v1 v2:=ext_trans (Below.drew (Below.refl _ _)) hb;clear hb;have HBn:=hidIt (ext_trans HBc.out hst);clear HBc;have HBc:=HBn;clear HBn;have Hn:=hidIt (H6.out.ext hst);clear H6;have H6:=Hn;clear Hn;obtain ⟨z6,_,zf6⟩:=H6.out.cells;have zl6:=H6.out.lt;obtain ⟨d0,c0⟩:=HP.out v2 HBc.out;have sz2:v1.heap.size≤v2.heap.size:=hst.size;clear hst;try dsimp only
     refine hK.out _ _ ?_ (fun hHeld=>?_)
     ·(try simp only [World.cell?_drew]);exact HP.out v2 HBc.out
     clear hK K
     try simp only [Act.put,sA1,sA2,sA3,sA4,sA5,sA6]
     refine tkH (v:=?_) 7 rfl ?_ ?_;rotate_left 1
     ·intro wq hSw;(try dsimp only at hSw);go_simp;try (with_reducible rfl)
     try simp only [Act.put,sA1,sA2,sA3,sA4,sA5,sA6]
     refine tkH (v:=?_) 8 rfl ?_ ?_;rotate_left 1
     ·intro wq hSw;(try dsimp only at hSw);go_simp;try (with_reducible rfl)
     try simp only [Act.put,sA1,sA2,sA3,sA4,sA5,sA6]
     refine tkH (v:=?_) 9 rfl ?_ ?_;rotate_left 1
     ·intro wq hSw;(try dsimp only at hSw);go_simp;try (with_reducible rfl)
     try simp only [Act.put,sA1,sA2,sA3,sA4,sA5,sA6]
     refine wpAnyH_ready (rs:=[11]) (by kernel_rfl) (by simp) ?_
     refine AllReadyH.cons (o:=_) rfl (fun K hK=>?_) AllReadyH.nil
     go_simp
     generalize hwN:World.alloc _ _=v3;have hst:Below v2.heap.size v2 v3:=(by rw [← hwN];exact ext_alloc (Below.refl _ _) _);(try clear z6 zf6 zl6);(try clear z7 zf7 zl7);clear d0 c0;have HSn:Hid ((Pc enc L v3 hd (gx.take n)∧Pc enc L v3 rs (gx.drop n))∧ctn enc hd.pl (gx.take n) ++ ctn enc rs.pl (gx.drop n)=ctn enc x.pl gx):=⟨⟨HSP.out.1.1.ext hst,HSP.out.1.2.ext hst⟩,HSP.out.2⟩;clear HSP;have HSP:=HSn;clear HSn;have HBn:=hidIt (ext_trans HBc.out hst);clear HBc;have HBc:=HBn;clear HBn;have Hn:=hidIt (H6.out.ext hst);clear H6;have H6:=Hn;clear Hn;obtain ⟨z6,_,zf6⟩:=H6.out.cells;have zl6:=H6.out.lt;have H7:Hid (BlkI v3 v2.heap.size It.zero):=(by unfold Hid;rw [← hwN];exact heap_alloc_new _ _);obtain ⟨z7,_,zf7⟩:=H7.out.cells;have zl7:=H7.out.lt;have lb11:wp.heap.size≤v2.heap.size:=(by omega);have sz3:v2.heap.size < v3.heap.size:=H7.out.lt;obtain ⟨d0,c0⟩:=HP.out v3 HBc.out;clear hwN hst
     refine hK.out _ _ ?_ (fun hHeld=>?_)
     ·(try simp only [World.cell?_drew]);exact HP.out v3 HBc.out
     clear hK K
     try simp only [Act.put,sA1,sA2,sA3,sA4,sA5,sA6]
     refine wpAnyH_ready (rs:=[12]) (by kernel_rfl) (by simp) ?_
     refine AllReadyH.cons (o:=_) rfl (fun K hK=>?_) AllReadyH.nil
     go_simp
     generalize hwN:World.setCell _ _ _=v4;have q0:=H6.out;have q2:v3.grownBy v4 (some wp.heap.size):=(by rw [← hwN];exact (H6.out.put hd).2);have q1:BlkI v4 wp.heap.size hd:=(by rw [← hwN];exact (H6.out.put hd).1);(try clear z6 zf6 zl6);(try clear z7 zf7 zl7);clear d0 c0;have HBn:=hidIt (below_put HBc.out HBc.out.size q2 (by omega));clear HBc;have HBc:=HBn;clear HBn;clear H6;have H6:=hidIt q1;have HSn:Hid ((Pc enc L v4 hd (gx.take n)∧Pc enc L v4 rs (gx.drop n))∧ctn enc hd.pl (gx.take n) ++ ctn enc rs.pl (gx.drop n)=ctn enc x.pl gx):=⟨⟨HSP.out.1.1.same (u8_put q2 q0),HSP.out.1.2.same (u8_put q2 q0)⟩,HSP.out.2⟩;clear HSP q0;have HSP:=HSn;clear HSn;have Hn:=hidIt (H7.out.other q2 (by omega));clear H7;have H7:=Hn;clear Hn;obtain ⟨z6,_,zf6⟩:=H6.out.cells;have zl6:=H6.out.lt;obtain ⟨z7,_,zf7⟩:=H7.out.cells;have zl7:=H7.out.lt;obtain ⟨d0,c0⟩:=HP.out v4 HBc.out;have sz4:=q2.size;clear hwN q1 q2
     refine hK.out _ _ ?_ (fun hHeld=>?_)
     ·(try simp only [World.cell?_drew]);exact HP.out v4 HBc.out
     clear hK K
     try simp only [Act.put,sA1,sA2,sA3,sA4,sA5,sA6]
     refine wpAnyH_ready (rs:=[13]) (by kernel_rfl) (by simp) ?_
     refine AllReadyH.cons (o:=_) rfl (fun K hK=>?_) AllReadyH.nil
     go_simp
     generalize hwN:World.setCell _ _ _=v5;have q0:=H7.out;have q2:v4.grownBy v5 (some v2.heap.size):=(by rw [← hwN];exact (H7.out.put rs).2);have q1:BlkI v5 v2.heap.size rs:=(by rw [← hwN];exact (H7.out.put rs).1);(try clear z6 zf6 zl6);(try clear z7 zf7 zl7);clear d0 c0;have HBn:=hidIt (below_put HBc.out HBc.out.size q2 (by omega));clear HBc;have HBc:=HBn;clear HBn;clear H7;have H7:=hidIt q1;have HSn:Hid ((Pc enc L v5 hd (gx.take n)∧Pc enc L v5 rs (gx.drop n))∧ctn enc hd.pl (gx.take n) ++ ctn enc rs.pl (gx.drop n)=ctn enc x.pl gx):=⟨⟨HSP.out.1.1.same (u8_put q2 q0),HSP.out.1.2.same (u8_put q2 q0)⟩,HSP.out.2⟩;clear HSP q0;have HSP:=HSn;clear HSn;have Hn:=hidIt (H6.out.other q2 (by omega));clear H6;have H6:=Hn;clear Hn;obtain ⟨z6,_,zf6⟩:=H6.out.cells;have zl6:=H6.out.lt;obtain ⟨z7,_,zf7⟩:=H7.out.cells;have zl7:=H7.out.lt;obtain ⟨d0,c0⟩:=HP.out v5 HBc.out;have sz5:=q2.size;clear hwN q1 q2
     refine hK.out _ _ ?_ (fun hHeld=>?_)
     ·(try simp only [World.cell?_drew]);exact HP.out v5 HBc.out
     clear hK K
     try simp only [Act.put,sA1,sA2,sA3,sA4,sA5,sA6]
     refine wpAnyH_done (by kernel_rfl) ?_ _
     go_wp2_with fail
     go_meet
     case rel=>exact ⟨wp.heap.size,v2.heap.size,hd,rs,rfl,rfl,HSP,H6.out,H7.out,by omega,by omega,by omega,HBc.out⟩
    ·skip
     go_simp
     generalize hwN:World.alloc _ _=v2;have hst:Below v1.heap.size v1 v2:=(by rw [← hwN];exact ext_alloc (Below.refl _ _) _);(try clear z6 zf6 zl6);(try clear z7 zf7 zl7);clear d0 c0;have HBn:=hidIt (ext_trans HBc.out hst);clear HBc;have HBc:=HBn;clear HBn;have Hn:=hidIt (H6.out.ext hst);clear H6;have H6:=Hn;clear Hn;obtain ⟨z6,_,zf6⟩:=H6.out.cells;have zl6:=H6.out.lt;have H7:Hid (BlkI v2 v1.heap.size It.zero):=(by unfold Hid;rw [← hwN];exact heap_alloc_new _ _);obtain ⟨z7,_,zf7⟩:=H7.out.cells;have zl7:=H7.out.lt;have lb11:wp.heap.size≤v1.heap.size:=(by omega);have sz2:v1.heap.size < v2.heap.size:=H7.out.lt;obtain ⟨d0,c0⟩:=HP.out v2 HBc.out;clear hwN hst
     refine hK.out _ _ ?_ (fun hHeld=>?_)
     ·(try simp only [World.cell?_drew]);exact HP.out v2 HBc.out
     clear hK K
     try simp only [Act.put,sA1,sA2,sA3,sA4,sA5,sA6]
     refine wpAnyH_ready (rs:=[6]) (by kernel_rfl) (by simp) ?_
     refine AllReadyH.cons (o:=_) rfl (fun K hK=>?_) AllReadyH.nil
     go_simp
     refine (SP.out _ HBc.out.drew).mono ?_;(try clear z6 zf6 zl6);(try clear z7 zf7 zl7);clear d0 c0;rintro e v3 ⟨hd,rs,rfl,HSP,hb⟩;have hst:Below v2.heap.size v2 v3:=ext_trans (Below.drew (Below.refl _ _)) hb;clear hb;have HBn:=hidIt (ext_trans HBc.out hst);clear HBc;have HBc:=HBn;clear HBn;have Hn:=hidIt (H6.out.ext hst);clear H6;have H6:=Hn;clear Hn;obtain ⟨z6,_,zf6⟩:=H6.out.cells;have zl6:=H6.out.lt;have Hn:=hidIt (H7.out.ext hst);clear H7;have H7:=Hn;clear Hn;obtain ⟨z7,_,zf7⟩:=H7.out.cells;have zl7:=H7.out.lt;obtain ⟨d0,c0⟩:=HP.out v3 HBc.out;have sz3:v2.heap.size≤v3.heap.size:=hst.size;clear hst;try dsimp only
     refine hK.out _ _ ?_ (fun hHeld=>?_)
     ·(try simp only [World.cell?_drew]);exact HP.out v3 HBc.out
     clear hK K
     try simp only [Act.put,sA1,sA2,sA3,sA4,sA5,sA6]
     refine tkH (v:=?_) 7 rfl ?_ ?_;rotate_left 1
     ·intro wq hSw;(try dsimp only at hSw);go_simp;try (with_reducible rfl)
     try simp only [Act.put,sA1,sA2,sA3,sA4,sA5,sA6]
     refine tkH (v:=?_) 8 rfl ?_ ?_;rotate_left 1
     ·intro wq hSw;(try dsimp only at hSw);go_simp;try (with_reducible rfl)
     try simp only [Act.put,sA1,sA2,sA3,sA4,sA5,sA6]
     refine tkH (v:=?_) 9 rfl ?_ ?_;rotate_left 1
     ·intro wq hSw;(try dsimp only at hSw);go_simp;try (with_reducible rfl)
     try simp only [Act.put,sA1,sA2,sA3,sA4,sA5,sA6]
     refine wpAnyH_ready (rs:=[12]) (by kernel_rfl) (by simp) ?_
     refine AllReadyH.cons (o:=_) rfl (fun K hK=>?_) AllReadyH.nil
     go_simp
     generalize hwN:World.setCell _ _ _=v4;have q0:=H6.out;have q2:v3.grownBy v4 (some wp.heap.size):=(by rw [← hwN];exact (H6.out.put hd).2);have q1:BlkI v4 wp.heap.size hd:=(by rw [← hwN];exact (H6.out.put hd).1);(try clear z6 zf6 zl6);(try clear z7 zf7 zl7);clear d0 c0;have HBn:=hidIt (below_put HBc.out HBc.out.size q2 (by omega));clear HBc;have HBc:=HBn;clear HBn;clear H6;have H6:=hidIt q1;have HSn:Hid ((Pc enc L v4 hd (gx.take n)∧Pc enc L v4 rs (gx.drop n))∧ctn enc hd.pl (gx.take n) ++ ctn enc rs.pl (gx.drop n)=ctn enc x.pl gx):=⟨⟨HSP.out.1.1.same (u8_put q2 q0),HSP.out.1.2.same (u8_put q2 q0)⟩,HSP.out.2⟩;clear HSP q0;have HSP:=HSn;clear HSn;have Hn:=hidIt (H7.out.other q2 (by omega));clear H7;have H7:=Hn;clear Hn;obtain ⟨z6,_,zf6⟩:=H6.out.cells;have zl6:=H6.out.lt;obtain ⟨z7,_,zf7⟩:=H7.out.cells;have zl7:=H7.out.lt;obtain ⟨d0,c0⟩:=HP.out v4 HBc.out;have sz4:=q2.size;clear hwN q1 q2
     refine hK.out _ _ ?_ (fun hHeld=>?_)
     ·(try simp only [World.cell?_drew]);exact HP.out v4 HBc.out
     clear hK K
     try simp only [Act.put,sA1,sA2,sA3,sA4,sA5,sA6]
     refine wpAnyH_ready (rs:=[13]) (by kernel_rfl) (by simp) ?_
     refine AllReadyH.cons (o:=_) rfl (fun K hK=>?_) AllReadyH.nil
     go_simp
     generalize hwN:World.setCell _ _ _=v5;have q0:=H7.out;have q2:v4.grownBy v5 (some v1.heap.size):=(by rw [← hwN];exact (H7.out.put rs).2);have q1:BlkI v5 v1.heap.size rs:=(by rw [← hwN];exact (H7.out.put rs).1);(try clear z6 zf6 zl6);(try clear z7 zf7 zl7);clear d0 c0;have HBn:=hidIt (below_put HBc.out HBc.out.size q2 (by omega));clear HBc;have HBc:=HBn;clear HBn;clear H7;have H7:=hidIt q1;have HSn:Hid ((Pc enc L v5 hd (gx.take n)∧Pc enc L v5 rs (gx.drop n))∧ctn enc hd.pl (gx.take n) ++ ctn enc rs.pl (gx.drop n)=ctn enc x.pl gx):=⟨⟨HSP.out.1.1.same (u8_put q2 q0),HSP.out.1.2.same (u8_put q2 q0)⟩,HSP.out.2⟩;clear HSP q0;have HSP:=HSn;clear HSn;have Hn:=hidIt (H6.out.other q2 (by omega));clear H6;have H6:=Hn;clear Hn;obtain ⟨z6,_,zf6⟩:=H6.out.cells;have zl6:=H6.out.lt;obtain ⟨z7,_,zf7⟩:=H7.out.cells;have zl7:=H7.out.lt;obtain ⟨d0,c0⟩:=HP.out v5 HBc.out;have sz5:=q2.size;clear hwN q1 q2
     refine hK.out _ _ ?_ (fun hHeld=>?_)
     ·(try simp only [World.cell?_drew]);exact HP.out v5 HBc.out
     clear hK K
     try simp only [Act.put,sA1,sA2,sA3,sA4,sA5,sA6]
     refine wpAnyH_done (by kernel_rfl) ?_ _
     go_wp2_with fail
     go_meet
     case rel=>exact ⟨wp.heap.size,v1.heap.size,hd,rs,rfl,rfl,HSP,H6.out,H7.out,by omega,by omega,by omega,HBc.out⟩
   ·skip
    go_simp
    generalize hwN:World.alloc _ _=v1;have hst:Below wp.heap.size wp v1:=(by rw [← hwN];exact ext_alloc (Below.refl _ _) _);(try clear z6 zf6 zl6);(try clear z7 zf7 zl7);clear d0 c0;have HBn:=hidIt (ext_trans HBc.out hst);clear HBc;have HBc:=HBn;clear HBn;have H7:Hid (BlkI v1 wp.heap.size It.zero):=(by unfold Hid;rw [← hwN];exact heap_alloc_new _ _);obtain ⟨z7,_,zf7⟩:=H7.out.cells;have zl7:=H7.out.lt;have lb11:wp.heap.size≤wp.heap.size:=(by exact Nat.le_refl _);have sz1:wp.heap.size < v1.heap.size:=H7.out.lt;obtain ⟨d0,c0⟩:=HP.out v1 HBc.out;clear hwN hst
    refine hK.out _ _ ?_ (fun hHeld=>?_)
    ·(try simp only [World.cell?_drew]);exact HP.out v1 HBc.out
    clear hK K
    try simp only [Act.put,sA1,sA2,sA3,sA4,sA5,sA6]
    refine wpAnyH_ready (rs:=[6,10]) (by kernel_rfl) (by simp) ?_
    refine (AllReadyH.cons (o:=_) rfl (fun K hK=>?_) (AllReadyH.cons (o:=_) rfl (fun K hK=>?_) AllReadyH.nil))
    ·skip
     go_simp
     refine (SP.out _ HBc.out.drew).mono ?_;(try clear z6 zf6 zl6);(try clear z7 zf7 zl7);clear d0 c0;rintro e v2 ⟨hd,rs,rfl,HSP,hb⟩;have hst:Below v1.heap.size v1 v2:=ext_trans (Below.drew (Below.refl _ _)) hb;clear hb;have HBn:=hidIt (ext_trans HBc.out hst);clear HBc;have HBc:=HBn;clear HBn;have Hn:=hidIt (H7.out.ext hst);clear H7;have H7:=Hn;clear Hn;obtain ⟨z7,_,zf7⟩:=H7.out.cells;have zl7:=H7.out.lt;obtain ⟨d0,c0⟩:=HP.out v2 HBc.out;have sz2:v1.heap.size≤v2.heap.size:=hst.size;clear hst;try dsimp only
     refine hK.out _ _ ?_ (fun hHeld=>?_)
     ·(try simp only [World.cell?_drew]);exact HP.out v2 HBc.out
     clear hK K
     try simp only [Act.put,sA1,sA2,sA3,sA4,sA5,sA6]
     refine tkH (v:=?_) 7 rfl ?_ ?_;rotate_left 1
     ·intro wq hSw;(try dsimp only at hSw);go_simp;try (with_reducible rfl)
     try simp only [Act.put,sA1,sA2,sA3,sA4,sA5,sA6]
     refine tkH (v:=?_) 8 rfl ?_ ?_;rotate_left 1
     ·intro wq hSw;(try dsimp only at hSw);go_simp;try (with_reducible rfl)
     try simp only [Act.put,sA1,sA2,sA3,sA4,sA5,sA6]
     refine tkH (v:=?_) 9 rfl ?_ ?_;rotate_left 1
     ·intro wq hSw;(try dsimp only at hSw);go_simp;try (with_reducible rfl)
     try simp only [Act.put,sA1,sA2,sA3,sA4,sA5,sA6]
     refine wpAnyH_ready (rs:=[10]) (by kernel_rfl) (by simp) ?_
     refine AllReadyH.cons (o:=_) rfl (fun K hK=>?_) AllReadyH.nil
     go_simp
     generalize hwN:World.alloc _ _=v3;have hst:Below v2.heap.size v2 v3:=(by rw [← hwN];exact ext_alloc (Below.refl _ _) _);(try clear z6 zf6 zl6);(try clear z7 zf7 zl7);clear d0 c0;have HSn:Hid ((Pc enc L v3 hd (gx.take n)∧Pc enc L v3 rs (gx.drop n))∧ctn enc hd.pl (gx.take n) ++ ctn enc rs.pl (gx.drop n)=ctn enc x.pl gx):=⟨⟨HSP.out.1.1.ext hst,HSP.out.1.2.ext hst⟩,HSP.out.2⟩;clear HSP;have HSP:=HSn;clear HSn;have HBn:=hidIt (ext_trans HBc.out hst);clear HBc;have HBc:=HBn;clear HBn;have Hn:=hidIt (H7.out.ext hst);clear H7;have H7:=Hn;clear Hn;obtain ⟨z7,_,zf7⟩:=H7.out.cells;have zl7:=H7.out.lt;have H6:Hid (BlkI v3 v2.heap.size It.zero):=(by unfold Hid;rw [← hwN];exact heap_alloc_new _ _);obtain ⟨z6,_,zf6⟩:=H6.out.cells;have zl6:=H6.out.lt;have lb10:wp.heap.size≤v2.heap.size:=(by omega);have sz3:v2.heap.size < v3.heap.size:=H6.out.lt;obtain ⟨d0,c0⟩:=HP.out v3 HBc.out;clear hwN hst
     refine hK.out _ _ ?_ (fun hHeld=>?_)
     ·(try simp only [World.cell?_drew]);exact HP.out v3 HBc.out
     clear hK K
     try simp only [Act.put,sA1,sA2,sA3,sA4,sA5,sA6]
     refine wpAnyH_ready (rs:=[12]) (by kernel_rfl) (by simp) ?_
     refine AllReadyH.cons (o:=_) rfl (fun K hK=>?_) AllReadyH.nil
     go_simp
     generalize hwN:World.setCell _ _ _=v4;have q0:=H6.out;have q2:v3.grownBy v4 (some v2.heap.size):=(by rw [← hwN];exact (H6.out.put hd).2);have q1:BlkI v4 v2.heap.size hd:=(by rw [← hwN];exact (H6.out.put hd).1);(try clear z6 zf6 zl6);(try clear z7 zf7 zl7);clear d0 c0;have HBn:=hidIt (below_put HBc.out HBc.out.size q2 (by omega));clear HBc;have HBc:=HBn;clear HBn;clear H6;have H6:=hidIt q1;have HSn:Hid ((Pc enc L v4 hd (gx.take n)∧Pc enc L v4 rs (gx.drop n))∧ctn enc hd.pl (gx.take n) ++ ctn enc rs.pl (gx.drop n)=ctn enc x.pl gx):=⟨⟨HSP.out.1.1.same (u8_put q2 q0),HSP.out.1.2.same (u8_put q2 q0)⟩,HSP.out.2⟩;clear HSP q0;have HSP:=HSn;clear HSn;have Hn:=hidIt (H7.out.other q2 (by omega));clear H7;have H7:=Hn;clear Hn;obtain ⟨z6,_,zf6⟩:=H6.out.cells;have zl6:=H6.out.lt;obtain ⟨z7,_,zf7⟩:=H7.out.cells;have zl7:=H7.out.lt;obtain ⟨d0,c0⟩:=HP.out v4 HBc.out;have sz4:=q2.size;clear hwN q1 q2
     refine hK.out _ _ ?_ (fun hHeld=>?_)
     ·(try simp only [World.cell?_drew]);exact HP.out v4 HBc.out
     clear hK K
     try simp only [Act.put,sA1,sA2,sA3,sA4,sA5,sA6]
     refine wpAnyH_ready (rs:=[13]) (by kernel_rfl) (by simp) ?_
     refine AllReadyH.cons (o:=_) rfl (fun K hK=>?_) AllReadyH.nil
     go_simp
     generalize hwN:World.setCell _ _ _=v5;have q0:=H7.out;have q2:v4.grownBy v5 (some wp.heap.size):=(by rw [← hwN];exact (H7.out.put rs).2);have q1:BlkI v5 wp.heap.size rs:=(by rw [← hwN];exact (H7.out.put rs).1);(try clear z6 zf6 zl6);(try clear z7 zf7 zl7);clear d0 c0;have HBn:=hidIt (below_put HBc.out HBc.out.size q2 (by omega));clear HBc;have HBc:=HBn;clear HBn;clear H7;have H7:=hidIt q1;have HSn:Hid ((Pc enc L v5 hd (gx.take n)∧Pc enc L v5 rs (gx.drop n))∧ctn enc hd.pl (gx.take n) ++ ctn enc rs.pl (gx.drop n)=ctn enc x.pl gx):=⟨⟨HSP.out.1.1.same (u8_put q2 q0),HSP.out.1.2.same (u8_put q2 q0)⟩,HSP.out.2⟩;clear HSP q0;have HSP:=HSn;clear HSn;have Hn:=hidIt (H6.out.other q2 (by omega));clear H6;have H6:=Hn;clear Hn;obtain ⟨z6,_,zf6⟩:=H6.out.cells;have zl6:=H6.out.lt;obtain ⟨z7,_,zf7⟩:=H7.out.cells;have zl7:=H7.out.lt;obtain ⟨d0,c0⟩:=HP.out v5 HBc.out;have sz5:=q2.size;clear hwN q1 q2
     refine hK.out _ _ ?_ (fun hHeld=>?_)
     ·(try simp only [World.cell?_drew]);exact HP.out v5 HBc.out
     clear hK K
     try simp only [Act.put,sA1,sA2,sA3,sA4,sA5,sA6]
     refine wpAnyH_done (by kernel_rfl) ?_ _
     go_wp2_with fail
     go_meet
     case rel=>exact ⟨v2.heap.size,wp.heap.size,hd,rs,rfl,rfl,HSP,H6.out,H7.out,by omega,by omega,by omega,HBc.out⟩
    ·skip
     go_simp
     generalize hwN:World.alloc _ _=v2;have hst:Below v1.heap.size v1 v2:=(by rw [← hwN];exact ext_alloc (Below.refl _ _) _);(try clear z6 zf6 zl6);(try clear z7 zf7 zl7);clear d0 c0;have HBn:=hidIt (ext_trans HBc.out hst);clear HBc;have HBc:=HBn;clear HBn;have Hn:=hidIt (H7.out.ext hst);clear H7;have H7:=Hn;clear Hn;obtain ⟨z7,_,zf7⟩:=H7.out.cells;have zl7:=H7.out.lt;have H6:Hid (BlkI v2 v1.heap.size It.zero):=(by unfold Hid;rw [← hwN];exact heap_alloc_new _ _);obtain ⟨z6,_,zf6⟩:=H6.out.cells;have zl6:=H6.out.lt;have lb10:wp.heap.size≤v1.heap.size:=(by omega);have sz2:v1.heap.size < v2.heap.size:=H6.out.lt;obtain ⟨d0,c0⟩:=HP.out v2 HBc.out;clear hwN hst
     refine hK.out _ _ ?_ (fun hHeld=>?_)
     ·(try simp only [World.cell?_drew]);exact HP.out v2 HBc.out
     clear hK K
     try simp only [Act.put,sA1,sA2,sA3,sA4,sA5,sA6]
     refine wpAnyH_ready (rs:=[6]) (by kernel_rfl) (by simp) ?_
     refine AllReadyH.cons (o:=_) rfl (fun K hK=>?_) AllReadyH.nil
     go_simp
     refine (SP.out _ HBc.out.drew).mono ?_;(try clear z6 zf6 zl6);(try clear z7 zf7 zl7);clear d0 c0;rintro e v3 ⟨hd,rs,rfl,HSP,hb⟩;have hst:Below v2.heap.size v2 v3:=ext_trans (Below.drew (Below.refl _ _)) hb;clear hb;have HBn:=hidIt (ext_trans HBc.out hst);clear HBc;have HBc:=HBn;clear HBn;have Hn:=hidIt (H6.out.ext hst);clear H6;have H6:=Hn;clear Hn;obtain ⟨z6,_,zf6⟩:=H6.out.cells;have zl6:=H6.out.lt;have Hn:=hidIt (H7.out.ext hst);clear H7;have H7:=Hn;clear Hn;obtain ⟨z7,_,zf7⟩:=H7.out.cells;have zl7:=H7.out.lt;obtain ⟨d0,c0⟩:=HP.out v3 HBc.out;have sz3:v2.heap.size≤v3.heap.size:=hst.size;clear hst;try dsimp only
     refine hK.out _ _ ?_ (fun hHeld=>?_)
     ·(try simp only [World.cell?_drew]);exact HP.out v3 HBc.out
     clear hK K
     try simp only [Act.put,sA1,sA2,sA3,sA4,sA5,sA6]
     refine tkH (v:=?_) 7 rfl ?_ ?_;rotate_left 1
     ·intro wq hSw;(try dsimp only at hSw);go_simp;try (with_reducible rfl)
     try simp only [Act.put,sA1,sA2,sA3,sA4,sA5,sA6]
     refine tkH (v:=?_) 8 rfl ?_ ?_;rotate_left 1
     ·intro wq hSw;(try dsimp only at hSw);go_simp;try (with_reducible rfl)
     try simp only [Act.put,sA1,sA2,sA3,sA4,sA5,sA6]
     refine tkH (v:=?_) 9 rfl ?_ ?_;rotate_left 1
     ·intro wq hSw;(try dsimp only at hSw);go_simp;try (with_reducible rfl)
     try simp only [Act.put,sA1,sA2,sA3,sA4,sA5,sA6]
     refine wpAnyH_ready (rs:=[12]) (by kernel_rfl) (by simp) ?_
     refine AllReadyH.cons (o:=_) rfl (fun K hK=>?_) AllReadyH.nil
     go_simp
     generalize hwN:World.setCell _ _ _=v4;have q0:=H6.out;have q2:v3.grownBy v4 (some v1.heap.size):=(by rw [← hwN];exact (H6.out.put hd).2);have q1:BlkI v4 v1.heap.size hd:=(by rw [← hwN];exact (H6.out.put hd).1);(try clear z6 zf6 zl6);(try clear z7 zf7 zl7);clear d0 c0;have HBn:=hidIt (below_put HBc.out HBc.out.size q2 (by omega));clear HBc;have HBc:=HBn;clear HBn;clear H6;have H6:=hidIt q1;have HSn:Hid ((Pc enc L v4 hd (gx.take n)∧Pc enc L v4 rs (gx.drop n))∧ctn enc hd.pl (gx.take n) ++ ctn enc rs.pl (gx.drop n)=ctn enc x.pl gx):=⟨⟨HSP.out.1.1.same (u8_put q2 q0),HSP.out.1.2.same (u8_put q2 q0)⟩,HSP.out.2⟩;clear HSP q0;have HSP:=HSn;clear HSn;have Hn:=hidIt (H7.out.other q2 (by omega));clear H7;have H7:=Hn;clear Hn;obtain ⟨z6,_,zf6⟩:=H6.out.cells;have zl6:=H6.out.lt;obtain ⟨z7,_,zf7⟩:=H7.out.cells;have zl7:=H7.out.lt;obtain ⟨d0,c0⟩:=HP.out v4 HBc.out;have sz4:=q2.size;clear hwN q1 q2
     refine hK.out _ _ ?_ (fun hHeld=>?_)
     ·(try simp only [World.cell?_drew]);exact HP.out v4 HBc.out
     clear hK K
     try simp only [Act.put,sA1,sA2,sA3,sA4,sA5,sA6]
     refine wpAnyH_ready (rs:=[13]) (by kernel_rfl) (by simp) ?_
     refine AllReadyH.cons (o:=_) rfl (fun K hK=>?_) AllReadyH.nil
     go_simp
     generalize hwN:World.setCell _ _ _=v5;have q0:=H7.out;have q2:v4.grownBy v5 (some wp.heap.size):=(by rw [← hwN];exact (H7.out.put rs).2);have q1:BlkI v5 wp.heap.size rs:=(by rw [← hwN];exact (H7.out.put rs).1);(try clear z6 zf6 zl6);(try clear z7 zf7 zl7);clear d0 c0;have HBn:=hidIt (below_put HBc.out HBc.out.size q2 (by omega));clear HBc;have HBc:=HBn;clear HBn;clear H7;have H7:=hidIt q1;have HSn:Hid ((Pc enc L v5 hd (gx.take n)∧Pc enc L v5 rs (gx.drop n))∧ctn enc hd.pl (gx.take n) ++ ctn enc rs.pl (gx.drop n)=ctn enc x.pl gx):=⟨⟨HSP.out.1.1.same (u8_put q2 q0),HSP.out.1.2.same (u8_put q2 q0)⟩,HSP.out.2⟩;clear HSP q0;have HSP:=HSn;clear HSn;have Hn:=hidIt (H6.out.other q2 (by omega));clear H6;have H6:=Hn;clear Hn;obtain ⟨z6,_,zf6⟩:=H6.out.cells;have zl6:=H6.out.lt;obtain ⟨z7,_,zf7⟩:=H7.out.cells;have zl7:=H7.out.lt;obtain ⟨d0,c0⟩:=HP.out v5 HBc.out;have sz5:=q2.size;clear hwN q1 q2
     refine hK.out _ _ ?_ (fun hHeld=>?_)
     ·(try simp only [World.cell?_drew]);exact HP.out v5 HBc.out
     clear hK K
     try simp only [Act.put,sA1,sA2,sA3,sA4,sA5,sA6]
     refine wpAnyH_done (by kernel_rfl) ?_ _
     go_wp2_with fail
     go_meet
     case rel=>exact ⟨v1.heap.size,wp.heap.size,hd,rs,rfl,rfl,HSP,H6.out,H7.out,by omega,by omega,by omega,HBc.out⟩
  obtain ⟨b6,b7,hd,rs,rfl,rfl,HSP,h6,h7,l6,l7,hne,hbw⟩:=hcut
  generalize hwc:wc=w2 at *
  have hsp:=HSZ.out
  clear hwc HP SP d0 c0
  have HW2:=hidIt (HWP.out.ext hbw)
  obtain ⟨⟨_,_,cg2,_⟩,_⟩:=HW2.out.cells
  obtain ⟨e0,_,_⟩:=h7.cells
  have hr2:=((HROW.out.ext HBP.out).ext hbw).cell 0 (by simp [xsOf])
  rw [show (xsOf ((x,gx) :: os))[0]?.getD It.zero=x from rfl,Nat.zero_mul,Nat.add_zero] at hr2
  have hfb:∀ i,w2.frozen? ⟨bo,i,none⟩=false:=by
   obtain ⟨cs,hcs,_⟩:=(HROW.out.ext HBP.out).ext hbw
   intro i
   simp [World.frozen?,hcs]
  have hbl2:bo < w2.heap.size:=Nat.lt_of_lt_of_le (by omega) hbw.size
  have n1:¬ g=bo:=fun e=>by
   have t1:=HW0.out.typ
   rw [e] at t1
   exact absurd (t1.uniq HROW.out.typ) (by decide)
  have n2:¬ b7=bo:=by omega
  have RE:=HW2.out.rep rs (gx.drop n) HSP.out.1.2
  have RG:w2.grownBy (((((((w2.setCell ⟨bo,o,none⟩ (.slice rs.p rs.n rs.c)).setCell ⟨bo,o + 1,none⟩ (.int .i64 rs.pl)).setCell ⟨bo,o + 2,none⟩ (.int .i64 rs.sp.a)).setCell ⟨bo,o + 3,none⟩ (.int .i64 rs.sp.s)).setCell ⟨bo,o + 4,none⟩ (.int .i64 rs.sp.b)).setCell ⟨bo,o + 5,none⟩ (.bool rs.sp.lf)).setCell ⟨bo,o + 6,none⟩ (.bool rs.sp.cr)) (some bo):=by
   obtain ⟨cs,hcs,_⟩:=(HROW.out.ext HBP.out).ext hbw
   exact (put7 hcs o rs).2
  simp only [Nat.zero_mul,Nat.add_zero] at RE
  have RE:=And.intro RE RG
  clear RG
  go_upto_region 6 with fail
  refine wp_region_held_drew (S:=fun w''=>w''.cell? ⟨g,2,none⟩=some (.slice (some ⟨bo,o,none⟩) (os.length + 1) c)∧(w''.cell? ⟨b7,0,none⟩=some (.slice rs.p rs.n rs.c)∧w''.cell? ⟨b7,1,none⟩=some (.int .i64 rs.pl)∧w''.cell? ⟨b7,2,none⟩=some (.int .i64 rs.sp.a)∧w''.cell? ⟨b7,3,none⟩=some (.int .i64 rs.sp.s)∧w''.cell? ⟨b7,4,none⟩=some (.int .i64 rs.sp.b)∧w''.cell? ⟨b7,5,none⟩=some (.bool rs.sp.lf)∧w''.cell? ⟨b7,6,none⟩=some (.bool rs.sp.cr))) (by kernel_rfl) (⟨cg2,e0⟩) (fun hHeld=>?_)
  refine tkH (v:=?_) 0 rfl ?_ ?_;rotate_left 1
  ·intro wq hSw;(try dsimp only at hSw);go_simp;try (with_reducible rfl)
  try simp only [Act.put,sA1,sA3,sA4,sA5,sA6]
  refine tkH (v:=?_) 1 rfl ?_ ?_;rotate_left 1
  ·intro wq hSw;(try dsimp only at hSw);go_simp;try (with_reducible rfl)
  try simp only [Act.put,sA1,sA2,sA3,sA4,sA5,sA6]
  refine tkH (v:=?_) 2 rfl ?_ ?_;rotate_left 1
  ·intro wq hSw;(try dsimp only at hSw);go_simp;try (with_reducible rfl)
  try simp only [Act.put,sA1,sA2,sA3,sA4,sA5,sA6]
  refine tkH (v:=?_) 3 rfl ?_ ?_;rotate_left 1
  ·intro wq hSw;(try dsimp only at hSw);go_simp;try (with_reducible rfl)
  try simp only [Act.put,sA1,sA2,sA3,sA4,sA5,sA6]
  refine tkH (v:=?_) 4 rfl ?_ ?_;rotate_left 1
  ·intro wq hSw;(try dsimp only at hSw);go_simp;try (with_reducible rfl)
  try simp only [Act.put,sA1,sA2,sA3,sA4,sA5,sA6]
  refine wpAnyH_ready (rs:=[5]) (by kernel_rfl) (by simp) ?_
  refine AllReadyH.cons (o:=_) rfl (fun K hK=>?_) AllReadyH.nil
  go_simp
  refine hK.out _ _ ?_ (fun hHeld=>?_)
  ·(try simp only [World.cell?_drew]);exact ⟨cg2,e0⟩
  clear hK K
  try simp only [Act.put,sA1,sA2,sA3,sA4,sA5,sA6]
  refine wpAnyH_ready (rs:=[6]) (by kernel_rfl) (by simp) ?_
  refine AllReadyH.cons (o:=_) rfl (fun K hK=>?_) AllReadyH.nil
  go_simp
  generalize hwN:World.setCell _ _ _=w3;rw [hwN] at RE;have HRE:=hidIt RE;have s3:w3.cell? ⟨g,2,none⟩=some (.slice (some ⟨bo,o,none⟩) (os.length + 1) c)∧(w3.cell? ⟨b7,0,none⟩=some (.slice rs.p rs.n rs.c)∧w3.cell? ⟨b7,1,none⟩=some (.int .i64 rs.pl)∧w3.cell? ⟨b7,2,none⟩=some (.int .i64 rs.sp.a)∧w3.cell? ⟨b7,3,none⟩=some (.int .i64 rs.sp.s)∧w3.cell? ⟨b7,4,none⟩=some (.int .i64 rs.sp.b)∧w3.cell? ⟨b7,5,none⟩=some (.bool rs.sp.lf)∧w3.cell? ⟨b7,6,none⟩=some (.bool rs.sp.cr)):=(by rw [← hwN];simp only [cell_set_other n1,cell_set_other n2];exact ⟨cg2,e0⟩);clear hwN RE
  refine hK.out _ _ ?_ (fun hHeld=>?_)
  ·(try simp only [World.cell?_drew]);exact s3
  clear hK K
  try simp only [Act.put,sA1,sA2,sA3,sA4,sA5,sA6]
  refine wpAnyH_done (by kernel_rfl) ?_ _
  have g3:=HRE.out.2
  obtain ⟨q0,_,_⟩:=(h6.other g3 (by omega)).cells
  have k0:=(HKR.out.ext hbw).other g3 (by omega)
  obtain ⟨r0,_,rf⟩:=k0.cells
  have rl:=k0.lt
  have F:=hidIt (nx_fin (n:=n) HW0.out ((Kps.of_below _ (ext_trans HBP.out hbw)).trans HRE.out.1.2 fun _ _ e=>e) HRE.out.1.1 k0 hd (gx.take n) (HSP.out.1.1.same (u8_kept HRE.out.1.2 fun _=>HW2.out.own_nu)) (by rw [List.length_take];omega) (by rw [sh_cons,sh_cons,← List.append_assoc,HSP.out.2]))
  clear HRE s3 cg2 e0
  go_wp2_with fail
  exact bodyPost_ret (v:=.agg #[.slice hd.p hd.n hd.c,.int .i64 hd.pl,.int .i64 hd.sp.a,.int .i64 hd.sp.s,.int .i64 hd.sp.b,.bool hd.sp.lf,.bool hd.sp.cr]) (by simp [results,Tryz.results121,go_sem,r0,It.zero,Rs.zero]) rfl F.out.drew
end Go.Proofs.YtjjfakokakamaaaGreat.P

namespace Go.Proofs.YtjjfakokakamaaaGreat.P
open Go.RowKit
section
variable {P:Program} {W:World}
theorem wp_append_pieceB {op:Oper} {a:Act} {K:Act→World→Prop} {Q:Exit→Act→World→Prop} (s x:Operand) (t:TypeId)
  (ho:op.op=.call { callee:=.builtin .append,args:=#[s,x],argTypes:=#[t,t] })
  (base:Nat) (e:TypeId) (hinf:(P.info? e).map (fun i=>(i.zero,i.size,i.bytes))=some (some (.agg #[.slice It.zero.p It.zero.n It.zero.c,.int .i64 It.zero.pl,.int .i64 It.zero.sp.a,.int .i64 It.zero.sp.s,.int .i64 It.zero.sp.b,.bool It.zero.sp.lf,.bool It.zero.sp.cr]),7,64)) (ht:P.underlying t=some (.slice e))
  (v:Value) (xs:List It) (hs:a.eval s=v) (hown:OwnR W base e v xs) (y:It) (g:Nat) (hx:a.eval x=.slice (some ⟨g,0,none⟩) 1 1) (hnew:∀ j u,(pcs y)[j]?=some u→W.cell? ((⟨g,0,none⟩:Addr).add j)=some u)
  (hbytes:xs.length + 1≤1099511627776) (hbase:base≤W.heap.size)
  (h:∀ v' w',OwnR w' base e v' (xs ++ [y])→W.grownBy w' v.ownBlock→(v'.ownBlock=v.ownBlock∨v'.ownBlock=some W.heap.size)→K (a.put op.dst v') w'):op.wp P a W K Q:=by
 obtain ⟨i0,hi,hz0,hz1,hz2⟩:=info_parts hinf
 obtain ⟨v',w',hr,h2,h3,h4⟩:=run_append_blk (P:=P) W base t op.type e i0 _ 7 64 ht hi hz0 hz1 hz2 rfl (by decide) v xs.length (flat xs) hown ⟨g,0,none⟩ 1 1 (pcs y) rfl hnew (pcs_one y) (by unfold maxLen;omega) (by omega) hbase (by omega)
 unfold Oper.wp execOp
 simp only [ho,resolve,invoke,builtin,Sem.run_bind,Sem.run_pure,Result.andThen_ok,List.map_toArray,List.map_cons,List.map_nil,hs,hx,hr]
 refine h v' w' ?_ h3 h4
 unfold OwnR
 rw [List.length_append,flat_app,show flat [y]=pcs y by simp [flat]]
 exact h2
end
theorem cell_same {w w':World} {b:Nat} (h:w'.heap[b]?=w.heap[b]?) (i:Nat):w'.cell? ⟨b,i,none⟩=w.cell? ⟨b,i,none⟩:=by unfold World.cell?;simp only [h]
theorem froz_same {w w':World} {b:Nat} (h:w'.heap[b]?=w.heap[b]?) (i:Nat):w'.frozen? ⟨b,i,none⟩=w.frozen? ⟨b,i,none⟩:=by unfold World.frozen?;simp only [h]
theorem BlkI.same9 {w w':World} {g:Nat} {x:It} (h:BlkI w g x) (hb:w'.heap[g]?=w.heap[g]?):BlkI w' g x:=by unfold BlkI;rw [hb];exact h
def AdR (enc:Int) (L:List Int) (g bo:Nat) (w:World) (lv vo vm:Value) (os ms:List PG) (x:It) (gx:List Int) (e:Ending) (w':World):Prop :=
 ∃ v vm' ms',e=.returned v∧Wr enc L g bo w' lv vo vm' os ms'∧sh enc ms'=sh enc ms ++ ctn enc x.pl gx∧ms'.length≤ms.length + 1∧Kps (ow g bo vm) w w'∧(vm'.ownBlock=vm.ownBlock∨∃ k,vm'.ownBlock=some k∧w.heap.size≤k)
theorem AdR.drew {enc:Int} {L:List Int} {g bo:Nat} {w w':World} {lv vo vm:Value} {os ms:List PG} {x:It} {gx:List Int} {e:Ending} (h:AdR enc L g bo w lv vo vm os ms x gx e w'):AdR enc L g bo w lv vo vm os ms x gx e w'.drew:=by
 obtain ⟨v,vm',ms',h1,h2,h3,h4,h5,h6⟩:=h
 have hb:Below w'.heap.size w' w'.drew:=(Below.refl _ _).drew
 exact ⟨v,vm',ms',h1,h2.ext hb,h3,h4,h5.trans (Kps.of_below _ hb) fun _ _ e=>e,h6⟩
theorem ad_push {enc:Int} {L:List Int} {g bo:Nat} {w W w1:World} {lv vo vm vm':Value} {os ms:List PG} {x:It} {gx:List Int} (v:Value) (h:Wr enc L g bo w lv vo vm os ms) (hb:Below w.heap.size w W) (hx:Pc enc L w x gx) (hown:OwnR w1 0 122 vm' (xsOf ms ++ [x])) (hg:W.grownBy w1 vm.ownBlock) (hk:vm'.ownBlock=vm.ownBlock∨vm'.ownBlock=some W.heap.size) :
  AdR enc L g bo w lv vo vm os ms x gx (.returned v) (w1.setCell ⟨g,3,none⟩ vm'):=by
 obtain ⟨p1,p2⟩:=(h.ext hb).push (hx.ext hb) hown hg hk
 exact ⟨v,vm',ms ++ [(x,gx)],rfl,p1,by rw [sh_app,sh_one],by simp,(Kps.of_below _ hb).trans p2 fun _ _ e=>e,hk.imp id fun e=>⟨_,e,hb.size⟩⟩
set_option maxRecDepth 100000 in
set_option maxHeartbeats 8000000 in
theorem add_any (enc:Int) (he:Cx.En enc) (L:List Int) (hL:Byt L) (hLl:L.length≤1073741824) (g bo:Nat) (lv vo vm:Value) (x:It) (gx:List Int) (os ms:List PG) (w:World) (hW:Wr enc L g bo w lv vo vm os ms) (hx:Pc enc L w x gx) (hl:ln enc (asOf ms) + ln enc gx≤1073741824) :
  Calls Tryz.prog 94 #[.pointer (some ⟨g,0,none⟩),.agg #[.slice x.p x.n x.c,.int .i64 x.pl,.int .i64 x.sp.a,.int .i64 x.sp.s,.int .i64 x.sp.b,.bool x.sp.lf,.bool x.sp.cr]] w fun e w'=>AdR enc L g bo w lv vo vm os ms x gx e w':=by
 have hml:=hW.pm.len
 have hml2:=ln_ge enc (asOf ms)
 obtain ⟨ao,cap,hvm⟩:=hW.made.form1
 rw [xsOf_len] at hvm
 have HML:=hidIt (show (xsOf ms).length + 1≤1099511627776 by rw [xsOf_len];omega)
 obtain ⟨w1,hw1,kx,hb1⟩:∃ w1,w1=w.alloc (.cells #[.slice x.p x.n x.c,.int .i64 x.pl,.int .i64 x.sp.a,.int .i64 x.sp.s,.int .i64 x.sp.b,.bool x.sp.lf,.bool x.sp.cr] 122)∧BlkI w1 w.heap.size x∧Below w.heap.size w w1:=⟨_,rfl,heap_alloc_new _ _,ext_alloc (Below.refl _ _) _⟩
 have HKX:=hidIt kx
 have HB1:=hidIt hb1
 have HW0:=hidIt hW
 have HXX:=hidIt hx
 have HEN:=hidIt he
 have HLB:=hidIt hL
 have hgl:=hW.lt
 have NOX:=hidIt (show vm.ownBlock≠some w.heap.size from fun e=>by have:=hW.own_lt (.inr (.inr e));omega)
 have hng:¬ g=w.heap.size:=by omega
 have hng':¬ w.heap.size=g:=by omega
 have HP:Hid (∀ w',Below w1.heap.size w1 w'→(w'.cell? ⟨w.heap.size,0,none⟩=some (.slice x.p x.n x.c)∧w'.cell? ⟨w.heap.size,1,none⟩=some (.int .i64 x.pl)∧w'.cell? ⟨w.heap.size,2,none⟩=some (.int .i64 x.sp.a)∧w'.cell? ⟨w.heap.size,3,none⟩=some (.int .i64 x.sp.s)∧w'.cell? ⟨w.heap.size,4,none⟩=some (.int .i64 x.sp.b)∧w'.cell? ⟨w.heap.size,5,none⟩=some (.bool x.sp.lf)∧w'.cell? ⟨w.heap.size,6,none⟩=some (.bool x.sp.cr))∧(w'.cell? ⟨g,3,none⟩=some vm∧∀ i,w'.frozen? ⟨g,i,none⟩=false)∧g < w'.heap.size):=fun w' hb=>⟨(kx.ext hb).cells.1,⟨((hW.ext hb1).ext hb).cells.1.2.2.2,((hW.ext hb1).ext hb).cells.2⟩,((hW.ext hb1).ext hb).lt⟩
 have PUSH:Hid (∀ W vm' w2 v,Below w1.heap.size w1 W→OwnR w2 0 122 vm' (xsOf ms ++ [x])→W.grownBy w2 vm.ownBlock→(vm'.ownBlock=vm.ownBlock∨vm'.ownBlock=some W.heap.size)→AdR enc L g bo w lv vo vm os ms x gx (.returned v) (w2.setCell ⟨g,3,none⟩ vm')):=fun W vm' w2 v hb h1 h2 h3=>ad_push v hW (ext_trans hb1 hb) hx h1 h2 h3
 have HOWN:Hid (∀ W,Below w1.heap.size w1 W→OwnR W 0 122 vm (xsOf ms)):=fun W hb=>(hW.ext (ext_trans hb1 hb)).made
 clear hW hx he hL kx hb1
 subst hvm
 by_cases h0:ms=[]
 ·subst h0
  simp only [List.length_nil] at *
  go_enter Tryz.func94,Tryz.ntmps94
  go_upto_region 1 with fail
  rw [← hw1]
  clear hw1
  obtain ⟨d0,⟨c3,cf⟩,cl⟩:=HP.out w1 (Below.refl _ _)
  go_upto_region 6 with fail
  have HBW:=hidIt (Below.refl w1.heap.size w1)
  refine wp_region_held_drew (S:=fun w''=>(w''.cell? ⟨w.heap.size,0,none⟩=some (.slice x.p x.n x.c)∧w''.cell? ⟨w.heap.size,1,none⟩=some (.int .i64 x.pl)∧w''.cell? ⟨w.heap.size,2,none⟩=some (.int .i64 x.sp.a)∧w''.cell? ⟨w.heap.size,3,none⟩=some (.int .i64 x.sp.s)∧w''.cell? ⟨w.heap.size,4,none⟩=some (.int .i64 x.sp.b)∧w''.cell? ⟨w.heap.size,5,none⟩=some (.bool x.sp.lf)∧w''.cell? ⟨w.heap.size,6,none⟩=some (.bool x.sp.cr))) (by kernel_rfl) (d0) (fun hHeld=>?_)
  refine tkH (v:=?_) 0 rfl ?_ ?_;rotate_left 1
  ·intro wq hSw;(try dsimp only at hSw);go_simp;try (with_reducible rfl)
  try simp only [Act.put,sA1,sA3,sA4,sA5,sA6]
  refine tkH (v:=?_) 1 rfl ?_ ?_;rotate_left 1
  ·intro wq hSw;(try dsimp only at hSw);go_simp;try (with_reducible rfl)
  try simp only [Act.put,sA1,sA2,sA3,sA4,sA5,sA6]
  refine tkH (v:=?_) 2 rfl ?_ ?_;rotate_left 1
  ·intro wq hSw;(try dsimp only at hSw);go_simp;try (with_reducible rfl)
  try simp only [Act.put,sA1,sA2,sA3,sA4,sA5,sA6]
  refine tkH (v:=?_) 3 rfl ?_ ?_;rotate_left 1
  ·intro wq hSw;(try dsimp only at hSw);go_simp;try (with_reducible rfl)
  try simp only [Act.put,sA1,sA2,sA3,sA4,sA5,sA6]
  refine tkH (v:=?_) 5 rfl ?_ ?_;rotate_left 1
  ·intro wq hSw;(try dsimp only at hSw);go_simp;try (with_reducible rfl)
  try simp only [Act.put,sA1,sA2,sA3,sA4,sA5,sA6]
  refine wpAnyH_ready (rs:=[4,6]) (by kernel_rfl) (by simp) ?_
  refine (AllReadyH.cons (o:=_) rfl (fun K hK=>?_) (AllReadyH.cons (o:=_) rfl (fun K hK=>?_) AllReadyH.nil))
  ·skip
   go_simp
   refine hK.out _ _ ?_ (fun hHeld=>?_)
   ·(try simp only [World.cell?_drew]);exact d0
   clear hK K
   try simp only [Act.put,sA1,sA2,sA3,sA4,sA5,sA6]
   refine wpAnyH_ready (rs:=[6]) (by kernel_rfl) (by simp) ?_
   refine AllReadyH.cons (o:=_) rfl (fun K hK=>?_) AllReadyH.nil
   go_simp
   generalize hwN:World.alloc _ _=v1;have NEW:Hid (∀ j u,(pcs x)[j]?=some u→v1.drew.cell? ((⟨w1.heap.size,0,none⟩:Addr).add j)=some u):=(fun j u hj=>by rw [World.cell?_drew,← hwN];exact cell7_new w1 122 x j u hj);have HB2:Hid (Below w1.heap.size w1 v1):=(by unfold Hid;rw [← hwN];exact ext_alloc HBW.out _);clear hwN d0 c3 cf cl;obtain ⟨d0,⟨c3,cf⟩,cl⟩:=HP.out v1 HB2.out
   refine hK.out _ _ ?_ (fun hHeld=>?_)
   ·(try simp only [World.cell?_drew]);exact d0
   clear hK K
   try simp only [Act.put,sA1,sA2,sA3,sA4,sA5,sA6]
   refine wpAnyH_ready (rs:=[7]) (by kernel_rfl) (by simp) ?_
   refine AllReadyH.cons (o:=_) rfl (fun K hK=>?_) AllReadyH.nil
   rw [if_pos (by rfl)]
   refine wp_append_pieceB _ _ 147 (by rfl) 0 122 Tryz.info_piece Tryz.underlying147 (.slice ao 0 cap) (xsOf []) (by rfl) (HOWN.out _ HB2.out.drew) x w1.heap.size (by rfl) NEW.out HML.out (Nat.zero_le _) ?_;intro v' w9 hown' hg' hk';obtain ⟨n',ao',cap',hv'⟩:∃ n' ao' cap',v'=.slice ao' n' cap':=(let ⟨a,b,c⟩:=hown'.form1;⟨_,a,b,c⟩);subst hv';have AD:=hidIt (PUSH.out _ _ _ (.tuple #[]) HB2.out.drew hown' hg' hk');have gl:g < w9.heap.size:=Nat.lt_of_lt_of_le cl hg'.size;have gb:=hg'.block g cl (fun e=>(HW0.out.ext (ext_trans HB1.out HB2.out)).ng e.symm);have d9:(w9.cell? ⟨w.heap.size,0,none⟩=some (.slice x.p x.n x.c)∧w9.cell? ⟨w.heap.size,1,none⟩=some (.int .i64 x.pl)∧w9.cell? ⟨w.heap.size,2,none⟩=some (.int .i64 x.sp.a)∧w9.cell? ⟨w.heap.size,3,none⟩=some (.int .i64 x.sp.s)∧w9.cell? ⟨w.heap.size,4,none⟩=some (.int .i64 x.sp.b)∧w9.cell? ⟨w.heap.size,5,none⟩=some (.bool x.sp.lf)∧w9.cell? ⟨w.heap.size,6,none⟩=some (.bool x.sp.cr)):=((HKX.out.ext HB2.out).same9 (hg'.block w.heap.size (HKX.out.ext HB2.out).lt (fun e=>NOX.out e.symm))).cells.1;have c9:w9.cell? ⟨g,3,none⟩=some (.slice ao 0 cap):=(cell_same gb _).trans c3;have f9:∀ i,w9.frozen? ⟨g,i,none⟩=false:=(fun i=>(froz_same gb _).trans (cf i));clear d0 c3 cf cl;change K (Act.put _ (some 44) _) w9
   refine hK.out _ _ ?_ (fun hHeld=>?_)
   ·exact d9
   clear hK K
   try simp only [Act.put,sA4,sA5,sA6]
   refine tkH (v:=?_) 8 rfl ?_ ?_;rotate_left 1
   ·intro wq hSw;(try dsimp only at hSw);go_simp;try (with_reducible rfl)
   try simp only [Act.put,sA1,sA2,sA3,sA4,sA5,sA6]
   refine tkH (v:=?_) 9 rfl ?_ ?_;rotate_left 1
   ·intro wq hSw;(try dsimp only at hSw);go_simp;try (with_reducible rfl)
   try simp only [Act.put,sA1,sA2,sA3,sA4,sA5,sA6]
   refine wpAnyH_ready (rs:=[10]) (by kernel_rfl) (by simp) ?_
   refine AllReadyH.cons (o:=_) rfl (fun K hK=>?_) AllReadyH.nil
   go_simp
   generalize hwN:World.setCell _ _ _=w10;rw [hwN] at AD;have d10:(w10.cell? ⟨w.heap.size,0,none⟩=some (.slice x.p x.n x.c)∧w10.cell? ⟨w.heap.size,1,none⟩=some (.int .i64 x.pl)∧w10.cell? ⟨w.heap.size,2,none⟩=some (.int .i64 x.sp.a)∧w10.cell? ⟨w.heap.size,3,none⟩=some (.int .i64 x.sp.s)∧w10.cell? ⟨w.heap.size,4,none⟩=some (.int .i64 x.sp.b)∧w10.cell? ⟨w.heap.size,5,none⟩=some (.bool x.sp.lf)∧w10.cell? ⟨w.heap.size,6,none⟩=some (.bool x.sp.cr)):=(by rw [← hwN];simp only [cell_set_other hng'];exact d9);clear hwN
   refine hK.out _ _ ?_ (fun hHeld=>?_)
   ·(try simp only [World.cell?_drew]);exact d10
   clear hK K
   try simp only [Act.put,sA1,sA2,sA3,sA4,sA5,sA6]
   refine wpAnyH_done (by kernel_rfl) ?_ _
   go_wp2_with fail
   exact bodyPost_ret (v:=.tuple #[]) (by simp [results,Tryz.results94,go_sem]) rfl AD.out
  ·skip
   go_simp
   generalize hwN:World.alloc _ _=v1;have NEW:Hid (∀ j u,(pcs x)[j]?=some u→v1.drew.cell? ((⟨w1.heap.size,0,none⟩:Addr).add j)=some u):=(fun j u hj=>by rw [World.cell?_drew,← hwN];exact cell7_new w1 122 x j u hj);have HB2:Hid (Below w1.heap.size w1 v1):=(by unfold Hid;rw [← hwN];exact ext_alloc HBW.out _);clear hwN d0 c3 cf cl;obtain ⟨d0,⟨c3,cf⟩,cl⟩:=HP.out v1 HB2.out
   refine hK.out _ _ ?_ (fun hHeld=>?_)
   ·(try simp only [World.cell?_drew]);exact d0
   clear hK K
   try simp only [Act.put,sA1,sA2,sA3,sA4,sA5,sA6]
   refine wpAnyH_ready (rs:=[4]) (by kernel_rfl) (by simp) ?_
   refine AllReadyH.cons (o:=_) rfl (fun K hK=>?_) AllReadyH.nil
   go_simp
   refine hK.out _ _ ?_ (fun hHeld=>?_)
   ·(try simp only [World.cell?_drew]);exact d0
   clear hK K
   try simp only [Act.put,sA1,sA2,sA3,sA4,sA5,sA6]
   refine wpAnyH_ready (rs:=[7]) (by kernel_rfl) (by simp) ?_
   refine AllReadyH.cons (o:=_) rfl (fun K hK=>?_) AllReadyH.nil
   rw [if_pos (by rfl)]
   refine wp_append_pieceB _ _ 147 (by rfl) 0 122 Tryz.info_piece Tryz.underlying147 (.slice ao 0 cap) (xsOf []) (by rfl) (HOWN.out _ HB2.out.drew) x w1.heap.size (by rfl) NEW.out HML.out (Nat.zero_le _) ?_;intro v' w9 hown' hg' hk';obtain ⟨n',ao',cap',hv'⟩:∃ n' ao' cap',v'=.slice ao' n' cap':=(let ⟨a,b,c⟩:=hown'.form1;⟨_,a,b,c⟩);subst hv';have AD:=hidIt (PUSH.out _ _ _ (.tuple #[]) HB2.out.drew hown' hg' hk');have gl:g < w9.heap.size:=Nat.lt_of_lt_of_le cl hg'.size;have gb:=hg'.block g cl (fun e=>(HW0.out.ext (ext_trans HB1.out HB2.out)).ng e.symm);have d9:(w9.cell? ⟨w.heap.size,0,none⟩=some (.slice x.p x.n x.c)∧w9.cell? ⟨w.heap.size,1,none⟩=some (.int .i64 x.pl)∧w9.cell? ⟨w.heap.size,2,none⟩=some (.int .i64 x.sp.a)∧w9.cell? ⟨w.heap.size,3,none⟩=some (.int .i64 x.sp.s)∧w9.cell? ⟨w.heap.size,4,none⟩=some (.int .i64 x.sp.b)∧w9.cell? ⟨w.heap.size,5,none⟩=some (.bool x.sp.lf)∧w9.cell? ⟨w.heap.size,6,none⟩=some (.bool x.sp.cr)):=((HKX.out.ext HB2.out).same9 (hg'.block w.heap.size (HKX.out.ext HB2.out).lt (fun e=>NOX.out e.symm))).cells.1;have c9:w9.cell? ⟨g,3,none⟩=some (.slice ao 0 cap):=(cell_same gb _).trans c3;have f9:∀ i,w9.frozen? ⟨g,i,none⟩=false:=(fun i=>(froz_same gb _).trans (cf i));clear d0 c3 cf cl;change K (Act.put _ (some 44) _) w9
   refine hK.out _ _ ?_ (fun hHeld=>?_)
   ·exact d9
   clear hK K
   try simp only [Act.put,sA4,sA5,sA6]
   refine tkH (v:=?_) 8 rfl ?_ ?_;rotate_left 1
   ·intro wq hSw;(try dsimp only at hSw);go_simp;try (with_reducible rfl)
   try simp only [Act.put,sA1,sA2,sA3,sA4,sA5,sA6]
   refine tkH (v:=?_) 9 rfl ?_ ?_;rotate_left 1
   ·intro wq hSw;(try dsimp only at hSw);go_simp;try (with_reducible rfl)
   try simp only [Act.put,sA1,sA2,sA3,sA4,sA5,sA6]
   refine wpAnyH_ready (rs:=[10]) (by kernel_rfl) (by simp) ?_
   refine AllReadyH.cons (o:=_) rfl (fun K hK=>?_) AllReadyH.nil
   go_simp
   generalize hwN:World.setCell _ _ _=w10;rw [hwN] at AD;have d10:(w10.cell? ⟨w.heap.size,0,none⟩=some (.slice x.p x.n x.c)∧w10.cell? ⟨w.heap.size,1,none⟩=some (.int .i64 x.pl)∧w10.cell? ⟨w.heap.size,2,none⟩=some (.int .i64 x.sp.a)∧w10.cell? ⟨w.heap.size,3,none⟩=some (.int .i64 x.sp.s)∧w10.cell? ⟨w.heap.size,4,none⟩=some (.int .i64 x.sp.b)∧w10.cell? ⟨w.heap.size,5,none⟩=some (.bool x.sp.lf)∧w10.cell? ⟨w.heap.size,6,none⟩=some (.bool x.sp.cr)):=(by rw [← hwN];simp only [cell_set_other hng'];exact d9);clear hwN
   refine hK.out _ _ ?_ (fun hHeld=>?_)
   ·(try simp only [World.cell?_drew]);exact d10
   clear hK K
   try simp only [Act.put,sA1,sA2,sA3,sA4,sA5,sA6]
   refine wpAnyH_done (by kernel_rfl) ?_ _
   go_wp2_with fail
   exact bodyPost_ret (v:=.tuple #[]) (by simp [results,Tryz.results94,go_sem]) rfl AD.out
 ·obtain ⟨ms0,q,rfl⟩:∃ ms0 q,ms=ms0 ++ [q]:=⟨ms.dropLast,ms.getLast h0,(List.dropLast_concat_getLast h0).symm⟩
  obtain ⟨xq,gq⟩:=q
  obtain ⟨k,cp,hv,_,hk1,hk2,hk3,hrow⟩:=(HOWN.out w1 (Below.refl _ _)).row (by rw [xsOf_len];simp)
  simp only [Value.slice.injEq] at hv
  obtain ⟨hao,hx1,hcp⟩:=hv
  clear hx1
  subst hao
  subst hcp
  rw [xsOf_len] at hk2
  have HROW:=hidIt hrow
  have HQ:Hid (∀ w',Below w.heap.size w w'→Pc enc L w' xq gq):=fun w' hb=>(HW0.out.pm (xq,gq) (by simp)).ext hb
  have HLQ:Hid (ln enc gq + ln enc gx≤1073741824):=by
   unfold Hid
   have e:asOf (ms0 ++ [(xq,gq)])=asOf ms0 ++ gq:=by rw [asOf_app];simp [asOf]
   rw [e,ln_app] at hl
   omega
  have HP2:Hid (∀ w',Below w1.heap.size w1 w'→(w'.cell? ⟨g,3,none⟩=some (.slice (some ⟨k,0,none⟩) (ms0 ++ [(xq,gq)]).length cap)∧(w'.cell? ⟨k,ms0.length * 7,none⟩=some (.slice xq.p xq.n xq.c)∧w'.cell? ⟨k,ms0.length * 7 + 1,none⟩=some (.int .i64 xq.pl)∧w'.cell? ⟨k,ms0.length * 7 + 2,none⟩=some (.int .i64 xq.sp.a)∧w'.cell? ⟨k,ms0.length * 7 + 3,none⟩=some (.int .i64 xq.sp.s)∧w'.cell? ⟨k,ms0.length * 7 + 4,none⟩=some (.int .i64 xq.sp.b)∧w'.cell? ⟨k,ms0.length * 7 + 5,none⟩=some (.bool xq.sp.lf)∧w'.cell? ⟨k,ms0.length * 7 + 6,none⟩=some (.bool xq.sp.cr)))∧(w'.cell? ⟨w.heap.size,0,none⟩=some (.slice x.p x.n x.c)∧w'.cell? ⟨w.heap.size,1,none⟩=some (.int .i64 x.pl)∧w'.cell? ⟨w.heap.size,2,none⟩=some (.int .i64 x.sp.a)∧w'.cell? ⟨w.heap.size,3,none⟩=some (.int .i64 x.sp.s)∧w'.cell? ⟨w.heap.size,4,none⟩=some (.int .i64 x.sp.b)∧w'.cell? ⟨w.heap.size,5,none⟩=some (.bool x.sp.lf)∧w'.cell? ⟨w.heap.size,6,none⟩=some (.bool x.sp.cr))):=fun w' hb=>by
   obtain ⟨d0,⟨c3,_⟩,_⟩:=HP.out w' hb
   have r:=(HROW.out.ext hb).cell ms0.length (by rw [xsOf_len];simp)
   have e:(xsOf (ms0 ++ [(xq,gq)]))[ms0.length]?.getD It.zero=xq:=by
    rw [xsOf_app,List.getElem?_append_right (by rw [xsOf_len];exact Nat.le_refl _),xsOf_len,Nat.sub_self]
    rfl
   rw [e,Nat.zero_add] at r
   exact ⟨⟨c3,r⟩,d0⟩
  have UN:Hid (∀ w',Below w1.heap.size w1 w'→Calls Tryz.prog 122 #[.pointer (some ⟨g,0,none⟩),.agg #[.slice xq.p xq.n xq.c,.int .i64 xq.pl,.int .i64 xq.sp.a,.int .i64 xq.sp.s,.int .i64 xq.sp.b,.bool xq.sp.lf,.bool xq.sp.cr],.agg #[.slice x.p x.n x.c,.int .i64 x.pl,.int .i64 x.sp.a,.int .i64 x.sp.s,.int .i64 x.sp.b,.bool x.sp.lf,.bool x.sp.cr]] w' fun e w''=>∃ (z:It) (ok:Bool),e=.returned (.tuple #[.agg #[.slice z.p z.n z.c,.int .i64 z.pl,.int .i64 z.sp.a,.int .i64 z.sp.s,.int .i64 z.sp.b,.bool z.sp.lf,.bool z.sp.cr],.bool ok])∧Hid (ok=true→Pc enc L w'' z (gq ++ gx)∧ctn enc z.pl (gq ++ gx)=ctn enc xq.pl gq ++ ctn enc x.pl gx)∧Below w'.heap.size w' w''):=fun w' hb=>by
   have hb':=ext_trans HB1.out hb
   have hw':=HW0.out.ext hb'
   exact unite_any enc HEN.out L HLB.out hLl g lv xq x gq gx w' ⟨hw'.cells.1.1,hw'.cells.1.2.1⟩ hw'.lt hw'.ld (HQ.out w' hb') (HXX.out.ext hb') HLQ.out
  have LAST:Hid (∀ W z,Below w1.heap.size w1 W→Pc enc L W z (gq ++ gx)→ctn enc z.pl (gq ++ gx)=ctn enc xq.pl gq ++ ctn enc x.pl gx→AdR enc L g bo w lv vo (.slice (some ⟨k,0,none⟩) (ms0 ++ [(xq,gq)]).length cap) os (ms0 ++ [(xq,gq)]) x gx (.returned (.tuple #[])) (((((((W.setCell ⟨k,ms0.length * 7,none⟩ (.slice z.p z.n z.c)).setCell ⟨k,ms0.length * 7 + 1,none⟩ (.int .i64 z.pl)).setCell ⟨k,ms0.length * 7 + 2,none⟩ (.int .i64 z.sp.a)).setCell ⟨k,ms0.length * 7 + 3,none⟩ (.int .i64 z.sp.s)).setCell ⟨k,ms0.length * 7 + 4,none⟩ (.int .i64 z.sp.b)).setCell ⟨k,ms0.length * 7 + 5,none⟩ (.bool z.sp.lf)).setCell ⟨k,ms0.length * 7 + 6,none⟩ (.bool z.sp.cr))):=fun W z hb hz hc=>by
   have hb':=ext_trans HB1.out hb
   have R:=(HW0.out.ext hb').last z (gq ++ gx) hz
   simp only [Nat.zero_add] at R
   exact ⟨_,_,ms0 ++ [(z,gq ++ gx)],rfl,R.1,by rw [sh_app,sh_app,sh_one,sh_one,hc,List.append_assoc],by simp,(Kps.of_below _ hb').trans R.2 fun _ _ e=>e,.inl rfl⟩
  have hbk:¬ w.heap.size=k:=fun e=>NOX.out (by rw [e];rfl)
  have hgk:¬ g=k:=fun e=>HW0.out.ng (by rw [e];rfl)
  clear hrow h0 hml hml2 hl
  generalize hnn:(ms0 ++ [(xq,gq)]).length=nn at *
  have hn1:nn=ms0.length + 1:=by rw [← hnn];simp
  have HNN:=hidIt hnn
  subst hn1
  clear hnn
  generalize hn0:ms0.length=n0 at *
  clear hn0
  have hn2:n0≤1099511627776:=by have:=HML.out;rw [xsOf_len,HNN.out] at this;omega
  have hwr:IntKind.i64.wrap (n0:Int)=(n0:Int):=by first | (simp [IntKind.wrap,IntKind.signed,IntKind.bits];omega) | (unfold IntKind.wrap;simp;omega) | go_num
  have hlt1:(n0:Int) < (n0:Int) + 1:=by omega
  go_enter Tryz.func94,Tryz.ntmps94
  go_upto_region 1 with fail
  rw [← hw1]
  clear hw1
  obtain ⟨⟨c3,e0⟩,d0⟩:=HP2.out w1 (Below.refl _ _)
  go_upto_region 3 with fail
  have HBc:=hidIt (Below.refl w1.heap.size w1)
  go_cut [5,6] from 14 to 27 (fun p q wF=>∃ (b5:Nat) (z:It) (ok:Bool),p=.pointer (some ⟨b5,0,none⟩)∧q=.bool ok∧Hid (ok=true→Pc enc L wF z (gq ++ gx)∧ctn enc z.pl (gq ++ gx)=ctn enc xq.pl gq ++ ctn enc x.pl gx)∧BlkI wF b5 z∧w1.heap.size≤b5∧Below w1.heap.size w1 wF)
  case first =>
   refine wp_region_held_drew (S:=fun w''=>(w''.cell? ⟨g,3,none⟩=some (.slice (some ⟨k,0,none⟩) (n0 + 1) cap)∧(w''.cell? ⟨k,n0 * 7,none⟩=some (.slice xq.p xq.n xq.c)∧w''.cell? ⟨k,n0 * 7 + 1,none⟩=some (.int .i64 xq.pl)∧w''.cell? ⟨k,n0 * 7 + 2,none⟩=some (.int .i64 xq.sp.a)∧w''.cell? ⟨k,n0 * 7 + 3,none⟩=some (.int .i64 xq.sp.s)∧w''.cell? ⟨k,n0 * 7 + 4,none⟩=some (.int .i64 xq.sp.b)∧w''.cell? ⟨k,n0 * 7 + 5,none⟩=some (.bool xq.sp.lf)∧w''.cell? ⟨k,n0 * 7 + 6,none⟩=some (.bool xq.sp.cr)))∧(w''.cell? ⟨w.heap.size,0,none⟩=some (.slice x.p x.n x.c)∧w''.cell? ⟨w.heap.size,1,none⟩=some (.int .i64 x.pl)∧w''.cell? ⟨w.heap.size,2,none⟩=some (.int .i64 x.sp.a)∧w''.cell? ⟨w.heap.size,3,none⟩=some (.int .i64 x.sp.s)∧w''.cell? ⟨w.heap.size,4,none⟩=some (.int .i64 x.sp.b)∧w''.cell? ⟨w.heap.size,5,none⟩=some (.bool x.sp.lf)∧w''.cell? ⟨w.heap.size,6,none⟩=some (.bool x.sp.cr))) (by kernel_rfl) (⟨⟨c3,e0⟩,d0⟩) (fun hHeld=>?_)
   refine tkH (v:=?_) 0 rfl ?_ ?_;rotate_left 1
   ·intro wq hSw;(try dsimp only at hSw);go_simp;try (with_reducible rfl)
   try simp only [Act.put,sA1,sA3,sA4,sA5,sA6]
   refine tkH (v:=?_) 1 rfl ?_ ?_;rotate_left 1
   ·intro wq hSw;(try dsimp only at hSw);go_simp;try (with_reducible rfl)
   try simp only [Act.put,sA1,sA2,sA3,sA4,sA5,sA6]
   refine tkH (v:=?_) 2 rfl ?_ ?_;rotate_left 1
   ·intro wq hSw;(try dsimp only at hSw);go_simp;try (with_reducible rfl)
   try simp only [Act.put,sA1,sA2,sA3,sA4,sA5,sA6]
   refine tkH (v:=?_) 3 rfl ?_ ?_;rotate_left 1
   ·intro wq hSw;(try dsimp only at hSw);go_simp;try (with_reducible rfl)
   try simp only [Act.put,sA1,sA2,sA3,sA4,sA5,sA6]
   refine tkH (v:=?_) 4 rfl ?_ ?_;rotate_left 1
   ·intro wq hSw;(try dsimp only at hSw);go_simp;try (with_reducible rfl)
   try simp only [Act.put,sA1,sA2,sA3,sA4,sA5,sA6]
   refine tkH (v:=?_) 5 rfl ?_ ?_;rotate_left 1
   ·intro wq hSw;(try dsimp only at hSw);go_simp;try (with_reducible rfl)
   try simp only [Act.put,sA1,sA2,sA3,sA4,sA5,sA6]
   refine tkH (v:=?_) 6 rfl ?_ ?_;rotate_left 1
   ·intro wq hSw;(try dsimp only at hSw);go_simp;try (with_reducible rfl)
   try simp only [Act.put,sA1,sA2,sA3,sA4,sA5,sA6]
   refine tkH (v:=?_) 7 rfl ?_ ?_;rotate_left 1
   ·intro wq hSw;(try dsimp only at hSw);go_simp;try (with_reducible rfl)
   try simp only [Act.put,sA1,sA2,sA3,sA4,sA5,sA6]
   refine tkH (v:=?_) 8 rfl ?_ ?_;rotate_left 1
   ·intro wq hSw;(try dsimp only at hSw);go_simp;try (with_reducible rfl)
   try simp only [Act.put,sA1,sA2,sA3,sA4,sA5,sA6]
   refine tkH (v:=?_) 9 rfl ?_ ?_;rotate_left 1
   ·intro wq hSw;(try dsimp only at hSw);go_simp;try (with_reducible rfl)
   try simp only [Act.put,sA1,sA2,sA3,sA4,sA5,sA6]
   refine wpAnyH_ready (rs:=[10,14]) (by kernel_rfl) (by simp) ?_
   refine (AllReadyH.cons (o:=_) rfl (fun K hK=>?_) (AllReadyH.cons (o:=_) rfl (fun K hK=>?_) AllReadyH.nil))
   ·skip
    go_simp
    refine (UN.out _ HBc.out.drew).mono ?_;(try clear z5 zf5 zl5);clear c3 e0 d0;rintro e v1 ⟨z,ok,rfl,HU,hb⟩;have hst:Below w1.heap.size w1 v1:=ext_trans (Below.drew (Below.refl _ _)) hb;clear hb;have HBn:=hidIt (ext_trans HBc.out hst);clear HBc;have HBc:=HBn;clear HBn;obtain ⟨⟨c3,e0⟩,d0⟩:=HP2.out v1 HBc.out;have sz1:=hst.size;clear hst;try dsimp only
    refine hK.out _ _ ?_ (fun hHeld=>?_)
    ·(try simp only [World.cell?_drew]);exact HP2.out v1 HBc.out
    clear hK K
    try simp only [Act.put,sA1,sA2,sA3,sA4,sA5,sA6]
    refine tkH (v:=?_) 11 rfl ?_ ?_;rotate_left 1
    ·intro wq hSw;(try dsimp only at hSw);go_simp;try (with_reducible rfl)
    try simp only [Act.put,sA1,sA2,sA3,sA4,sA5,sA6]
    refine tkH (v:=?_) 12 rfl ?_ ?_;rotate_left 1
    ·intro wq hSw;(try dsimp only at hSw);go_simp;try (with_reducible rfl)
    try simp only [Act.put,sA1,sA2,sA3,sA4,sA5,sA6]
    refine tkH (v:=?_) 13 rfl ?_ ?_;rotate_left 1
    ·intro wq hSw;(try dsimp only at hSw);go_simp;try (with_reducible rfl)
    try simp only [Act.put,sA1,sA2,sA3,sA4,sA5,sA6]
    refine wpAnyH_ready (rs:=[14]) (by kernel_rfl) (by simp) ?_
    refine AllReadyH.cons (o:=_) rfl (fun K hK=>?_) AllReadyH.nil
    go_simp
    generalize hwN:World.alloc _ _=v2;have hst:Below v1.heap.size v1 v2:=(by rw [← hwN];exact ext_alloc (Below.refl _ _) _);clear c3 e0 d0;have HUn:Hid (ok=true→Pc enc L v2 z (gq ++ gx)∧ctn enc z.pl (gq ++ gx)=ctn enc xq.pl gq ++ ctn enc x.pl gx):=(fun h=>⟨(HU.out h).1.ext hst,(HU.out h).2⟩);clear HU;have HU:=HUn;clear HUn;have HBn:=hidIt (ext_trans HBc.out hst);clear HBc;have HBc:=HBn;clear HBn;have H5:Hid (BlkI v2 v1.heap.size It.zero):=(by unfold Hid;rw [← hwN];exact heap_alloc_new _ _);obtain ⟨z5,_,zf5⟩:=H5.out.cells;have zl5:=H5.out.lt;have lb5:w1.heap.size≤v1.heap.size:=(by omega);have sz2:=H5.out.lt;obtain ⟨⟨c3,e0⟩,d0⟩:=HP2.out v2 HBc.out;clear hwN hst
    refine hK.out _ _ ?_ (fun hHeld=>?_)
    ·(try simp only [World.cell?_drew]);exact HP2.out v2 HBc.out
    clear hK K
    try simp only [Act.put,sA1,sA2,sA3,sA4,sA5,sA6]
    refine wpAnyH_ready (rs:=[15]) (by kernel_rfl) (by simp) ?_
    refine AllReadyH.cons (o:=_) rfl (fun K hK=>?_) AllReadyH.nil
    go_simp
    generalize hwN:World.setCell _ _ _=v3;have q0:=H5.out;have q2:v2.grownBy v3 (some v1.heap.size):=(by rw [← hwN];exact (H5.out.put z).2);have q1:BlkI v3 v1.heap.size z:=(by rw [← hwN];exact (H5.out.put z).1);clear z5 zf5 zl5 c3 e0 d0;have HBn:=hidIt (below_put HBc.out HBc.out.size q2 (by omega));clear HBc;have HBc:=HBn;clear HBn;clear H5;have H5:=hidIt q1;have HUn:Hid (ok=true→Pc enc L v3 z (gq ++ gx)∧ctn enc z.pl (gq ++ gx)=ctn enc xq.pl gq ++ ctn enc x.pl gx):=(fun h=>⟨(HU.out h).1.same (u8_put q2 q0),(HU.out h).2⟩);clear HU;have HU:=HUn;clear HUn;obtain ⟨⟨c3,e0⟩,d0⟩:=HP2.out v3 HBc.out;clear hwN q0 q1 q2
    refine hK.out _ _ ?_ (fun hHeld=>?_)
    ·(try simp only [World.cell?_drew]);exact HP2.out v3 HBc.out
    clear hK K
    try simp only [Act.put,sA1,sA2,sA3,sA4,sA5,sA6]
    refine wpAnyH_ready (rs:=[16]) (by kernel_rfl) (by simp) ?_
    refine AllReadyH.cons (o:=_) rfl (fun K hK=>?_) AllReadyH.nil
    go_simp
    refine hK.out _ _ ?_ (fun hHeld=>?_)
    ·(try simp only [World.cell?_drew]);exact HP2.out v3 HBc.out
    clear hK K
    try simp only [Act.put,sA1,sA2,sA3,sA4,sA5,sA6]
    refine wpAnyH_done (by kernel_rfl) ?_ _
    go_wp2_with fail
    go_meet
    case rel=>exact ⟨v1.heap.size,z,ok,rfl,rfl,HU,H5.out,by omega,HBc.out⟩
   ·skip
    go_simp
    generalize hwN:World.alloc _ _=v1;have hst:Below w1.heap.size w1 v1:=(by rw [← hwN];exact ext_alloc (Below.refl _ _) _);clear c3 e0 d0;have HBn:=hidIt (ext_trans HBc.out hst);clear HBc;have HBc:=HBn;clear HBn;have H5:Hid (BlkI v1 w1.heap.size It.zero):=(by unfold Hid;rw [← hwN];exact heap_alloc_new _ _);obtain ⟨z5,_,zf5⟩:=H5.out.cells;have zl5:=H5.out.lt;have lb5:w1.heap.size≤w1.heap.size:=(by exact Nat.le_refl _);have sz1:=H5.out.lt;obtain ⟨⟨c3,e0⟩,d0⟩:=HP2.out v1 HBc.out;clear hwN hst
    refine hK.out _ _ ?_ (fun hHeld=>?_)
    ·(try simp only [World.cell?_drew]);exact HP2.out v1 HBc.out
    clear hK K
    try simp only [Act.put,sA1,sA2,sA3,sA4,sA5,sA6]
    refine wpAnyH_ready (rs:=[10]) (by kernel_rfl) (by simp) ?_
    refine AllReadyH.cons (o:=_) rfl (fun K hK=>?_) AllReadyH.nil
    go_simp
    refine (UN.out _ HBc.out.drew).mono ?_;(try clear z5 zf5 zl5);clear c3 e0 d0;rintro e v2 ⟨z,ok,rfl,HU,hb⟩;have hst:Below v1.heap.size v1 v2:=ext_trans (Below.drew (Below.refl _ _)) hb;clear hb;have HBn:=hidIt (ext_trans HBc.out hst);clear HBc;have HBc:=HBn;clear HBn;have Hn:=hidIt (H5.out.ext hst);clear H5;have H5:=Hn;clear Hn;obtain ⟨z5,_,zf5⟩:=H5.out.cells;have zl5:=H5.out.lt;obtain ⟨⟨c3,e0⟩,d0⟩:=HP2.out v2 HBc.out;have sz2:=hst.size;clear hst;try dsimp only
    refine hK.out _ _ ?_ (fun hHeld=>?_)
    ·(try simp only [World.cell?_drew]);exact HP2.out v2 HBc.out
    clear hK K
    try simp only [Act.put,sA1,sA2,sA3,sA4,sA5,sA6]
    refine tkH (v:=?_) 11 rfl ?_ ?_;rotate_left 1
    ·intro wq hSw;(try dsimp only at hSw);go_simp;try (with_reducible rfl)
    try simp only [Act.put,sA1,sA2,sA3,sA4,sA5,sA6]
    refine tkH (v:=?_) 12 rfl ?_ ?_;rotate_left 1
    ·intro wq hSw;(try dsimp only at hSw);go_simp;try (with_reducible rfl)
    try simp only [Act.put,sA1,sA2,sA3,sA4,sA5,sA6]
    refine tkH (v:=?_) 13 rfl ?_ ?_;rotate_left 1
    ·intro wq hSw;(try dsimp only at hSw);go_simp;try (with_reducible rfl)
    try simp only [Act.put,sA1,sA2,sA3,sA4,sA5,sA6]
    refine wpAnyH_ready (rs:=[15]) (by kernel_rfl) (by simp) ?_
    refine AllReadyH.cons (o:=_) rfl (fun K hK=>?_) AllReadyH.nil
    go_simp
    generalize hwN:World.setCell _ _ _=v3;have q0:=H5.out;have q2:v2.grownBy v3 (some w1.heap.size):=(by rw [← hwN];exact (H5.out.put z).2);have q1:BlkI v3 w1.heap.size z:=(by rw [← hwN];exact (H5.out.put z).1);clear z5 zf5 zl5 c3 e0 d0;have HBn:=hidIt (below_put HBc.out HBc.out.size q2 (by omega));clear HBc;have HBc:=HBn;clear HBn;clear H5;have H5:=hidIt q1;have HUn:Hid (ok=true→Pc enc L v3 z (gq ++ gx)∧ctn enc z.pl (gq ++ gx)=ctn enc xq.pl gq ++ ctn enc x.pl gx):=(fun h=>⟨(HU.out h).1.same (u8_put q2 q0),(HU.out h).2⟩);clear HU;have HU:=HUn;clear HUn;obtain ⟨⟨c3,e0⟩,d0⟩:=HP2.out v3 HBc.out;clear hwN q0 q1 q2
    refine hK.out _ _ ?_ (fun hHeld=>?_)
    ·(try simp only [World.cell?_drew]);exact HP2.out v3 HBc.out
    clear hK K
    try simp only [Act.put,sA1,sA2,sA3,sA4,sA5,sA6]
    refine wpAnyH_ready (rs:=[16]) (by kernel_rfl) (by simp) ?_
    refine AllReadyH.cons (o:=_) rfl (fun K hK=>?_) AllReadyH.nil
    go_simp
    refine hK.out _ _ ?_ (fun hHeld=>?_)
    ·(try simp only [World.cell?_drew]);exact HP2.out v3 HBc.out
    clear hK K
    try simp only [Act.put,sA1,sA2,sA3,sA4,sA5,sA6]
    refine wpAnyH_done (by kernel_rfl) ?_ _
    go_wp2_with fail
    go_meet
    case rel=>exact ⟨w1.heap.size,z,ok,rfl,rfl,HU,H5.out,by omega,HBc.out⟩
  obtain ⟨b5,z,ok,rfl,rfl,HU,h5,l5,hbw⟩:=hcut
  generalize hwc:wc=w2 at *
  clear hwc c3 e0 d0 UN
  cases ok
  case false =>
   obtain ⟨d0,⟨c3,cf⟩,cl⟩:=HP.out w2 hbw
   have HBW:=hidIt hbw
   clear LAST h5 hbw HU
   go_upto_region 6 with fail
   refine wp_region_held_drew (S:=fun w''=>(w''.cell? ⟨w.heap.size,0,none⟩=some (.slice x.p x.n x.c)∧w''.cell? ⟨w.heap.size,1,none⟩=some (.int .i64 x.pl)∧w''.cell? ⟨w.heap.size,2,none⟩=some (.int .i64 x.sp.a)∧w''.cell? ⟨w.heap.size,3,none⟩=some (.int .i64 x.sp.s)∧w''.cell? ⟨w.heap.size,4,none⟩=some (.int .i64 x.sp.b)∧w''.cell? ⟨w.heap.size,5,none⟩=some (.bool x.sp.lf)∧w''.cell? ⟨w.heap.size,6,none⟩=some (.bool x.sp.cr))) (by kernel_rfl) (d0) (fun hHeld=>?_)
   refine tkH (v:=?_) 0 rfl ?_ ?_;rotate_left 1
   ·intro wq hSw;(try dsimp only at hSw);go_simp;try (with_reducible rfl)
   try simp only [Act.put,sA1,sA3,sA4,sA5,sA6]
   refine tkH (v:=?_) 1 rfl ?_ ?_;rotate_left 1
   ·intro wq hSw;(try dsimp only at hSw);go_simp;try (with_reducible rfl)
   try simp only [Act.put,sA1,sA2,sA3,sA4,sA5,sA6]
   refine tkH (v:=?_) 2 rfl ?_ ?_;rotate_left 1
   ·intro wq hSw;(try dsimp only at hSw);go_simp;try (with_reducible rfl)
   try simp only [Act.put,sA1,sA2,sA3,sA4,sA5,sA6]
   refine tkH (v:=?_) 3 rfl ?_ ?_;rotate_left 1
   ·intro wq hSw;(try dsimp only at hSw);go_simp;try (with_reducible rfl)
   try simp only [Act.put,sA1,sA2,sA3,sA4,sA5,sA6]
   refine tkH (v:=?_) 5 rfl ?_ ?_;rotate_left 1
   ·intro wq hSw;(try dsimp only at hSw);go_simp;try (with_reducible rfl)
   try simp only [Act.put,sA1,sA2,sA3,sA4,sA5,sA6]
   refine wpAnyH_ready (rs:=[4,6]) (by kernel_rfl) (by simp) ?_
   refine (AllReadyH.cons (o:=_) rfl (fun K hK=>?_) (AllReadyH.cons (o:=_) rfl (fun K hK=>?_) AllReadyH.nil))
   ·skip
    go_simp
    refine hK.out _ _ ?_ (fun hHeld=>?_)
    ·(try simp only [World.cell?_drew]);exact d0
    clear hK K
    try simp only [Act.put,sA1,sA2,sA3,sA4,sA5,sA6]
    refine wpAnyH_ready (rs:=[6]) (by kernel_rfl) (by simp) ?_
    refine AllReadyH.cons (o:=_) rfl (fun K hK=>?_) AllReadyH.nil
    go_simp
    generalize hwN:World.alloc _ _=v1;have NEW:Hid (∀ j u,(pcs x)[j]?=some u→v1.drew.cell? ((⟨w2.heap.size,0,none⟩:Addr).add j)=some u):=(fun j u hj=>by rw [World.cell?_drew,← hwN];exact cell7_new w2 122 x j u hj);have HB2:Hid (Below w1.heap.size w1 v1):=(by unfold Hid;rw [← hwN];exact ext_alloc HBW.out _);clear hwN d0 c3 cf cl;obtain ⟨d0,⟨c3,cf⟩,cl⟩:=HP.out v1 HB2.out
    refine hK.out _ _ ?_ (fun hHeld=>?_)
    ·(try simp only [World.cell?_drew]);exact d0
    clear hK K
    try simp only [Act.put,sA1,sA2,sA3,sA4,sA5,sA6]
    refine wpAnyH_ready (rs:=[7]) (by kernel_rfl) (by simp) ?_
    refine AllReadyH.cons (o:=_) rfl (fun K hK=>?_) AllReadyH.nil
    rw [if_pos (by rfl)]
    refine wp_append_pieceB _ _ 147 (by rfl) 0 122 Tryz.info_piece Tryz.underlying147 (.slice (some ⟨k,0,none⟩) (n0 + 1) cap) (xsOf (ms0 ++ [(xq,gq)])) (by rfl) (HOWN.out _ HB2.out.drew) x w2.heap.size (by rfl) NEW.out HML.out (Nat.zero_le _) ?_;intro v' w9 hown' hg' hk';obtain ⟨n',ao',cap',hv'⟩:∃ n' ao' cap',v'=.slice ao' n' cap':=(let ⟨a,b,c⟩:=hown'.form1;⟨_,a,b,c⟩);subst hv';have AD:=hidIt (PUSH.out _ _ _ (.tuple #[]) HB2.out.drew hown' hg' hk');have gl:g < w9.heap.size:=Nat.lt_of_lt_of_le cl hg'.size;have gb:=hg'.block g cl (fun e=>(HW0.out.ext (ext_trans HB1.out HB2.out)).ng e.symm);have d9:(w9.cell? ⟨w.heap.size,0,none⟩=some (.slice x.p x.n x.c)∧w9.cell? ⟨w.heap.size,1,none⟩=some (.int .i64 x.pl)∧w9.cell? ⟨w.heap.size,2,none⟩=some (.int .i64 x.sp.a)∧w9.cell? ⟨w.heap.size,3,none⟩=some (.int .i64 x.sp.s)∧w9.cell? ⟨w.heap.size,4,none⟩=some (.int .i64 x.sp.b)∧w9.cell? ⟨w.heap.size,5,none⟩=some (.bool x.sp.lf)∧w9.cell? ⟨w.heap.size,6,none⟩=some (.bool x.sp.cr)):=((HKX.out.ext HB2.out).same9 (hg'.block w.heap.size (HKX.out.ext HB2.out).lt (fun e=>NOX.out e.symm))).cells.1;have c9:w9.cell? ⟨g,3,none⟩=some (.slice (some ⟨k,0,none⟩) (n0 + 1) cap):=(cell_same gb _).trans c3;have f9:∀ i,w9.frozen? ⟨g,i,none⟩=false:=(fun i=>(froz_same gb _).trans (cf i));clear d0 c3 cf cl;change K (Act.put _ (some 44) _) w9
    refine hK.out _ _ ?_ (fun hHeld=>?_)
    ·exact d9
    clear hK K
    try simp only [Act.put,sA4,sA5,sA6]
    refine tkH (v:=?_) 8 rfl ?_ ?_;rotate_left 1
    ·intro wq hSw;(try dsimp only at hSw);go_simp;try (with_reducible rfl)
    try simp only [Act.put,sA1,sA2,sA3,sA4,sA5,sA6]
    refine tkH (v:=?_) 9 rfl ?_ ?_;rotate_left 1
    ·intro wq hSw;(try dsimp only at hSw);go_simp;try (with_reducible rfl)
    try simp only [Act.put,sA1,sA2,sA3,sA4,sA5,sA6]
    refine wpAnyH_ready (rs:=[10]) (by kernel_rfl) (by simp) ?_
    refine AllReadyH.cons (o:=_) rfl (fun K hK=>?_) AllReadyH.nil
    go_simp
    generalize hwN:World.setCell _ _ _=w10;rw [hwN] at AD;have d10:(w10.cell? ⟨w.heap.size,0,none⟩=some (.slice x.p x.n x.c)∧w10.cell? ⟨w.heap.size,1,none⟩=some (.int .i64 x.pl)∧w10.cell? ⟨w.heap.size,2,none⟩=some (.int .i64 x.sp.a)∧w10.cell? ⟨w.heap.size,3,none⟩=some (.int .i64 x.sp.s)∧w10.cell? ⟨w.heap.size,4,none⟩=some (.int .i64 x.sp.b)∧w10.cell? ⟨w.heap.size,5,none⟩=some (.bool x.sp.lf)∧w10.cell? ⟨w.heap.size,6,none⟩=some (.bool x.sp.cr)):=(by rw [← hwN];simp only [cell_set_other hng'];exact d9);clear hwN
    refine hK.out _ _ ?_ (fun hHeld=>?_)
    ·(try simp only [World.cell?_drew]);exact d10
    clear hK K
    try simp only [Act.put,sA1,sA2,sA3,sA4,sA5,sA6]
    refine wpAnyH_done (by kernel_rfl) ?_ _
    go_wp2_with fail
    exact bodyPost_ret (v:=.tuple #[]) (by simp [results,Tryz.results94,go_sem]) rfl AD.out
   ·skip
    go_simp
    generalize hwN:World.alloc _ _=v1;have NEW:Hid (∀ j u,(pcs x)[j]?=some u→v1.drew.cell? ((⟨w2.heap.size,0,none⟩:Addr).add j)=some u):=(fun j u hj=>by rw [World.cell?_drew,← hwN];exact cell7_new w2 122 x j u hj);have HB2:Hid (Below w1.heap.size w1 v1):=(by unfold Hid;rw [← hwN];exact ext_alloc HBW.out _);clear hwN d0 c3 cf cl;obtain ⟨d0,⟨c3,cf⟩,cl⟩:=HP.out v1 HB2.out
    refine hK.out _ _ ?_ (fun hHeld=>?_)
    ·(try simp only [World.cell?_drew]);exact d0
    clear hK K
    try simp only [Act.put,sA1,sA2,sA3,sA4,sA5,sA6]
    refine wpAnyH_ready (rs:=[4]) (by kernel_rfl) (by simp) ?_
    refine AllReadyH.cons (o:=_) rfl (fun K hK=>?_) AllReadyH.nil
    go_simp
    refine hK.out _ _ ?_ (fun hHeld=>?_)
    ·(try simp only [World.cell?_drew]);exact d0
    clear hK K
    try simp only [Act.put,sA1,sA2,sA3,sA4,sA5,sA6]
    refine wpAnyH_ready (rs:=[7]) (by kernel_rfl) (by simp) ?_
    refine AllReadyH.cons (o:=_) rfl (fun K hK=>?_) AllReadyH.nil
    rw [if_pos (by rfl)]
    refine wp_append_pieceB _ _ 147 (by rfl) 0 122 Tryz.info_piece Tryz.underlying147 (.slice (some ⟨k,0,none⟩) (n0 + 1) cap) (xsOf (ms0 ++ [(xq,gq)])) (by rfl) (HOWN.out _ HB2.out.drew) x w2.heap.size (by rfl) NEW.out HML.out (Nat.zero_le _) ?_;intro v' w9 hown' hg' hk';obtain ⟨n',ao',cap',hv'⟩:∃ n' ao' cap',v'=.slice ao' n' cap':=(let ⟨a,b,c⟩:=hown'.form1;⟨_,a,b,c⟩);subst hv';have AD:=hidIt (PUSH.out _ _ _ (.tuple #[]) HB2.out.drew hown' hg' hk');have gl:g < w9.heap.size:=Nat.lt_of_lt_of_le cl hg'.size;have gb:=hg'.block g cl (fun e=>(HW0.out.ext (ext_trans HB1.out HB2.out)).ng e.symm);have d9:(w9.cell? ⟨w.heap.size,0,none⟩=some (.slice x.p x.n x.c)∧w9.cell? ⟨w.heap.size,1,none⟩=some (.int .i64 x.pl)∧w9.cell? ⟨w.heap.size,2,none⟩=some (.int .i64 x.sp.a)∧w9.cell? ⟨w.heap.size,3,none⟩=some (.int .i64 x.sp.s)∧w9.cell? ⟨w.heap.size,4,none⟩=some (.int .i64 x.sp.b)∧w9.cell? ⟨w.heap.size,5,none⟩=some (.bool x.sp.lf)∧w9.cell? ⟨w.heap.size,6,none⟩=some (.bool x.sp.cr)):=((HKX.out.ext HB2.out).same9 (hg'.block w.heap.size (HKX.out.ext HB2.out).lt (fun e=>NOX.out e.symm))).cells.1;have c9:w9.cell? ⟨g,3,none⟩=some (.slice (some ⟨k,0,none⟩) (n0 + 1) cap):=(cell_same gb _).trans c3;have f9:∀ i,w9.frozen? ⟨g,i,none⟩=false:=(fun i=>(froz_same gb _).trans (cf i));clear d0 c3 cf cl;change K (Act.put _ (some 44) _) w9
    refine hK.out _ _ ?_ (fun hHeld=>?_)
    ·exact d9
    clear hK K
    try simp only [Act.put,sA4,sA5,sA6]
    refine tkH (v:=?_) 8 rfl ?_ ?_;rotate_left 1
    ·intro wq hSw;(try dsimp only at hSw);go_simp;try (with_reducible rfl)
    try simp only [Act.put,sA1,sA2,sA3,sA4,sA5,sA6]
    refine tkH (v:=?_) 9 rfl ?_ ?_;rotate_left 1
    ·intro wq hSw;(try dsimp only at hSw);go_simp;try (with_reducible rfl)
    try simp only [Act.put,sA1,sA2,sA3,sA4,sA5,sA6]
    refine wpAnyH_ready (rs:=[10]) (by kernel_rfl) (by simp) ?_
    refine AllReadyH.cons (o:=_) rfl (fun K hK=>?_) AllReadyH.nil
    go_simp
    generalize hwN:World.setCell _ _ _=w10;rw [hwN] at AD;have d10:(w10.cell? ⟨w.heap.size,0,none⟩=some (.slice x.p x.n x.c)∧w10.cell? ⟨w.heap.size,1,none⟩=some (.int .i64 x.pl)∧w10.cell? ⟨w.heap.size,2,none⟩=some (.int .i64 x.sp.a)∧w10.cell? ⟨w.heap.size,3,none⟩=some (.int .i64 x.sp.s)∧w10.cell? ⟨w.heap.size,4,none⟩=some (.int .i64 x.sp.b)∧w10.cell? ⟨w.heap.size,5,none⟩=some (.bool x.sp.lf)∧w10.cell? ⟨w.heap.size,6,none⟩=some (.bool x.sp.cr)):=(by rw [← hwN];simp only [cell_set_other hng'];exact d9);clear hwN
    refine hK.out _ _ ?_ (fun hHeld=>?_)
    ·(try simp only [World.cell?_drew]);exact d10
    clear hK K
    try simp only [Act.put,sA1,sA2,sA3,sA4,sA5,sA6]
    refine wpAnyH_done (by kernel_rfl) ?_ _
    go_wp2_with fail
    exact bodyPost_ret (v:=.tuple #[]) (by simp [results,Tryz.results94,go_sem]) rfl AD.out
  case true =>
   obtain ⟨⟨c3,e0⟩,_⟩:=HP2.out w2 hbw
   obtain ⟨z5,_,_⟩:=h5.cells
   have hbk5:¬ b5=k:=by omega
   have hfk:∀ i,w2.frozen? ⟨k,i,none⟩=false:=by
    obtain ⟨cs,hcs,_⟩:=HROW.out.ext hbw
    intro i
    simp [World.frozen?,hcs]
   have hkl:k < w2.heap.size:=Nat.lt_of_lt_of_le hk1 hbw.size
   have LA:=hidIt (LAST.out w2 z hbw (HU.out (by first | rfl | trivial)).1 (HU.out (by first | rfl | trivial)).2)
   clear LAST HU h5
   go_upto_region 5 with fail
   refine wp_region_held_drew (S:=fun w''=>w''.cell? ⟨g,3,none⟩=some (.slice (some ⟨k,0,none⟩) (n0 + 1) cap)∧(w''.cell? ⟨b5,0,none⟩=some (.slice z.p z.n z.c)∧w''.cell? ⟨b5,1,none⟩=some (.int .i64 z.pl)∧w''.cell? ⟨b5,2,none⟩=some (.int .i64 z.sp.a)∧w''.cell? ⟨b5,3,none⟩=some (.int .i64 z.sp.s)∧w''.cell? ⟨b5,4,none⟩=some (.int .i64 z.sp.b)∧w''.cell? ⟨b5,5,none⟩=some (.bool z.sp.lf)∧w''.cell? ⟨b5,6,none⟩=some (.bool z.sp.cr))) (by kernel_rfl) (⟨c3,z5⟩) (fun hHeld=>?_)
   refine tkH (v:=?_) 0 rfl ?_ ?_;rotate_left 1
   ·intro wq hSw;(try dsimp only at hSw);go_simp;try (with_reducible rfl)
   try simp only [Act.put,sA1,sA3,sA4,sA5,sA6]
   refine tkH (v:=?_) 1 rfl ?_ ?_;rotate_left 1
   ·intro wq hSw;(try dsimp only at hSw);go_simp;try (with_reducible rfl)
   try simp only [Act.put,sA1,sA2,sA3,sA4,sA5,sA6]
   refine tkH (v:=?_) 2 rfl ?_ ?_;rotate_left 1
   ·intro wq hSw;(try dsimp only at hSw);go_simp;try (with_reducible rfl)
   try simp only [Act.put,sA1,sA2,sA3,sA4,sA5,sA6]
   refine tkH (v:=?_) 3 rfl ?_ ?_;rotate_left 1
   ·intro wq hSw;(try dsimp only at hSw);go_simp;try (with_reducible rfl)
   try simp only [Act.put,sA1,sA2,sA3,sA4,sA5,sA6]
   refine tkH (v:=?_) 4 rfl ?_ ?_;rotate_left 1
   ·intro wq hSw;(try dsimp only at hSw);go_simp;try (with_reducible rfl)
   try simp only [Act.put,sA1,sA2,sA3,sA4,sA5,sA6]
   refine tkH (v:=?_) 5 rfl ?_ ?_;rotate_left 1
   ·intro wq hSw;(try dsimp only at hSw);go_simp;try (with_reducible rfl)
   try simp only [Act.put,sA1,sA2,sA3,sA4,sA5,sA6]
   refine tkH (v:=?_) 6 rfl ?_ ?_;rotate_left 1
   ·intro wq hSw;(try dsimp only at hSw);go_simp;try (with_reducible rfl)
   try simp only [Act.put,sA1,sA2,sA3,sA4,sA5,sA6]
   refine wpAnyH_ready (rs:=[7]) (by kernel_rfl) (by simp) ?_
   refine AllReadyH.cons (o:=_) rfl (fun K hK=>?_) AllReadyH.nil
   go_simp
   refine hK.out _ _ ?_ (fun hHeld=>?_)
   ·(try simp only [World.cell?_drew]);exact ⟨c3,z5⟩
   clear hK K
   try simp only [Act.put,sA1,sA2,sA3,sA4,sA5,sA6]
   refine wpAnyH_ready (rs:=[8]) (by kernel_rfl) (by simp) ?_
   refine AllReadyH.cons (o:=_) rfl (fun K hK=>?_) AllReadyH.nil
   go_simp
   generalize hwN:World.setCell _ _ _=w3;rw [hwN] at LA;have s3:w3.cell? ⟨g,3,none⟩=some (.slice (some ⟨k,0,none⟩) (n0 + 1) cap)∧(w3.cell? ⟨b5,0,none⟩=some (.slice z.p z.n z.c)∧w3.cell? ⟨b5,1,none⟩=some (.int .i64 z.pl)∧w3.cell? ⟨b5,2,none⟩=some (.int .i64 z.sp.a)∧w3.cell? ⟨b5,3,none⟩=some (.int .i64 z.sp.s)∧w3.cell? ⟨b5,4,none⟩=some (.int .i64 z.sp.b)∧w3.cell? ⟨b5,5,none⟩=some (.bool z.sp.lf)∧w3.cell? ⟨b5,6,none⟩=some (.bool z.sp.cr)):=(by rw [← hwN];simp only [cell_set_other hgk,cell_set_other hbk5];exact ⟨c3,z5⟩);clear hwN
   refine hK.out _ _ ?_ (fun hHeld=>?_)
   ·(try simp only [World.cell?_drew]);exact s3
   clear hK K
   try simp only [Act.put,sA1,sA2,sA3,sA4,sA5,sA6]
   refine wpAnyH_done (by kernel_rfl) ?_ _
   go_wp2_with fail
   exact bodyPost_ret (v:=.tuple #[]) (by simp [results,Tryz.results94,go_sem]) rfl (AdR.drew LA.out)
end Go.Proofs.YtjjfakokakamaaaGreat.P

namespace Go.Proofs.YtjjfakokakamaaaGreat.P
open Go.RowKit
theorem field_sum (p:Option Addr) (n c:Nat) (l a s b:Int) (f r:Bool) (w:World):(Instr.field 122 (.agg #[.slice p n c,.int .i64 l,.int .i64 a,.int .i64 s,.int .i64 b,.bool f,.bool r]) 2).run Tryz.prog w=.ok (.agg #[.int .i64 a,.int .i64 s,.int .i64 b,.bool f,.bool r]) w:=by kernel_rfl
theorem field_atoms (a s b:Int) (f r:Bool) (w:World):(Instr.field 119 (.agg #[.int .i64 a,.int .i64 s,.int .i64 b,.bool f,.bool r]) 0).run Tryz.prog w=.ok (.int .i64 a) w:=by kernel_rfl
def Nwr (vm vm':Value) (w:World):Prop:=vm'.ownBlock=vm.ownBlock∨∃ k,vm'.ownBlock=some k∧w.heap.size≤k
theorem Nwr.ow {vm vm':Value} {w:World} {g bo:Nat} (h:Nwr vm vm' w):∀ i,i < w.heap.size→ow g bo vm' i→ow g bo vm i:=by
 rintro i hi (e | e | e)
 ·exact .inl e
 ·exact .inr (.inl e)
 ·rcases h with h | ⟨k,h1,h2⟩
  ·exact .inr (.inr (h ▸ e))
  ·rw [h1] at e;cases e;omega
theorem Nwr.trans {vm vm' vm'':Value} {w w':World} (h:Nwr vm vm' w) (k:Nwr vm' vm'' w') (hw:w.heap.size≤w'.heap.size):Nwr vm vm'' w:=by
 rcases k with k | ⟨i,k1,k2⟩
 ·rcases h with h | ⟨j,h1,h2⟩
  ·exact .inl (k.trans h)
  ·exact .inr ⟨j,k.trans h1,h2⟩
 ·exact .inr ⟨i,k1,Nat.le_trans hw k2⟩
theorem sh_ne {enc:Int} {os:List PG} {j:Nat} (h0:0 < j) (h:j≤(sh enc os).length):∃ x gx os2,os=(x,gx) :: os2:=by
 cases os with
 | nil=>simp [sh] at h;omega
 | cons q os=>exact ⟨q.1,q.2,os,rfl⟩
theorem fst_app {enc:Int} {a b:List PG}:asOf a ++ asOf b=(sh enc a ++ sh enc b).map Prod.fst:=by rw [List.map_append,sh_fst,sh_fst]
theorem kp_bound {enc:Int} {y x:It} {gy gx:List Int} {os3 os2 ms1:List PG} (hs:ctn enc y.pl gy ++ sh enc os3=sh enc ((x,gx) :: os2)) (ht:ln enc (asOf ms1) + (ln enc gx + ln enc (asOf os2))≤1073741824):ln enc (asOf ms1) + ln enc gy≤1073741824:=by
 have e:=congrArg (fun l=>ln enc (l.map Prod.fst)) hs
 simp only [List.map_append,ctn_fst,sh_fst] at e
 rw [ln_app,show asOf ((x,gx) :: os2)=gx ++ asOf os2 by simp [asOf],ln_app] at e
 omega
theorem kp_box {enc:Int} {L:List Int} {g bo:Nat} {w1 w3:World} {lv vo vm:Value} {os ms:List PG} {y:It} (h:Wr enc L g bo w1 lv vo vm os ms) (hk:Kps (ow g bo vm) (w1.alloc (.cells #[.slice y.p y.n y.c,.int .i64 y.pl,.int .i64 y.sp.a,.int .i64 y.sp.s,.int .i64 y.sp.b,.bool y.sp.lf,.bool y.sp.cr] 122)) w3):w3.cell? ⟨w1.heap.size,2,none⟩=some (.int .i64 y.sp.a):=by
 have e:=hk.same w1.heap.size (by rw [alloc_size];omega) (fun e=>by have:=h.own_lt e;omega)
 have k:BlkI (w1.alloc (.cells #[.slice y.p y.n y.c,.int .i64 y.pl,.int .i64 y.sp.a,.int .i64 y.sp.s,.int .i64 y.sp.b,.bool y.sp.lf,.bool y.sp.cr] 122)) w1.heap.size y:=heap_alloc_new _ _
 exact (k.same9 e).cells.1.2.2.1
def KpR (enc:Int) (L:List Int) (g bo:Nat) (w:World) (lv vm:Value) (A B:List (Int × Int)) (e:Ending) (w':World):Prop :=
 ∃ v vo' vm' os' ms',e=.returned v∧Wr enc L g bo w' lv vo' vm' os' ms'∧sh enc ms'=A∧sh enc os'=B∧Kps (ow g bo vm) w w'∧Nwr vm vm' w
set_option maxRecDepth 100000 in
set_option maxHeartbeats 4000000 in
theorem drop_any (enc:Int) (he:Cx.En enc) (L:List Int) (hL:Byt L) (hLl:L.length≤1073741824) (g bo n:Nat) (lv vo vm:Value) (os ms:List PG) (w:World) (hW:Wr enc L g bo w lv vo vm os ms) (hl:ln enc (asOf os)≤1073741824) (hn:n≤(sh enc os).length) :
  Calls Tryz.prog 92 #[.pointer (some ⟨g,0,none⟩),.int .i64 n] w fun e w'=>KpR enc L g bo w lv vm (sh enc ms) ((sh enc os).drop n) e w':=by
 have hlen:(sh enc os).length≤1073741824:=by rw [sh_len];have:=ln_ge enc (asOf os);omega
 have HW:=hidIt hW
 have HEN:=hidIt he
 have HLB:=hidIt hL
 clear hW he hL
 go_enter Tryz.func92,Tryz.ntmps92
 go_wp2_with fail
 go_loopg [1] n (fun gk p wr=>p=.int .i64 (gk:Nat)∧gk≤n∧Hid (∃ vo1 os1,Wr enc L g bo wr lv vo1 vm os1 ms∧sh enc os1=(sh enc os).drop (n - gk)∧Kps (ow g bo vm) w wr))
 case atStart=>exact ⟨rfl,Nat.le_refl _,vo,os,HW.out,by rw [Nat.sub_self,List.drop_zero],Kps.refl _ _⟩
 case round =>
  obtain ⟨rfl,hgn,HI⟩:=hrel
  obtain ⟨vo1,os1,HW1,hsh,HK1⟩:=HI.out
  by_cases h0:0 < gk
  ·have h0':(0:Int) < (gk:Int):=by omega
   have hle:gk≤(sh enc os1).length:=by rw [hsh,List.length_drop];omega
   obtain ⟨x,gx,os2,rfl⟩:=sh_ne h0 hle
   have hbd:ln enc gx≤1073741824:=by
    have e1:=sh_fst enc ((x,gx) :: os2)
    rw [hsh,List.map_drop,sh_fst] at e1
    have e2:=ln_app enc ((asOf os).take (n - gk)) ((asOf os).drop (n - gk))
    rw [List.take_append_drop,e1,show asOf ((x,gx) :: os2)=gx ++ asOf os2 by simp [asOf],ln_app] at e2
    omega
   have NX:=hidIt (next_any enc HEN.out L HLB.out hLl g bo gk lv vo1 vm x gx os2 ms wr HW1 h0 hbd)
   have HK:=hidIt HK1
   have HSH:=hidIt hsh
   clear HI HW1 hsh HK1
   have FS:=field_sum
   have FA:=field_atoms
   go_wp2_with (go_at_call 121;refine NX.out.mono ?_;rintro e w1 ⟨y,gy,vo2,os3,rfl,hy,hyn,hW2,hs2,hk2⟩;have HA:=hidIt (show y.sp.a=(gy.length:Nat) by rw [hy.sp,(spn_a enc gy hy.gr.fit).1]);have HP:=hidIt hy.gr.pos;have HF:=hidIt (show Wr enc L g bo w1 lv vo2 vm os3 ms∧ctn enc y.pl gy ++ sh enc os3=sh enc ((x,gx) :: os2)∧Kps (ow g bo vm) wr w1 from ⟨hW2,hs2,hk2⟩);clear hy hW2 hs2 hk2;(try dsimp only);rw [HA.out])
   have hp:=HP.out
   go_roundg (gk - gy.length)
   case rel =>
    refine ⟨by go_num,by omega,vo2,os3,HF.out.1,?_,HK.out.trans HF.out.2.2 fun _ _ e=>e⟩
    have e3:sh enc os3=(sh enc ((x,gx) :: os2)).drop gy.length:=by rw [← HF.out.2.1,List.drop_left' (ctn_len enc gy y.pl)]
    rw [e3,HSH.out,List.drop_drop]
    congr 1
    omega
   case measure=>omega
  ·have h0':¬ (0:Int) < (gk:Int):=by omega
   obtain rfl:gk=0:=by omega
   clear HI
   have HF:=hidIt (show KpR enc L g bo w lv vm (sh enc ms) ((sh enc os).drop n) (.returned (.tuple #[])) wr from ⟨_,vo1,vm,os1,ms,rfl,HW1,rfl,by rw [hsh,Nat.sub_zero],HK1,.inl rfl⟩)
   clear HW1 hsh HK1
   go_wp2_with fail
   exact bodyPost_ret (v:=.tuple #[]) (by simp [results,Tryz.results92,go_sem]) rfl HF.out
set_option maxRecDepth 100000 in
set_option maxHeartbeats 4000000 in
theorem keep_any (enc:Int) (he:Cx.En enc) (L:List Int) (hL:Byt L) (hLl:L.length≤1073741824) (g bo n:Nat) (lv vo vm:Value) (os ms:List PG) (w:World) (hW:Wr enc L g bo w lv vo vm os ms) (hl:ln enc (asOf ms ++ asOf os)≤1073741824) (hn:n≤(sh enc os).length) :
  Calls Tryz.prog 91 #[.pointer (some ⟨g,0,none⟩),.int .i64 n] w fun e w'=>KpR enc L g bo w lv vm (sh enc ms ++ (sh enc os).take n) ((sh enc os).drop n) e w':=by
 have hlen:(sh enc os).length≤1073741824:=by rw [sh_len];have:=ln_ge enc (asOf ms ++ asOf os);rw [List.length_append] at this;omega
 have HW:=hidIt hW
 have HEN:=hidIt he
 have HLB:=hidIt hL
 clear hW he hL
 go_enter Tryz.func91,Tryz.ntmps91
 go_wp2_with fail
 go_loopg [1] n (fun gk p wr=>p=.int .i64 (gk:Nat)∧gk≤n∧Hid (∃ vo1 vm1 os1 ms1,Wr enc L g bo wr lv vo1 vm1 os1 ms1∧sh enc ms1 ++ sh enc os1=sh enc ms ++ sh enc os∧(sh enc ms1).length + gk=(sh enc ms).length + n∧Kps (ow g bo vm) w wr∧Nwr vm vm1 w))
 case atStart=>exact ⟨rfl,Nat.le_refl _,vo,vm,os,ms,HW.out,rfl,rfl,Kps.refl _ _,.inl rfl⟩
 case round =>
  obtain ⟨rfl,hgn,HI⟩:=hrel
  obtain ⟨vo1,vm1,os1,ms1,HW1,hsh,hsl,HK1,HN1⟩:=HI.out
  have htl:=congrArg List.length hsh
  rw [List.length_append,List.length_append] at htl
  by_cases h0:0 < gk
  ·have h0':(0:Int) < (gk:Int):=by omega
   have hle:gk≤(sh enc os1).length:=by omega
   obtain ⟨x,gx,os2,rfl⟩:=sh_ne h0 hle
   have htot:ln enc (asOf ms1) + (ln enc gx + ln enc (asOf os2))≤1073741824:=by
    rw [fst_app (enc:=enc),← hsh,← fst_app,ln_app,show asOf ((x,gx) :: os2)=gx ++ asOf os2 by simp [asOf],ln_app] at hl
    exact hl
   have NX:=hidIt (next_any enc HEN.out L HLB.out hLl g bo gk lv vo1 vm1 x gx os2 ms1 wr HW1 h0 (by omega))
   have HK:=hidIt (show Kps (ow g bo vm) w wr∧Nwr vm vm1 w from ⟨HK1,HN1⟩)
   have HSH:=hidIt hsh
   clear HI HW1 hsh HK1 HN1 htl
   go_wp2_with (first
    | (go_at_call 121;refine NX.out.mono ?_;rintro e w1 ⟨y,gy,vo2,os3,rfl,hy,hyn,hW2,hs2,hk2⟩;have HA:=hidIt (show y.sp.a=(gy.length:Nat) by rw [hy.sp,(spn_a enc gy hy.gr.fit).1]);have HP:=hidIt hy.gr.pos;have HF:=hidIt (show Wr enc L g bo w1 lv vo2 vm1 os3 ms1∧ctn enc y.pl gy ++ sh enc os3=sh enc ((x,gx) :: os2)∧Kps (ow g bo vm1) wr w1 from ⟨hW2,hs2,hk2⟩);have AD:Hid (∀ w2,Below w1.heap.size w1 w2→Calls Tryz.prog 94 #[.pointer (some ⟨g,0,none⟩),.agg #[.slice y.p y.n y.c,.int .i64 y.pl,.int .i64 y.sp.a,.int .i64 y.sp.s,.int .i64 y.sp.b,.bool y.sp.lf,.bool y.sp.cr]] w2 fun e w'=>AdR enc L g bo w2 lv vo2 vm1 os3 ms1 y gy e w'):=(fun w2 hb=>add_any enc HEN.out L HLB.out hLl g bo lv vo2 vm1 y gy os3 ms1 w2 (hW2.ext hb) (hy.ext hb) (kp_bound hs2 htot));clear hy hW2 hs2 hk2;(try dsimp only))
    | (go_at_call 94;refine (AD.out _ (ext_alloc (Below.refl _ _) _)).mono ?_;rintro e w3 ⟨v,vm2,ms2,rfl,hW3,hs3,hm3,hk3,hn3⟩;have bx:=kp_box HF.out.1 hk3;rw [HA.out] at bx;have HG:=hidIt (show Wr enc L g bo w3 lv vo2 vm2 os3 ms2∧sh enc ms2=sh enc ms1 ++ ctn enc y.pl gy∧Kps (ow g bo vm1) w1 w3∧Nwr vm1 vm2 w1 from ⟨hW3,hs3,(Kps.of_below _ (ext_alloc (Below.refl _ _) _)).trans hk3 (fun _ _ e=>e),hn3.imp id (fun ⟨k,e1,e2⟩=>⟨k,e1,Nat.le_trans (size_alloc_le _ _) e2⟩)⟩);clear hW3 hs3 hm3 hk3 hn3;(try dsimp only)))
   have hp:=HP.out
   go_roundg (gk - gy.length)
   case rel =>
    have e3:=HF.out.2.1
    have e4:=HG.out.2.1
    have e5:=HSH.out
    have l4:=congrArg List.length e4
    rw [List.length_append,ctn_len] at l4
    refine ⟨by go_num,by omega,vo2,vm2,os3,ms2,HG.out.1,?_,by omega,?_,?_⟩
    ·rw [e4,List.append_assoc,e3,e5]
    ·exact (HK.out.1.trans HF.out.2.2 HK.out.2.ow).trans HG.out.2.2.1 HK.out.2.ow
    ·exact HK.out.2.trans HG.out.2.2.2 (Nat.le_trans HK.out.1.size HF.out.2.2.size)
   case measure=>omega
  ·have h0':¬ (0:Int) < (gk:Int):=by omega
   obtain rfl:gk=0:=by omega
   clear HI
   have e1:sh enc ms1=sh enc ms ++ (sh enc os).take n∧sh enc os1=(sh enc os).drop n:=by
    have a1:=congrArg (fun l=>l.take (sh enc ms1).length) hsh
    have a2:=congrArg (fun l=>l.drop (sh enc ms1).length) hsh
    simp only [List.take_left' rfl,List.drop_left' rfl] at a1 a2
    rw [show (sh enc ms1).length=(sh enc ms).length + n by omega] at a1 a2
    rw [List.take_append,List.take_of_length_le (by omega),Nat.add_sub_cancel_left] at a1
    rw [List.drop_append,List.drop_eq_nil_of_le (by omega),Nat.add_sub_cancel_left,List.nil_append] at a2
    exact ⟨a1,a2⟩
   have HF:=hidIt (show KpR enc L g bo w lv vm (sh enc ms ++ (sh enc os).take n) ((sh enc os).drop n) (.returned (.tuple #[])) wr from ⟨_,vo1,vm1,os1,ms1,rfl,HW1,e1.1,e1.2,HK1,HN1⟩)
   clear HW1 hsh HK1 HN1 e1 htl hsl
   go_wp2_with fail
   exact bodyPost_ret (v:=.tuple #[]) (by simp [results,Tryz.results91,go_sem]) rfl HF.out
end Go.Proofs.YtjjfakokakamaaaGreat.P
