import Derived.Test.YtdhciadajendnaaGreatK19
import Derived.Test.YtdhciadajendnaaGreatK20
set_option maxRecDepth 100000
namespace Go.Proofs.YtdhciadajendnaaGreat.P
open Go.RowKit
def LdR (w:World) (lv:Value) (L:List Int):Prop:=∃ bl ol cl,lv=.slice (some ⟨bl,ol,none⟩) L.length cl∧L.length≤cl∧cl≤9223372036854775807∧RwU w bl ol L
theorem LdR.same {w w':World} {lv:Value} {L:List Int} (h:LdR w lv L) (hb:∀ b,Typ 5 w b→w'.heap[b]?=w.heap[b]?):LdR w' lv L:=by
 obtain ⟨bl,ol,cl,h1,h2,h3,h4⟩:=h
 exact ⟨bl,ol,cl,h1,h2,h3,h4.same (hb bl h4.typ)⟩
theorem LdR.ext {w w':World} {lv:Value} {L:List Int} (h:LdR w lv L) (hb:Below w.heap.size w w'):LdR w' lv L:=h.same fun b hb'=>hb.block b hb'.lt
theorem load_two {enc:Int} (he:Cx.En enc) {L:List Int} (hL:Byt L) {g h:List Int} {i j:Nat} (hg:((Cx.dec enc L).drop i).take g.length=g) (hi:i + g.length≤(Cx.dec enc L).length) (gn:g≠[]) (hh:((Cx.dec enc L).drop j).take h.length=h) (hj:j + h.length≤(Cx.dec enc L).length) (e:off enc L j=off enc L i + ln enc g) :
  ((Cx.dec enc L).drop i).take (g ++ h).length=g ++ h∧i + (g ++ h).length≤(Cx.dec enc L).length:=by
 obtain ⟨_,_,k3,_⟩:=Gr.load he hL hg hi gn
 obtain ⟨a1,a2,_⟩:=Cx.dec_cut enc he j L hL (by omega)
 obtain ⟨b1,b2,_⟩:=Cx.dec_cut enc he (i + g.length) L hL hi
 have e1:(Cx.encB enc ((Cx.dec enc L).take j)).length=off enc L j:=rfl
 have e2:(Cx.encB enc ((Cx.dec enc L).take (i + g.length))).length=off enc L (i + g.length):=rfl
 rw [e1,e,k3] at a2
 rw [e2] at b2
 have e3:=congrArg List.length (a2.symm.trans b2)
 rw [List.length_drop,List.length_drop] at e3
 have hji:j=i + g.length:=by omega
 subst hji
 rw [List.length_append]
 refine ⟨?_,by omega⟩
 rw [List.take_add,hg,List.drop_drop,hh]
def UnR (enc:Int) (L:List Int) (w:World) (xl yl:Int) (g h:List Int) (e:Ending) (w':World):Prop:=∃ (z:It) (ok:Bool),e=.returned (.tuple #[.agg #[.slice z.p z.n z.c,.int .i64 z.pl,.int .i64 z.sp.a,.int .i64 z.sp.s,.int .i64 z.sp.b,.bool z.sp.lf,.bool z.sp.cr],.bool ok])∧Hid (ok=true→Pc enc L w' z (g ++ h)∧ctn enc z.pl (g ++ h)=ctn enc xl g ++ ctn enc yl h)∧Below w.heap.size w w'
set_option maxHeartbeats 4000000 in
theorem unite_any (enc:Int) (he:Cx.En enc) (L:List Int) (hL:Byt L) (hLl:L.length≤1073741824) (gw:Nat) (lv:Value) (x y:It) (g h:List Int) (w:World) (hw:w.cell? ⟨gw,0,none⟩=some (.int .i64 enc)∧w.cell? ⟨gw,1,none⟩=some lv) (hgw:gw < w.heap.size) (hlv:LdR w lv L) (hx:Pc enc L w x g) (hy:Pc enc L w y h) (hl:ln enc g + ln enc h≤1073741824) :
  Calls Tryz.prog 125 #[.pointer (some ⟨gw,0,none⟩),.agg #[.slice x.p x.n x.c,.int .i64 x.pl,.int .i64 x.sp.a,.int .i64 x.sp.s,.int .i64 x.sp.b,.bool x.sp.lf,.bool x.sp.cr],.agg #[.slice y.p y.n y.c,.int .i64 y.pl,.int .i64 y.sp.a,.int .i64 y.sp.s,.int .i64 y.sp.b,.bool y.sp.lf,.bool y.sp.cr]] w fun e w'=>UnR enc L w x.pl y.pl g h e w':=by
 obtain ⟨n,hn⟩:∃ n,n=ln enc g:=⟨_,rfl⟩
 obtain ⟨m,hm⟩:∃ m,m=ln enc h:=⟨_,rfl⟩
 obtain ⟨w0,hw0,k1,k2,k3,hb0,hs0⟩:=three_blocks w x y
 have n1:=hx.gr.lpos
 have m1:=hy.gr.lpos
 rw [← hn] at n1 hl
 rw [← hm] at m1 hl
 have x0:=hx.low
 have y0:=hy.low
 have xe:=hx.end he hL
 have ye:=hy.end he hL
 rw [← hn] at xe
 rw [← hm] at ye
 have xs:x.sp.s=(n:Nat):=by rw [hx.sp,(spn_a enc g hx.gr.fit).2,hn]
 have ys:y.sp.s=(m:Nat):=by rw [hy.sp,(spn_a enc h hy.gr.fit).2,hm]
 have HP:Hid (∀ w',Below w0.heap.size w0 w'→(w'.cell? ⟨gw,0,none⟩=some (.int .i64 enc)∧w'.cell? ⟨gw,1,none⟩=some lv)∧C7s w' w.heap.size x∧(w'.cell? ⟨w.heap.size + 1,0,none⟩=some (.slice y.p y.n y.c)∧w'.cell? ⟨w.heap.size + 1,1,none⟩=some (.int .i64 y.pl)∧w'.cell? ⟨w.heap.size + 1,2,none⟩=some (.int .i64 y.sp.a)∧w'.cell? ⟨w.heap.size + 1,3,none⟩=some (.int .i64 y.sp.s)∧w'.cell? ⟨w.heap.size + 1,4,none⟩=some (.int .i64 y.sp.b)∧w'.cell? ⟨w.heap.size + 1,5,none⟩=some (.bool y.sp.lf)∧w'.cell? ⟨w.heap.size + 1,6,none⟩=some (.bool y.sp.cr))):=fun w' hb=>by
  have hb':Below w.heap.size w w':=zxt hb0 hb
  exact ⟨⟨(hb'.cell (p:=⟨gw,0,none⟩) hgw).trans hw.1,(hb'.cell (p:=⟨gw,1,none⟩) hgw).trans hw.2⟩,(k1.ext hb).cells.1,(k2.ext hb).cells.1⟩
 have HZ:Hid (∀ w',Below w0.heap.size w0 w'→(w'.cell? ⟨w.heap.size + 2,0,none⟩=some (.slice It.zero.p It.zero.n It.zero.c)∧w'.cell? ⟨w.heap.size + 2,1,none⟩=some (.int .i64 It.zero.pl)∧w'.cell? ⟨w.heap.size + 2,2,none⟩=some (.int .i64 It.zero.sp.a)∧w'.cell? ⟨w.heap.size + 2,3,none⟩=some (.int .i64 It.zero.sp.s)∧w'.cell? ⟨w.heap.size + 2,4,none⟩=some (.int .i64 It.zero.sp.b)∧w'.cell? ⟨w.heap.size + 2,5,none⟩=some (.bool It.zero.sp.lf)∧w'.cell? ⟨w.heap.size + 2,6,none⟩=some (.bool It.zero.sp.cr))∧(∀ i,w'.frozen? ⟨w.heap.size + 2,i,none⟩=false)∧w.heap.size + 2 < w'.heap.size):=fun w' hb=>⟨(k3.ext hb).cells.1,(k3.ext hb).cells.2.2,(k3.ext hb).lt⟩
 have HNO:Hid (∀ w',Below w0.heap.size w0 w'→UnR enc L w x.pl y.pl g h (.returned (.tuple #[.agg #[.slice It.zero.p It.zero.n It.zero.c,.int .i64 It.zero.pl,.int .i64 It.zero.sp.a,.int .i64 It.zero.sp.s,.int .i64 It.zero.sp.b,.bool It.zero.sp.lf,.bool It.zero.sp.cr],.bool false])) (((((((w'.setCell ⟨w.heap.size + 2,0,none⟩ (.slice It.zero.p It.zero.n It.zero.c)).setCell ⟨w.heap.size + 2,1,none⟩ (.int .i64 It.zero.pl)).setCell ⟨w.heap.size + 2,2,none⟩ (.int .i64 It.zero.sp.a)).setCell ⟨w.heap.size + 2,3,none⟩ (.int .i64 It.zero.sp.s)).setCell ⟨w.heap.size + 2,4,none⟩ (.int .i64 It.zero.sp.b)).setCell ⟨w.heap.size + 2,5,none⟩ (.bool It.zero.sp.lf)).setCell ⟨w.heap.size + 2,6,none⟩ (.bool It.zero.sp.cr))):=fun w' hb=>by
  obtain ⟨p1,p2⟩:=(k3.ext hb).put It.zero
  exact ⟨It.zero,false,rfl,(fun h=>by cases h),zbp (zxt hb0 hb) (zxt hb0 hb).size p2 (by omega)⟩
 have HPX:=zh hx
 have HPY:=zh hy
 have HEN:=zh he
 have HB0:=zh hb0
 have HK3:=zh k3
 have HN:=zh hn
 have HM:=zh hm
 have HLV:=zh hlv
 have HLB:=zh hL
 clear k1 k2 k3 hb0 hx hy he hn hm hw hlv hL
 have hgn2:¬ gw=w.heap.size + 1 + 1:=by omega
 have hgn3:¬ w.heap.size=w.heap.size + 1 + 1:=by omega
 have hgn4:¬ w.heap.size + 1=w.heap.size + 1 + 1:=by omega
 obtain ⟨xp,xn,xc,xl,⟨xa,xS,xb,xf,xr⟩,xok⟩:=x
 obtain ⟨yp,yn,yc,yl,⟨ya,yS,yb,yf,yr⟩,yok⟩:=y
 simp only at *
 subst xs
 subst ys
 go_enter Tryz.func125,Tryz.ntmps125
 go_upto_region 1 with fail
 rw [← hw0]
 clear hw0
 obtain ⟨⟨c0,c1⟩,d0,d1⟩:=HP.out w0 (Below.refl _ _)
 obtain ⟨z0,zf,zl⟩:=HZ.out w0 (Below.refl _ _)
 by_cases hbig:(64:Int) < (n:Int) + m
 ·go_wp2_with fail
  exact bodyPost_ret (v:=.tuple #[.agg #[.slice It.zero.p It.zero.n It.zero.c,.int .i64 It.zero.pl,.int .i64 It.zero.sp.a,.int .i64 It.zero.sp.s,.int .i64 It.zero.sp.b,.bool It.zero.sp.lf,.bool It.zero.sp.cr],.bool false]) (by simp [results,Tryz.results125,go_sem,z0,It.zero,Rs.zero]) rfl (HNO.out w0 (Below.refl _ _))
 by_cases hx1:xl=-1
 ·subst hx1
  by_cases hy1:yl=-1
  ·subst hy1
   have GL:Hid (∀ w',Below w0.heap.size w0 w'→Calls Tryz.prog 135 #[.int .i64 enc,.agg #[.slice xp xn xc,.int .i64 (-1),.int .i64 xa,.int .i64 (n:Nat),.int .i64 xb,.bool xf,.bool xr],.agg #[.slice yp yn yc,.int .i64 (-1),.int .i64 ya,.int .i64 (m:Nat),.int .i64 yb,.bool yf,.bool yr]] w' fun e w''=>∃ z ok,e=.returned (.tuple #[.agg #[.slice z.p z.n z.c,.int .i64 z.pl,.int .i64 z.sp.a,.int .i64 z.sp.s,.int .i64 z.sp.b,.bool z.sp.lf,.bool z.sp.cr],.bool ok])∧Hid (ok=true→Pc enc L w'' z (g ++ h)∧z.pl=-1)∧Below w'.heap.size w' w''):=fun w' hb=>by
    have hb':=zxt HB0.out hb
    exact glue_any enc HEN.out L ⟨xp,xn,xc,-1,⟨xa,(n:Nat),xb,xf,xr⟩,xok⟩ ⟨yp,yn,yc,-1,⟨ya,(m:Nat),yb,yf,yr⟩,yok⟩ g h w' (HPX.out.ext hb') (HPY.out.ext hb') (by rw [← HN.out,← HM.out];exact hl)
   go_upto_region 5 with fail
   refine wp_region_held_drew (S:=fun w''=>(w''.cell? ⟨gw,0,none⟩=some (.int .i64 enc)∧w''.cell? ⟨gw,1,none⟩=some lv)∧(w''.cell? ⟨w.heap.size,0,none⟩=some (.slice xp xn xc)∧w''.cell? ⟨w.heap.size,1,none⟩=some (.int .i64 (-1))∧w''.cell? ⟨w.heap.size,2,none⟩=some (.int .i64 xa)∧w''.cell? ⟨w.heap.size,3,none⟩=some (.int .i64 (n:Nat))∧w''.cell? ⟨w.heap.size,4,none⟩=some (.int .i64 xb)∧w''.cell? ⟨w.heap.size,5,none⟩=some (.bool xf)∧w''.cell? ⟨w.heap.size,6,none⟩=some (.bool xr))∧(w''.cell? ⟨w.heap.size + 1,0,none⟩=some (.slice yp yn yc)∧w''.cell? ⟨w.heap.size + 1,1,none⟩=some (.int .i64 (-1))∧w''.cell? ⟨w.heap.size + 1,2,none⟩=some (.int .i64 ya)∧w''.cell? ⟨w.heap.size + 1,3,none⟩=some (.int .i64 (m:Nat))∧w''.cell? ⟨w.heap.size + 1,4,none⟩=some (.int .i64 yb)∧w''.cell? ⟨w.heap.size + 1,5,none⟩=some (.bool yf)∧w''.cell? ⟨w.heap.size + 1,6,none⟩=some (.bool yr))) (by kernel_rfl) (by first | exact ⟨⟨c0,c1⟩,d0,d1⟩ | (dsimp only;go_keep)) (fun _=>?_)
   refine tkH 0 rfl ?_
   refine tkH 1 rfl ?_
   refine tkH 2 rfl ?_
   refine tkH 3 rfl ?_
   refine tkH 4 rfl ?_
   refine rdH 5 rfl fun K hK=>?_
   go_simp
   refine hK.out _ _ ?_ (fun _=>?_)
   ·(try dsimp only);(try simp only [World.cell?_drew]);exact ⟨⟨c0,c1⟩,d0,d1⟩
   clear hK K
   try simp only [Act.put,tS]
   refine rdH 6 rfl fun K hK=>?_
   go_simp
   refine (GL.out _ (by repeat (first | exact Below.refl _ _ | apply Below.drew))).mono ?_;clear c0 c1 d0 d1 z0 zf zl;rintro e w5 ⟨z,ok,rfl,HZK,hb⟩;have HB5:Hid (Below w0.heap.size w0 w5):=zxt (by repeat (first | exact Below.refl _ _ | apply Below.drew)) hb;obtain ⟨⟨c0,c1⟩,d0,d1⟩:=HP.out w5 HB5.out;obtain ⟨z0,zf,zl⟩:=HZ.out w5 HB5.out;clear hb;try go_wp2_with fail
   refine hK.out _ _ ?_ (fun _=>?_)
   ·(try dsimp only);(try simp only [World.cell?_drew]);exact ⟨⟨c0,c1⟩,d0,d1⟩
   clear hK K
   try simp only [Act.put,tS]
   refine tkH 7 rfl ?_
   refine tkH 8 rfl ?_
   refine rdH 9 rfl fun K hK=>?_
   go_simp
   refine hK.out _ _ ?_ (fun _=>?_)
   ·(try dsimp only);simp only [zcs hgn2,zcs hgn3,zcs hgn4];exact ⟨⟨c0,c1⟩,d0,d1⟩
   clear hK K
   try simp only [Act.put,tS]
   refine rdH 10 rfl fun K hK=>?_
   go_simp
   refine hK.out _ _ ?_ (fun _=>?_)
   ·(try dsimp only);simp only [zcs hgn2,zcs hgn3,zcs hgn4];exact ⟨⟨c0,c1⟩,d0,d1⟩
   clear hK K
   try simp only [Act.put,tS]
   refine dnH ?_
   go_wp2_with fail
   obtain ⟨p1,p2⟩:=(HK3.out.ext HB5.out).put z
   have FB:=zh (zbp (zxt HB0.out HB5.out) (zxt HB0.out HB5.out).size p2 (by omega))
   have FP:Hid (ok=true→Pc enc L (((((((w5.setCell ⟨w.heap.size + 2,0,none⟩ (.slice z.p z.n z.c)).setCell ⟨w.heap.size + 2,1,none⟩ (.int .i64 z.pl)).setCell ⟨w.heap.size + 2,2,none⟩ (.int .i64 z.sp.a)).setCell ⟨w.heap.size + 2,3,none⟩ (.int .i64 z.sp.s)).setCell ⟨w.heap.size + 2,4,none⟩ (.int .i64 z.sp.b)).setCell ⟨w.heap.size + 2,5,none⟩ (.bool z.sp.lf)).setCell ⟨w.heap.size + 2,6,none⟩ (.bool z.sp.cr)) z (g ++ h)∧z.pl=-1):=fun hk=>⟨(HZK.out hk).1.same (fun b hb=>p2.block b hb.lt (fun e=>(by simp only [Option.some.injEq] at e;subst e;exact absurd (hb.uniq ⟨_,HK3.out.ext HB5.out⟩) (by decide)))),(HZK.out hk).2⟩
   exact bodyPost_ret (v:=.tuple #[.agg #[.slice z.p z.n z.c,.int .i64 z.pl,.int .i64 z.sp.a,.int .i64 z.sp.s,.int .i64 z.sp.b,.bool z.sp.lf,.bool z.sp.cr],.bool ok]) (by simp [results,Tryz.results125,go_sem,z0,It.zero,Rs.zero]) rfl ⟨z,ok,rfl,fun hk=>⟨(FP.out hk).1,by rw [(FP.out hk).2,ctn_app enc _ _ _ (by omega),tg_new]⟩,FB.out⟩
  ·have hyb:(yl == -1)=false:=by simp [hy1]
   go_wp2_with fail
   exact bodyPost_ret (v:=.tuple #[.agg #[.slice It.zero.p It.zero.n It.zero.c,.int .i64 It.zero.pl,.int .i64 It.zero.sp.a,.int .i64 It.zero.sp.s,.int .i64 It.zero.sp.b,.bool It.zero.sp.lf,.bool It.zero.sp.cr],.bool false]) (by simp [results,Tryz.results125,go_sem,z0,It.zero,Rs.zero]) rfl (HNO.out w0 (Below.refl _ _))
 have hxb:(xl == -1)=false:=by simp [hx1]
 have hxb':(xl != -1)=true:=by simp [hx1]
 by_cases hadj:yl=xl + n
 ·subst hadj
  have hab:(xl + (n:Int) == xl + n)=true:=by simp
  obtain ⟨px,hpx⟩:∃ px:Nat,xl=px:=⟨xl.toNat,by omega⟩
  subst hpx
  obtain ⟨en,hen⟩:∃ en:Nat,(en:Int)=(px:Int) + n + m:=⟨px + n + m,by omega⟩
  obtain ⟨bl,ol,cl,hlv,hl1,hl2,hl3⟩:=HLV.out
  subst hlv
  have TWO:Hid (((∃ i:Nat,(px:Int)=(off enc L i:Nat)∧((Cx.dec enc L).drop i).take (g ++ h).length=g ++ h∧i + (g ++ h).length≤(Cx.dec enc L).length)∧RwU w bl (ol + px) (Cx.encB enc (g ++ h)))∧Gr enc (g ++ h)∧ln enc (g ++ h)=en - px∧en≤L.length):=by
   rcases HPX.out.pl with e | ⟨i,e1,e2,e3⟩
   ·exact absurd e hx1
   rcases HPY.out.pl with e | ⟨j,f1,f2,f3⟩
   ·simp only at e;omega
   simp only at e1 f1
   have hn':=HN.out
   have hm':=HM.out
   obtain ⟨t1,t2⟩:=load_two HEN.out HLB.out e2 e3 HPX.out.gr.ne f2 f3 (by omega)
   obtain ⟨q1,q2,q3,q4⟩:=Gr.load HEN.out HLB.out t1 t2 (by simp [HPX.out.gr.ne])
   have q5:=ln_app enc g h
   refine ⟨⟨⟨i,e1,t1,t2⟩,?_⟩,q1,by omega,by omega⟩
   have q6:=hl3.part px (ln enc (g ++ h)) (by omega)
   rw [show px=off enc L i by omega,q2] at q6
   rw [show px=off enc L i by omega]
   exact q6
  have hel:=TWO.out.2.2.2
  have hec:en≤cl:=by omega
  have hpe:px≤en:=by omega
  have hep:¬ en=px:=by omega
  have HEI:=zh hen
  have AD:Hid (∀ w',Calls Tryz.prog 77 #[.agg #[.int .i64 xa,.int .i64 (n:Nat),.int .i64 xb,.bool xf,.bool xr],.agg #[.int .i64 ya,.int .i64 (m:Nat),.int .i64 yb,.bool yf,.bool yr]] w' fun e w''=>∃ r,Hid (r=spn enc (g ++ h))∧e=.returned (.agg #[.int .i64 r.a,.int .i64 r.s,.int .i64 r.b,.bool r.lf,.bool r.cr])∧Below w'.heap.size w' w''):=fun w'=>by
   have k1:=spn_ok enc g
   have k2:=spn_ok enc h
   have k3:=spn_a enc g HPX.out.gr.fit
   have k4:=spn_a enc h HPY.out.gr.fit
   have k5:=ln_ge enc g
   have k6:=ln_ge enc h
   have k7:=spn_b enc g
   have k8:=spn_b enc h
   have k9:=HN.out
   have k10:=HM.out
   have s1:=HPX.out.sp
   have s2:=HPY.out.sp
   simp only at s1 s2
   have A:=Add_any (spn enc g) (spn enc h) w' k1.a0 k2.a0 k1.s0 k2.s0 k1.b0 k2.b0 (by omega) (by omega) (by omega)
   rw [← s1,← s2] at A
   exact A.mono fun e w'' ⟨r,h1,h2,h3⟩=>⟨r,by unfold Hid;rw [h1.out,s1,s2,spn_app],h2,h3⟩
  clear hen HLV
  go_upto_region 7 with fail
  rw [← HEI.out]
  refine wp_region_held_drew (S:=fun w''=>(w''.cell? ⟨gw,0,none⟩=some (.int .i64 enc)∧w''.cell? ⟨gw,1,none⟩=some (.slice (some ⟨bl,ol,none⟩) L.length cl))∧(w''.cell? ⟨w.heap.size,0,none⟩=some (.slice xp xn xc)∧w''.cell? ⟨w.heap.size,1,none⟩=some (.int .i64 (px:Nat))∧w''.cell? ⟨w.heap.size,2,none⟩=some (.int .i64 xa)∧w''.cell? ⟨w.heap.size,3,none⟩=some (.int .i64 (n:Nat))∧w''.cell? ⟨w.heap.size,4,none⟩=some (.int .i64 xb)∧w''.cell? ⟨w.heap.size,5,none⟩=some (.bool xf)∧w''.cell? ⟨w.heap.size,6,none⟩=some (.bool xr))∧(w''.cell? ⟨w.heap.size + 1,0,none⟩=some (.slice yp yn yc)∧w''.cell? ⟨w.heap.size + 1,1,none⟩=some (.int .i64 ((px:Int) + n))∧w''.cell? ⟨w.heap.size + 1,2,none⟩=some (.int .i64 ya)∧w''.cell? ⟨w.heap.size + 1,3,none⟩=some (.int .i64 (m:Nat))∧w''.cell? ⟨w.heap.size + 1,4,none⟩=some (.int .i64 yb)∧w''.cell? ⟨w.heap.size + 1,5,none⟩=some (.bool yf)∧w''.cell? ⟨w.heap.size + 1,6,none⟩=some (.bool yr))) (by kernel_rfl) (by first | exact ⟨⟨c0,c1⟩,d0,d1⟩ | (dsimp only;go_keep)) (fun _=>?_)
  refine tkH 0 rfl ?_
  refine tkH 1 rfl ?_
  refine tkH 2 rfl ?_
  refine tkH 3 rfl ?_
  refine tkH 4 rfl ?_
  refine tkH 5 rfl ?_
  refine tkH 6 rfl ?_
  refine tkH 7 rfl ?_
  refine tkH 8 rfl ?_
  refine tkH 9 rfl ?_
  refine tkH 10 rfl ?_
  refine tkH 11 rfl ?_
  refine tkH 12 rfl ?_
  refine tkH 13 rfl ?_
  refine rdH 14 rfl fun K hK=>?_
  go_simp
  refine hK.out _ _ ?_ (fun _=>?_)
  ·(try dsimp only);(try simp only [World.cell?_drew]);exact ⟨⟨c0,c1⟩,d0,d1⟩
  clear hK K
  try simp only [Act.put,tS]
  refine rdH 15 rfl fun K hK=>?_
  go_simp
  refine (AD.out _).mono ?_;clear c0 c1 d0 d1 z0 zf zl;rintro e w5 ⟨r,HR,rfl,hb⟩;have HB5:Hid (Below w0.heap.size w0 w5):=zxt (by repeat (first | exact Below.refl _ _ | apply Below.drew)) hb;obtain ⟨⟨c0,c1⟩,d0,d1⟩:=HP.out w5 HB5.out;obtain ⟨z0,zf,zl⟩:=HZ.out w5 HB5.out;clear hb;try go_wp2_with fail
  refine hK.out _ _ ?_ (fun _=>?_)
  ·(try dsimp only);(try simp only [World.cell?_drew]);exact ⟨⟨c0,c1⟩,d0,d1⟩
  clear hK K
  try simp only [Act.put,tS]
  refine tkH 16 rfl ?_
  refine rdH 17 rfl fun K hK=>?_
  go_simp
  refine hK.out _ _ ?_ (fun _=>?_)
  ·(try dsimp only);simp only [zcs hgn2,zcs hgn3,zcs hgn4];exact ⟨⟨c0,c1⟩,d0,d1⟩
  clear hK K
  try simp only [Act.put,tS]
  refine rdH 18 rfl fun K hK=>?_
  go_simp
  refine hK.out _ _ ?_ (fun _=>?_)
  ·(try dsimp only);simp only [zcs hgn2,zcs hgn3,zcs hgn4];exact ⟨⟨c0,c1⟩,d0,d1⟩
  clear hK K
  try simp only [Act.put,tS]
  refine dnH ?_
  go_wp2_with fail
  have HRO:Rs.Ok r:=by rw [HR.out];exact spn_ok _ _
  obtain ⟨p1,p2⟩:=(HK3.out.ext HB5.out).put (⟨some ⟨bl,ol + px,none⟩,en - px,en - px,(px:Int),r,HRO⟩:It)
  have FB:=zh (zbp (zxt HB0.out HB5.out) (zxt HB0.out HB5.out).size p2 (by omega))
  exact bodyPost_ret (v:=.tuple #[.agg #[.slice (some ⟨bl,ol + px,none⟩) (en - px) (en - px),.int .i64 (px:Nat),.int .i64 r.a,.int .i64 r.s,.int .i64 r.b,.bool r.lf,.bool r.cr],.bool true]) (by simp [results,Tryz.results125,go_sem,z0]) rfl ⟨⟨some ⟨bl,ol + px,none⟩,en - px,en - px,(px:Int),r,HRO⟩,true,rfl,fun _=>⟨⟨TWO.out.2.1,⟨_,_,rfl,TWO.out.1.2.ext FB.out⟩,TWO.out.2.2.1.symm,TWO.out.2.2.1.symm,HR.out,.inr TWO.out.1.1⟩,by rw [ctn_app enc _ _ _ (by omega),show tg (px:Int) (ln enc g:Nat)=(px:Int) + n by unfold tg;rw [if_neg (by omega),HN.out]]⟩,FB.out⟩
 ·have hab:(yl == xl + n)=false:=by simp [hadj]
  go_wp2_with fail
  exact bodyPost_ret (v:=.tuple #[.agg #[.slice It.zero.p It.zero.n It.zero.c,.int .i64 It.zero.pl,.int .i64 It.zero.sp.a,.int .i64 It.zero.sp.s,.int .i64 It.zero.sp.b,.bool It.zero.sp.lf,.bool It.zero.sp.cr],.bool false]) (by simp [results,Tryz.results125,go_sem,z0,It.zero,Rs.zero]) rfl (HNO.out w0 (Below.refl _ _))
open Go.RowKit
def OldR (w:World) (bo:Nat) (v:Value) (xs:List It):Prop :=
 (xs=[]∧∃ p c,v=.slice p 0 c)∨∃ o c,v=.slice (some ⟨bo,o,none⟩) xs.length c∧xs.length≤c∧c≤9223372036854775807∧RwP w bo o xs
theorem OldR.same {w w':World} {bo:Nat} {v:Value} {xs:List It} (h:OldR w bo v xs) (hb:w'.heap[bo]?=w.heap[bo]?):OldR w' bo v xs:=by
 rcases h with h | ⟨o,c,h1,h2,h3,h4⟩
 ·exact .inl h
 ·exact .inr ⟨o,c,h1,h2,h3,h4.same hb⟩
def ow (g bo:Nat) (vm:Value) (k:Nat):Prop:=k=g∨k=bo∨vm.ownBlock=some k
structure Wr (enc:Int) (L:List Int) (g bo:Nat) (w:World) (lv vo vm:Value) (os ms:List PG):Prop where
 blk:w.heap[g]?=some (.cells #[.int .i64 enc,lv,vo,vm] 156 (0,0))
 ld:LdR w lv L
 old:OldR w bo vo (xsOf os)
 made:OwnR w 0 97 vm (xsOf ms)
 po:Pcs enc L w os
 pm:Pcs enc L w ms
 bl:bo < w.heap.size
 nb:vm.ownBlock≠some bo
 nu:¬ Typ 5 w bo
theorem OwnR.typ {w:World} {base:Nat} {v:Value} {xs:List It} (h:OwnR w base 97 v xs) {k:Nat} (hk:v.ownBlock=some k):Typ 97 w k:=by
 rcases h.2 with ⟨rfl,_⟩ | ⟨g,cap,cur,rfl,hb,hg,_⟩
 ·simp [Value.ownBlock] at hk
 ·simp [Value.ownBlock] at hk
  subst hk
  exact ⟨_,hg⟩
section
variable {enc:Int} {L:List Int} {g bo:Nat} {w:World} {lv vo vm:Value} {os ms:List PG}
theorem Wr.typ (h:Wr enc L g bo w lv vo vm os ms):Typ 156 w g:=⟨_,h.blk⟩
theorem Wr.lt (h:Wr enc L g bo w lv vo vm os ms):g < w.heap.size:=h.typ.lt
theorem Wr.own_nu (h:Wr enc L g bo w lv vo vm os ms) {k:Nat} (hk:ow g bo vm k):¬ Typ 5 w k:=by
 rcases hk with rfl | rfl | hk
 ·exact fun e=>absurd (e.uniq h.typ) (by decide)
 ·exact h.nu
 ·exact fun e=>absurd (e.uniq (h.made.typ hk)) (by decide)
theorem Wr.own_lt (h:Wr enc L g bo w lv vo vm os ms) {k:Nat} (hk:ow g bo vm k):k < w.heap.size:=by
 rcases hk with rfl | rfl | hk
 ·exact h.lt
 ·exact h.bl
 ·exact (h.made.typ hk).lt
theorem Wr.ng (h:Wr enc L g bo w lv vo vm os ms):vm.ownBlock≠some g:=fun e=>absurd ((h.made.typ e).uniq h.typ) (by decide)
theorem Wr.kps {own:Nat→Prop} {w':World} (h:Wr enc L g bo w lv vo vm os ms) (hk:Kps own w w') (ho:∀ k,own k→k < w.heap.size→¬ ow g bo vm k∧¬ Typ 5 w k):Wr enc L g bo w' lv vo vm os ms:=by
 have hu:∀ b,Typ 5 w b→w'.heap[b]?=w.heap[b]?:=fun b hb=>hk.same b hb.lt (fun e=>(ho b e hb.lt).2 hb)
 have hs:∀ k,ow g bo vm k→w'.heap[k]?=w.heap[k]?:=fun k hk'=>hk.same k (h.own_lt hk') (fun e=>(ho k e (h.own_lt hk')).1 hk')
 refine ⟨by rw [hs g (.inl rfl)];exact h.blk,h.ld.same hu,h.old.same (hs bo (.inr (.inl rfl))),?_,h.po.same hu,h.pm.same hu,Nat.lt_of_lt_of_le h.bl hk.size,h.nb,fun ⟨cs,e⟩=>h.nu ⟨cs,by rw [← hs bo (.inr (.inl rfl))];exact e⟩⟩
 obtain ⟨h1,h2⟩:=h.made
 refine ⟨h1,?_⟩
 rcases h2 with h2 | ⟨k,cap,cur,rfl,hb,hg,r⟩
 ·exact .inl h2
 ·exact .inr ⟨k,cap,cur,rfl,hb,by rw [hs k (.inr (.inr (by simp [Value.ownBlock])))];exact hg,r⟩
theorem Wr.ext {w':World} (h:Wr enc L g bo w lv vo vm os ms) (hb:Below w.heap.size w w'):Wr enc L g bo w' lv vo vm os ms:=h.kps (Kps.of_below (fun _=>False) hb) fun _ e=>e.elim
theorem Wr.other {w':World} {k:Nat} (h:Wr enc L g bo w lv vo vm os ms) (hg:w.grownBy w' (some k)) (h1:¬ ow g bo vm k) (h2:¬ Typ 5 w k):Wr enc L g bo w' lv vo vm os ms :=
 h.kps (own:=fun j=>j=k) (Kps.grown hg fun j e _=>(Option.some.inj e).symm) fun j e _=>by subst e;exact ⟨h1,h2⟩
theorem Wr.cells (h:Wr enc L g bo w lv vo vm os ms):(w.cell? ⟨g,0,none⟩=some (.int .i64 enc)∧w.cell? ⟨g,1,none⟩=some lv∧w.cell? ⟨g,2,none⟩=some vo∧w.cell? ⟨g,3,none⟩=some vm)∧∀ i,w.frozen? ⟨g,i,none⟩=false:=by
 refine ⟨⟨?_,?_,?_,?_⟩,fun i=>by simp [World.frozen?,h.blk]⟩ <;> (rw [cell_of_row w g _ _ _ _ h.blk];rfl)
theorem u8_kept {own:Nat→Prop} {w':World} (hk:Kps own w w') (ho:∀ k,own k→¬ Typ 5 w k):∀ b,Typ 5 w b→w'.heap[b]?=w.heap[b]?:=fun b hb=>hk.same b hb.lt (fun e=>ho b e hb)
theorem kps_put {k:Nat} {w':World} (hg:w.grownBy w' (some k)) (ho:ow g bo vm k):Kps (ow g bo vm) w w':=Kps.grown hg fun j e _=>by cases e;exact ho
theorem Wr.adv {q:PG} {vo':Value} (h:Wr enc L g bo w lv vo vm (q :: os) ms) (ho:OldR w bo vo' (xsOf os)) :
  Wr enc L g bo (w.setCell ⟨g,2,none⟩ vo') lv vo' vm os ms∧Kps (ow g bo vm) w (w.setCell ⟨g,2,none⟩ vo'):=by
 obtain ⟨p1,p2⟩:=set1 h.blk 2 vo'
 have hk:Kps (ow g bo vm) w (w.setCell ⟨g,2,none⟩ vo'):=kps_put p2 (.inl rfl)
 have hu:=u8_kept hk (fun k=>h.own_nu)
 have hbg:bo=g∨bo≠g:=Nat.eq_or_lt_of_le (Nat.le_refl bo) |>.elim (fun _=>Decidable.em _) (fun _=>Decidable.em _)
 refine ⟨⟨p1,h.ld.same hu,?_,World.ownsRow.kept h.made p2 (.inr h.ng),fun r hr=>(h.po r (List.mem_cons_of_mem _ hr)).same hu,h.pm.same hu,Nat.lt_of_lt_of_le h.bl p2.size,h.nb,?_⟩,hk⟩
 ·rcases ho with e | ⟨o,c,e1,e2,e3,e4⟩
  ·exact .inl e
  ·have hne:bo≠g:=fun e=>by subst e;exact absurd (e4.typ.uniq h.typ) (by decide)
   exact .inr ⟨o,c,e1,e2,e3,e4.same (p2.block bo h.bl (by simpa using hne))⟩
 ·rintro ⟨cs,e⟩
  rcases hbg with rfl | hne
  ·rw [p1] at e;simp only [Option.some.injEq,Obj.cells.injEq] at e;exact absurd e.2.1 (by decide)
  ·rw [p2.block bo h.bl (by simpa using hne)] at e;exact h.nu ⟨cs,e⟩
theorem Wr.rep {q:PG} {o n c:Nat} (h:Wr enc L g bo w lv (.slice (some ⟨bo,o,none⟩) n c) vm (q :: os) ms) (y:It) (gy:List Int) (hy:Pc enc L w y gy) :
  let w':=(((((((w.setCell ⟨bo,o + 0 * 7,none⟩ (.slice y.p y.n y.c)).setCell ⟨bo,o + 0 * 7 + 1,none⟩ (.int .i64 y.pl)).setCell ⟨bo,o + 0 * 7 + 2,none⟩ (.int .i64 y.sp.a)).setCell ⟨bo,o + 0 * 7 + 3,none⟩ (.int .i64 y.sp.s)).setCell ⟨bo,o + 0 * 7 + 4,none⟩ (.int .i64 y.sp.b)).setCell ⟨bo,o + 0 * 7 + 5,none⟩ (.bool y.sp.lf)).setCell ⟨bo,o + 0 * 7 + 6,none⟩ (.bool y.sp.cr))
  Wr enc L g bo w' lv (.slice (some ⟨bo,o,none⟩) n c) vm ((y,gy) :: os) ms∧Kps (ow g bo vm) w w':=by
 rcases h.old with ⟨e,_⟩ | ⟨o',c',e1,e2,e3,e4⟩
 ·exact absurd e (by simp [xsOf])
 simp only [Value.slice.injEq,Option.some.injEq,Addr.mk.injEq] at e1
 obtain ⟨⟨_,ho,_⟩,hn,hc⟩:=e1
 subst ho
 subst hc
 obtain ⟨p1,p2⟩:=e4.put 0 (by simp [xsOf]) y
 have hk:=kps_put (g:=g) (bo:=bo) (vm:=vm) p2 (.inr (.inl rfl))
 have hu:=u8_kept hk (fun k=>h.own_nu)
 have hne:g≠bo:=fun e=>by subst e;exact absurd (e4.typ.uniq h.typ) (by decide)
 refine ⟨⟨by rw [p2.block g h.lt (by simpa using hne)];exact h.blk,h.ld.same hu,.inr ⟨o,c,?_,?_,e3,?_⟩,World.ownsRow.kept h.made p2 (.inr h.nb),?_,h.pm.same hu,Nat.lt_of_lt_of_le h.bl p2.size,h.nb,fun e=>absurd (e.uniq p1.typ) (by decide)⟩,hk⟩
 ·rw [hn,xsOf_len,xsOf_len];rfl
 ·rw [xsOf_len] at e2 ⊢;exact e2
 ·exact p1
 ·intro r hr
  rcases List.mem_cons.1 hr with rfl | hr
  ·exact hy.same hu
  ·exact (h.po r (List.mem_cons_of_mem _ hr)).same hu
theorem Wr.last {k c:Nat} {q:PG} (h:Wr enc L g bo w lv vo (.slice (some ⟨k,0,none⟩) (ms ++ [q]).length c) os (ms ++ [q])) (y:It) (gy:List Int) (hy:Pc enc L w y gy) :
  let w':=(((((((w.setCell ⟨k,0 + ms.length * 7,none⟩ (.slice y.p y.n y.c)).setCell ⟨k,0 + ms.length * 7 + 1,none⟩ (.int .i64 y.pl)).setCell ⟨k,0 + ms.length * 7 + 2,none⟩ (.int .i64 y.sp.a)).setCell ⟨k,0 + ms.length * 7 + 3,none⟩ (.int .i64 y.sp.s)).setCell ⟨k,0 + ms.length * 7 + 4,none⟩ (.int .i64 y.sp.b)).setCell ⟨k,0 + ms.length * 7 + 5,none⟩ (.bool y.sp.lf)).setCell ⟨k,0 + ms.length * 7 + 6,none⟩ (.bool y.sp.cr))
  Wr enc L g bo w' lv vo (.slice (some ⟨k,0,none⟩) (ms ++ [q]).length c) os (ms ++ [(y,gy)])∧Kps (ow g bo (.slice (some ⟨k,0,none⟩) (ms ++ [q]).length c)) w w':=by
 have hm:=h.made
 rw [← xsOf_len] at hm
 obtain ⟨p1,p2⟩:=OwnR.set hm ms.length (by rw [xsOf_len];simp) y
 have hk:=kps_put (g:=g) (bo:=bo) (vm:=.slice (some ⟨k,0,none⟩) (ms ++ [q]).length c) p2 (.inr (.inr rfl))
 have hu:=u8_kept hk (fun k=>h.own_nu)
 have hne:g≠k:=fun e=>by subst e;exact h.ng rfl
 have hnb:bo≠k:=fun e=>by subst e;exact h.nb rfl
 refine ⟨⟨by rw [p2.block g h.lt (by simpa using hne)];exact h.blk,h.ld.same hu,h.old.same (p2.block bo h.bl (by simpa using hnb)),?_,h.po.same hu,?_,Nat.lt_of_lt_of_le h.bl p2.size,h.nb,?_⟩,hk⟩
 ·have e:(xsOf (ms ++ [q])).set ms.length y=xsOf (ms ++ [(y,gy)]):=by
   rw [xsOf_app,xsOf_app,List.set_append_right _ _ (by rw [xsOf_len];exact Nat.le_refl _),xsOf_len,Nat.sub_self]
   rfl
  rw [e,xsOf_len] at p1
  exact p1
 ·intro r hr
  rcases List.mem_append.1 hr with hr | hr
  ·exact (h.pm r (List.mem_append_left _ hr)).same hu
  ·rw [List.mem_singleton] at hr;subst hr;exact hy.same hu
 ·rintro ⟨cs,e⟩
  rw [p2.block bo h.bl (by simpa using hnb)] at e
  exact h.nu ⟨cs,e⟩
theorem Wr.push {w1:World} {vm':Value} {y:It} {gy:List Int} (h:Wr enc L g bo w lv vo vm os ms) (hy:Pc enc L w y gy) (hown:OwnR w1 0 97 vm' (xsOf ms ++ [y])) (hg:w.grownBy w1 vm.ownBlock) (hb:vm'.ownBlock=vm.ownBlock∨vm'.ownBlock=some w.heap.size) :
  Wr enc L g bo (w1.setCell ⟨g,3,none⟩ vm') lv vo vm' os (ms ++ [(y,gy)])∧Kps (ow g bo vm) w (w1.setCell ⟨g,3,none⟩ vm'):=by
 have k1:Kps (ow g bo vm) w w1:=Kps.grown hg fun j e _=>.inr (.inr e)
 have hgb:w1.heap[g]?=some (.cells #[.int .i64 enc,lv,vo,vm] 156 (0,0)):=by rw [hg.block g h.lt (fun e=>h.ng e.symm)];exact h.blk
 obtain ⟨p1,p2⟩:=set1 hgb 3 vm'
 have hk:Kps (ow g bo vm) w (w1.setCell ⟨g,3,none⟩ vm'):=k1.trans (kps_put p2 (.inl rfl)) fun i _ e=>e
 have hu:=u8_kept hk (fun k=>h.own_nu)
 have hng:vm'.ownBlock≠some g:=fun e=>by
  rcases hb with e1 | e1
  ·exact h.ng (e1 ▸ e)
  ·rw [e1] at e;have:=h.lt;cases e;omega
 have hnb:vm'.ownBlock≠some bo:=fun e=>by
  rcases hb with e1 | e1
  ·exact h.nb (e1 ▸ e)
  ·rw [e1] at e;have:=h.bl;cases e;omega
 have hob:w1.heap[bo]?=w.heap[bo]?:=hg.block bo h.bl (fun e=>h.nb e.symm)
 refine ⟨⟨p1,h.ld.same hu,?_,?_,h.po.same hu,?_,Nat.lt_of_lt_of_le h.bl hk.size,hnb,?_⟩,hk⟩
 ·rcases h.old with e | ⟨o,c,e1,e2,e3,e4⟩
  ·exact .inl e
  ·have hne:bo≠g:=fun e=>by subst e;exact absurd (e4.typ.uniq h.typ) (by decide)
   exact .inr ⟨o,c,e1,e2,e3,e4.same ((p2.block bo (Nat.lt_of_lt_of_le h.bl hg.size) (by simpa using hne)).trans hob)⟩
 ·have:=World.ownsRow.kept hown p2 (.inr hng)
  unfold OwnR
  rw [xsOf_app]
  exact this
 ·intro r hr
  rcases List.mem_append.1 hr with hr | hr
  ·exact (h.pm r hr).same hu
  ·rw [List.mem_singleton] at hr;subst hr;exact hy.same hu
 ·rintro ⟨cs,e⟩
  by_cases hne:bo=g
  ·subst hne;rw [p1] at e;simp only [Option.some.injEq,Obj.cells.injEq] at e;exact absurd e.2.1 (by decide)
  ·rw [p2.block bo (Nat.lt_of_lt_of_le h.bl hg.size) (by simpa using hne),hob] at e;exact h.nu ⟨cs,e⟩
end
end Go.Proofs.YtdhciadajendnaaGreat.P
