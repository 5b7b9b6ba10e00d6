import Derived.Test.YtjjfakokakamaaaGreatJ11
import Derived.Deep.RegionHeld3
namespace Go.Proofs.YtjjfakokakamaaaGreat.P
open Go.RowKit
def brk (enc:Int) (A:List Int) (z:Int):Int:=if z≤0 then 0 else if (A.length:Int)≤z then (spn enc A).b else (spn enc (A.take z.toNat)).b - (if (spn enc (A.take z.toNat)).cr=true∧(spn enc (A.drop z.toNat)).lf=true then 1 else 0)
set_option maxRecDepth 100000 in
set_option maxHeartbeats 2000000 in
theorem split_zero (enc:Int) (x:It) (w:World):Calls Tryz.prog 68 #[.agg #[.slice x.p x.n x.c,.int .i64 x.pl,.int .i64 x.sp.a,.int .i64 x.sp.s,.int .i64 x.sp.b,.bool x.sp.lf,.bool x.sp.cr],.int .i64 enc,.int .i64 0] w fun e w'=>e=.returned (.tuple #[.agg #[.slice It.zero.p It.zero.n It.zero.c,.int .i64 It.zero.pl,.int .i64 It.zero.sp.a,.int .i64 It.zero.sp.s,.int .i64 It.zero.sp.b,.bool It.zero.sp.lf,.bool It.zero.sp.cr],.agg #[.slice x.p x.n x.c,.int .i64 x.pl,.int .i64 x.sp.a,.int .i64 x.sp.s,.int .i64 x.sp.b,.bool x.sp.lf,.bool x.sp.cr]])∧Below w.heap.size w w':=by
 obtain ⟨w0,hw0⟩:∃ w0,w0=((w.alloc (.cells #[.slice x.p x.n x.c,.int .i64 x.pl,.int .i64 x.sp.a,.int .i64 x.sp.s,.int .i64 x.sp.b,.bool x.sp.lf,.bool x.sp.cr] 122)).alloc (.cells #[.slice none 0 0,.int .i64 0,.int .i64 0,.int .i64 0,.int .i64 0,.bool false,.bool false] 122)).alloc (.cells #[.slice none 0 0,.int .i64 0,.int .i64 0,.int .i64 0,.int .i64 0,.bool false,.bool false] 122):=⟨_,rfl⟩
 have I0:Hid (BlkI w0 w.heap.size x∧BlkI w0 (w.heap.size + 1) It.zero∧BlkI w0 (w.heap.size + 2) It.zero∧Below w.heap.size w w0):=by
  obtain ⟨v1,hv1⟩:∃ v,v=w.alloc (.cells #[.slice x.p x.n x.c,.int .i64 x.pl,.int .i64 x.sp.a,.int .i64 x.sp.s,.int .i64 x.sp.b,.bool x.sp.lf,.bool x.sp.cr] 122):=⟨_,rfl⟩
  obtain ⟨v2,hv2⟩:∃ v,v=v1.alloc (.cells #[.slice none 0 0,.int .i64 0,.int .i64 0,.int .i64 0,.int .i64 0,.bool false,.bool false] 122):=⟨_,rfl⟩
  rw [← hv1,← hv2] at hw0
  have s1:v1.heap.size=w.heap.size + 1:=by rw [hv1];simp
  have s2:v2.heap.size=w.heap.size + 2:=by rw [hv2];simp [s1]
  have b1:Below w.heap.size w v1:=by rw [hv1];exact ext_alloc (Below.refl _ _) _
  have b2:Below v1.heap.size v1 v2:=by rw [hv2];exact ext_alloc (Below.refl _ _) _
  have b3:Below v2.heap.size v2 w0:=by rw [hw0];exact ext_alloc (Below.refl _ _) _
  have t1:BlkI v1 w.heap.size x:=by rw [hv1];exact heap_alloc_new _ _
  have t2:BlkI v2 (w.heap.size + 1) It.zero:=by rw [← s1,hv2];exact heap_alloc_new _ _
  refine ⟨(t1.ext b2).ext b3,t2.ext b3,?_,ext_trans (ext_trans b1 b2) b3⟩
  rw [← s2,hw0];exact heap_alloc_new _ _
 go_enter Tryz.func68,Tryz.ntmps68
 go_upto_region 2 with fail
 rw [← hw0]
 clear hw0
 obtain ⟨d0,_,_⟩:=I0.out.1.cells
 obtain ⟨e6,_,f6⟩:=I0.out.2.1.cells
 have l6:=I0.out.2.1.lt
 refine wp_region_held_drew (S:=fun w''=>(w''.cell? ⟨w.heap.size,0,none⟩=some (.slice x.p x.n x.c)∧w''.cell? ⟨w.heap.size,1,none⟩=some (.int .i64 x.pl)∧w''.cell? ⟨w.heap.size,2,none⟩=some (.int .i64 x.sp.a)∧w''.cell? ⟨w.heap.size,3,none⟩=some (.int .i64 x.sp.s)∧w''.cell? ⟨w.heap.size,4,none⟩=some (.int .i64 x.sp.b)∧w''.cell? ⟨w.heap.size,5,none⟩=some (.bool x.sp.lf)∧w''.cell? ⟨w.heap.size,6,none⟩=some (.bool x.sp.cr))) (by kernel_rfl) (d0) (fun hHeld=>?_)
 refine tkH (v:=?_) 0 rfl ?_ ?_;rotate_left 1
 ·intro wq hSw;(try dsimp only at hSw);go_simp;try (with_reducible rfl)
 try simp only [Act.put,sA1,sA3,sA4,sA5,sA6]
 refine tkH (v:=?_) 1 rfl ?_ ?_;rotate_left 1
 ·intro wq hSw;(try dsimp only at hSw);go_simp;try (with_reducible rfl)
 try simp only [Act.put,sA1,sA2,sA3,sA4,sA5,sA6]
 refine wpAnyH_ready (rs:=[2]) (by kernel_rfl) (by simp) ?_
 refine AllReadyH.cons (o:=_) rfl (fun K hK=>?_) AllReadyH.nil
 go_simp
 generalize hwN:World.setCell _ _ _=w1;obtain ⟨p1,p2⟩:=I0.out.2.1.put It.zero;rw [show (((((((w0.setCell ⟨(w.heap.size + 1),0,none⟩ (.slice It.zero.p It.zero.n It.zero.c)).setCell ⟨(w.heap.size + 1),1,none⟩ (.int .i64 It.zero.pl)).setCell ⟨(w.heap.size + 1),2,none⟩ (.int .i64 It.zero.sp.a)).setCell ⟨(w.heap.size + 1),3,none⟩ (.int .i64 It.zero.sp.s)).setCell ⟨(w.heap.size + 1),4,none⟩ (.int .i64 It.zero.sp.b)).setCell ⟨(w.heap.size + 1),5,none⟩ (.bool It.zero.sp.lf)).setCell ⟨(w.heap.size + 1),6,none⟩ (.bool It.zero.sp.cr))=w1 from hwN] at p1 p2;clear hwN;have H1:=hidIt (And.intro (I0.out.1.other p2 (by omega)) (And.intro p1 (And.intro (I0.out.2.2.1.other p2 (by omega)) (below_put I0.out.2.2.2 I0.out.2.2.2.size p2 (by omega)))));clear p1 p2 d0 e6 f6 l6;obtain ⟨d0,_,_⟩:=H1.out.1.cells;obtain ⟨e7,_,f7⟩:=H1.out.2.2.1.cells;have l7:=H1.out.2.2.1.lt
 refine hK.out _ _ ?_ (fun hHeld=>?_)
 ·(try simp only [World.cell?_drew]);exact d0
 clear hK K
 try simp only [Act.put,sA1,sA2,sA3,sA4,sA5,sA6]
 refine wpAnyH_ready (rs:=[3]) (by kernel_rfl) (by simp) ?_
 refine AllReadyH.cons (o:=_) rfl (fun K hK=>?_) AllReadyH.nil
 go_simp
 generalize hwN:World.setCell _ _ _=w2;obtain ⟨p1,p2⟩:=H1.out.2.2.1.put x;rw [show (((((((w1.setCell ⟨(w.heap.size + 2),0,none⟩ (.slice x.p x.n x.c)).setCell ⟨(w.heap.size + 2),1,none⟩ (.int .i64 x.pl)).setCell ⟨(w.heap.size + 2),2,none⟩ (.int .i64 x.sp.a)).setCell ⟨(w.heap.size + 2),3,none⟩ (.int .i64 x.sp.s)).setCell ⟨(w.heap.size + 2),4,none⟩ (.int .i64 x.sp.b)).setCell ⟨(w.heap.size + 2),5,none⟩ (.bool x.sp.lf)).setCell ⟨(w.heap.size + 2),6,none⟩ (.bool x.sp.cr))=w2 from hwN] at p1 p2;clear hwN;have H2:=hidIt (And.intro (H1.out.1.other p2 (by omega)) (And.intro (H1.out.2.1.other p2 (by omega)) (And.intro p1 (below_put H1.out.2.2.2 H1.out.2.2.2.size p2 (by omega)))));clear p1 p2 d0 e7 f7 l7;obtain ⟨d0,_,_⟩:=H2.out.1.cells
 refine hK.out _ _ ?_ (fun hHeld=>?_)
 ·(try simp only [World.cell?_drew]);exact d0
 clear hK K
 try simp only [Act.put,sA1,sA2,sA3,sA4,sA5,sA6]
 refine wpAnyH_done (by kernel_rfl) ?_ _
 obtain ⟨r0,_,_⟩:=H2.out.2.1.cells
 obtain ⟨r1,_,_⟩:=H2.out.2.2.1.cells
 go_wp2_with fail
 exact bodyPost_ret (v:=.tuple #[.agg #[.slice It.zero.p It.zero.n It.zero.c,.int .i64 It.zero.pl,.int .i64 It.zero.sp.a,.int .i64 It.zero.sp.s,.int .i64 It.zero.sp.b,.bool It.zero.sp.lf,.bool It.zero.sp.cr],.agg #[.slice x.p x.n x.c,.int .i64 x.pl,.int .i64 x.sp.a,.int .i64 x.sp.s,.int .i64 x.sp.b,.bool x.sp.lf,.bool x.sp.cr]]) (by simp [results,Tryz.results68,go_sem,r0,r1,It.zero,Rs.zero]) rfl ⟨rfl,H2.out.2.2.2.drew⟩
theorem split_all (enc:Int) (he:Cx.En enc) (L:List Int) (hL:Byt L) (hLl:L.length≤1073741824) (x:It) (gx:List Int) (n:Nat) (w:World) (h:Pc enc L w x gx) (hl:ln enc gx≤1073741824) (hn:n < gx.length) :
  Calls Tryz.prog 68 #[.agg #[.slice x.p x.n x.c,.int .i64 x.pl,.int .i64 x.sp.a,.int .i64 x.sp.s,.int .i64 x.sp.b,.bool x.sp.lf,.bool x.sp.cr],.int .i64 enc,.int .i64 n] w fun e w'=>∃ hd rs:It,e=.returned (.tuple #[.agg #[.slice hd.p hd.n hd.c,.int .i64 hd.pl,.int .i64 hd.sp.a,.int .i64 hd.sp.s,.int .i64 hd.sp.b,.bool hd.sp.lf,.bool hd.sp.cr],.agg #[.slice rs.p rs.n rs.c,.int .i64 rs.pl,.int .i64 rs.sp.a,.int .i64 rs.sp.s,.int .i64 rs.sp.b,.bool rs.sp.lf,.bool rs.sp.cr]])∧Hid (hd.sp=spn enc (gx.take n)∧rs.sp=spn enc (gx.drop n))∧Below w.heap.size w w':=by
 rcases Nat.eq_zero_or_pos n with rfl | h0
 ·refine (split_zero enc x w).mono ?_
  rintro e w' ⟨rfl,hb⟩
  exact ⟨It.zero,x,rfl,⟨rfl,by rw [List.drop_zero];exact h.sp⟩,hb⟩
 ·obtain ⟨b,o,hp,hr⟩:=h.mem
  have hend:=h.end he hL
  have hlow:=h.low
  refine (split_any enc he x (Cx.encB enc gx) n w (h.rd (by omega)) h.gr.byt (by show ln enc gx≤_;omega) (by rw [h.gr.dec];exact h.sp) h0 (by rw [h.gr.dec];exact hn) hlow (by omega) b o hp (by rw [h.xc];exact Nat.le_refl _)).mono ?_
  rintro e w' ⟨hd,rs,rfl,hs,hb⟩
  have hs':=hs.out
  rw [h.gr.dec] at hs'
  exact ⟨hd,rs,rfl,⟨hs'.2.2.2.2.1,hs'.2.2.2.2.2.2.2.2.2⟩,hb⟩
theorem field_breaks (a s b:Int) (f r:Bool) (w:World):(Instr.field 119 (.agg #[.int .i64 a,.int .i64 s,.int .i64 b,.bool f,.bool r]) 2).run Tryz.prog w=.ok (.int .i64 b) w:=by kernel_rfl
set_option maxRecDepth 100000 in
set_option maxHeartbeats 8000000 in
theorem Breaks_any (enc lim:Int) (L:List Int) (w:World) (t:Nat) (ps:List PG) (z:Int) (h:Tx enc lim L w t ps):Calls Tryz.prog 35 #[.pointer (some ⟨t,0,none⟩),.int .i64 z] w fun e w'=>e=.returned (.int .i64 (brk enc (asOf ps) z))∧Below w.heap.size w w':=by
 have LN:=hidIt (Len_any enc lim L w t ps h)
 have hsl:=h.sum.2.2
 have HT:=hidIt h
 by_cases hz0:z≤0
 ·have HA:=hidIt (show brk enc (asOf ps) z=0 by unfold brk;rw [if_pos hz0])
  clear h
  go_enter Tryz.func35,Tryz.ntmps35
  go_wp2_with fail
  go_ret
  exact ⟨ret_int HA.out.symm,Below.refl _ _⟩
 by_cases hzl:((sh enc ps).length:Int)≤z
 ·have HA:=hidIt (show brk enc (asOf ps) z=(spn enc (asOf ps)).b by unfold brk;rw [if_neg hz0,if_pos (by rw [← sh_len];exact hzl)])
  have SU:Hid (∀ w',Below w.heap.size w w'→∃ u,w'.cell? ⟨t,3,none⟩=some (.pointer u)∧Calls Tryz.prog 56 #[.agg #[.pointer u]] w' fun e w''=>∃ s,Hid (s=rA.su (xsOf ps))∧e=.returned (.agg #[.int .i64 s.a,.int .i64 s.s,.int .i64 s.b,.bool s.lf,.bool s.cr])∧Below w'.heap.size w' w''):=fun w' hb=>by
   obtain ⟨_,u,⟨_,_,_,c3⟩,_,htt,_⟩:=(h.ext hb).cells
   exact ⟨u,c3,Sum_any u (xsOf ps) w' htt⟩
  have HSB:Hid ((rA.su (xsOf ps)).b=(spn enc (asOf ps)).b):=by unfold Hid;rw [h.pc.su]
  have fb:=field_breaks
  clear h
  go_enter Tryz.func35,Tryz.ntmps35
  go_wp2_with (first
   | (go_at_call 34;refine LN.out.mono ?_;rintro e w1 ⟨rfl,hb1⟩;have HB1:=hidIt hb1;clear hb1;obtain ⟨u,c3,hSU⟩:=SU.out w1 HB1.out;have HSU:=hidIt hSU;clear hSU;(try dsimp only))
   | (go_at_call 56;refine HSU.out.mono ?_;rintro e w2 ⟨⟨sa,ss,sb,sf,sc⟩,hs,rfl,hb2⟩;have HB2:=hidIt (ext_trans HB1.out hb2);have HS:=hidIt ((congrArg Rs.b hs.out).trans HSB.out);clear hb2 hs c3;(try dsimp only)))
  go_ret
  exact ⟨ret_int (HS.out.trans HA.out.symm),HB2.out⟩
 obtain ⟨m,rfl⟩:∃ m:Nat,z=m:=⟨z.toNat,by omega⟩
 have hm0:0 < m:=by omega
 have hml:m < (sh enc ps).length:=by omega
 obtain ⟨i,hfi,hil,hib,hig⟩:=find_from h.pc m
 obtain ⟨base,hbs⟩:∃ base,base=(sh enc (ps.take i)).length:=⟨_,rfl⟩
 rw [← hbs] at hib hig
 have hilt:i < ps.length:=by
  rcases Nat.lt_or_ge i ps.length with h1 | h1
  ·exact h1
  ·rw [List.take_of_length_le h1] at hbs;omega
 obtain ⟨⟨x,gx⟩,hgx⟩:∃ q,ps[i]?=some q:=⟨_,List.getElem?_eq_getElem hilt⟩
 have hng:=hig x gx hgx
 obtain ⟨n,hn⟩:∃ n,n=m - base:=⟨_,rfl⟩
 rw [← hn] at hng
 have eA:asOf ps=asOf (ps.take i) ++ (gx ++ asOf (ps.drop (i + 1))):=by
  conv=>lhs;rw [← List.take_append_drop i ps,drop_of hgx]
  rw [asOf_app];simp [asOf]
 have hbl:(asOf (ps.take i)).length=base:=by rw [hbs,sh_len]
 have eT:(asOf ps).take m=asOf (ps.take i) ++ gx.take n:=by
  rw [eA,List.take_append,hbl,List.take_of_length_le (by omega),List.take_append,← hn,Nat.sub_eq_zero_of_le (Nat.le_of_lt hng),List.take_zero,List.append_nil]
 have eD:(asOf ps).drop m=gx.drop n ++ asOf (ps.drop (i + 1)):=by
  rw [eA,List.drop_append,hbl,List.drop_eq_nil_of_le (by omega),List.nil_append,List.drop_append,← hn,Nat.sub_eq_zero_of_le (Nat.le_of_lt hng),List.drop_zero]
 obtain ⟨a,ha⟩:∃ a,gx[n]?=some a:=⟨_,List.getElem?_eq_getElem hng⟩
 have eL:(spn enc ((asOf ps).drop m)).lf=(spn enc (gx.drop n)).lf:=by rw [eD,drop_of ha,List.cons_append,spn_lf,spn_lf]
 have HAN:Hid (brk enc (asOf ps) m=(Rs.add (spn enc (asOf (ps.take i))) (spn enc (gx.take n))).b - (if ((Rs.add (spn enc (asOf (ps.take i))) (spn enc (gx.take n))).cr && (spn enc (gx.drop n)).lf)=true then 1 else 0)):=by
  unfold Hid brk
  rw [if_neg hz0,if_neg (by rw [← sh_len];exact hzl),Int.toNat_natCast,eL,eT,spn_app]
  simp only [Bool.and_eq_true]
 obtain ⟨lv,u,⟨c0w,_,_,c3w⟩,_,htt,htl⟩:=h.cells
 have hwt:wt (xsOf ps)≤4611686018427387904:=by have:=h.pc.wt;have:=h.sz;omega
 have hpl:ps.length≤65536:=by have:=h.pc.len;have:=ln_ge enc (asOf ps);have:=h.sz;omega
 have hgl:ln enc gx≤65536:=by have h1:=h.sz;rw [eA,ln_app,ln_app] at h1;omega
 have FD:Hid (∀ w',Below w.heap.size w w'→Calls Tryz.prog 65 #[.agg #[.pointer u],.int .i64 0,.int .i64 ((m:Int) + 1)] w' fun e w''=>e=.returned (.int .i64 ((i + 1:Nat):Int))∧Below w'.heap.size w' w''):=fun w' hb=>by rw [← hfi];exact Find_any u (xsOf ps) 0 ((m:Int) + 1) w' (htt.ext hb) hwt
 have UP:Hid (∀ w',Below w.heap.size w w'→Calls Tryz.prog 67 #[.agg #[.pointer u],.int .i64 (i:Nat)] w' fun e w''=>∃ s,Hid (s=rA.su ((xsOf ps).take i))∧e=.returned (.agg #[.int .i64 s.a,.int .i64 s.s,.int .i64 s.b,.bool s.lf,.bool s.cr])∧Below w'.heap.size w' w''):=fun w' hb=>by have:=Upto_any u (xsOf ps) (i:Nat) w' (htt.ext hb) hwt (by omega);rwa [Int.toNat_natCast] at this
 have AT:Hid (∀ w',Below w.heap.size w w'→Calls Tryz.prog 66 #[.agg #[.pointer u],.int .i64 (i:Nat)] w' fun e w''=>e=.returned (.tuple #[.agg #[.slice x.p x.n x.c,.int .i64 x.pl,.int .i64 x.sp.a,.int .i64 x.sp.s,.int .i64 x.sp.b,.bool x.sp.lf,.bool x.sp.cr],.bool true])∧Below w'.heap.size w' w''):=fun w' hb=>by
  refine (At_any u (xsOf ps) (i:Nat) w' (htt.ext hb) hwt (by omega)).mono ?_
  rintro e w'' ⟨x',b',rfl,hat,hb'⟩
  have hx:atL (xsOf ps) ((i:Nat):Int)=some x:=by unfold atL;rw [if_neg (by omega),Int.toNat_natCast];simp [xsOf,hgx]
  rcases hat with ⟨q1,rfl⟩ | ⟨q1,_⟩
  ·rw [hx] at q1;cases q1;exact ⟨rfl,hb'⟩
  ·rw [hx] at q1;cases q1
 have h':Pcs enc L w (ps.take i):=fun q hq=>h.pc q (List.mem_of_mem_take hq)
 have HUS:Hid (rA.su ((xsOf ps).take i)=spn enc (asOf (ps.take i))):=by
  unfold Hid
  rw [show (xsOf ps).take i=xsOf (ps.take i) by simp [xsOf,List.map_take],h'.su]
 have HUA:Hid ((spn enc (asOf (ps.take i))).a=(base:Int)):=by unfold Hid;rw [(spn_a enc _ h'.fit).1,hbl]
 have SP:Hid (∀ w',Below w.heap.size w w'→Calls Tryz.prog 68 #[.agg #[.slice x.p x.n x.c,.int .i64 x.pl,.int .i64 x.sp.a,.int .i64 x.sp.s,.int .i64 x.sp.b,.bool x.sp.lf,.bool x.sp.cr],.int .i64 enc,.int .i64 n] w' fun e w''=>∃ hd rs:It,e=.returned (.tuple #[.agg #[.slice hd.p hd.n hd.c,.int .i64 hd.pl,.int .i64 hd.sp.a,.int .i64 hd.sp.s,.int .i64 hd.sp.b,.bool hd.sp.lf,.bool hd.sp.cr],.agg #[.slice rs.p rs.n rs.c,.int .i64 rs.pl,.int .i64 rs.sp.a,.int .i64 rs.sp.s,.int .i64 rs.sp.b,.bool rs.sp.lf,.bool rs.sp.cr]])∧Hid (hd.sp=spn enc (gx.take n)∧rs.sp=spn enc (gx.drop n))∧Below w'.heap.size w' w''):=fun w' hb=>split_all enc h.en L h.by' (by have:=h.ll;omega) x gx n w' ((h.pc (x,gx) (List.mem_of_getElem? hgx)).ext hb) (by omega) hng
 have HBN:Hid (∀ (S T:Rs),S=spn enc (asOf (ps.take i))→T=spn enc (gx.take n)→0≤S.a∧0≤T.a∧0≤S.s∧0≤T.s∧0≤S.b∧0≤T.b∧S.a + T.a≤9223372036854775807∧S.s + T.s≤9223372036854775807∧S.b + T.b≤9223372036854775807):=by
  intro S T e1 e2
  subst e1 e2
  have k1:=spn_ok enc (asOf (ps.take i))
  have k2:=spn_ok enc (gx.take n)
  have a1:=spn_a enc _ h'.fit
  have a2:=spn_a enc (gx.take n) (fun y hy=>(h.pc (x,gx) (List.mem_of_getElem? hgx)).gr.fit y (List.mem_of_mem_take hy))
  have b1:=spn_b enc (asOf (ps.take i))
  have b2:=spn_b enc (gx.take n)
  have l2:(gx.take n).length≤gx.length:=by rw [List.length_take];omega
  have l3:=ln_ge enc gx
  have l4:=ln_take_drop enc gx n
  have l5:ln enc (asOf (ps.take i))≤65536:=by have h1:=h.sz;rw [eA,ln_app] at h1;omega
  have l6:(asOf (ps.take i)).length≤65536:=by have:=ln_ge enc (asOf (ps.take i));omega
  exact ⟨k1.a0,k2.a0,k1.s0,k2.s0,k1.b0,k2.b0,by rw [a1.1,a2.1];omega,by rw [a1.2,a2.2];omega,by omega⟩
 have HC:Hid (∀ w',Below w.heap.size w w'→w'.cell? ⟨t,0,none⟩=some (.int .i64 enc)∧w'.cell? ⟨t,3,none⟩=some (.pointer u)):=fun w' hb=>⟨(hb.cell (p:=⟨t,0,none⟩) htl).trans c0w,(hb.cell (p:=⟨t,3,none⟩) htl).trans c3w⟩
 have hwm:IntKind.i64.wrap ((m:Int) + 1)=(m:Int) + 1:=by rw [IntKind.wrap_i64];omega
 have hwi:IntKind.i64.wrap (i:Int)=(i:Int):=by rw [IntKind.wrap_i64];omega
 have hwn:IntKind.i64.wrap ((m:Int) - (base:Int))=(n:Int):=by rw [IntKind.wrap_i64];omega
 have hm0':¬ (m:Int)≤0:=by omega
 have hm00:¬ m=0:=by omega
 have hml':¬ ((sh enc ps).length:Int)≤(m:Int):=by omega
 clear h h' hfi hig hgx hng eA eT eD eL ha hbl hbs hn c0w c3w htt hz0 hzl
 generalize (sh enc ps).length=ll at *
 go_enter Tryz.func35,Tryz.ntmps35
 go_upto_region 6 with (first
  | (go_at_call 34;refine LN.out.mono ?_;rintro e w1 ⟨rfl,hb1⟩;have HB1:=hidIt hb1;clear hb1;obtain ⟨c0,c3⟩:=HC.out w1 HB1.out;(try dsimp only))
  | (go_at_call 65;refine (FD.out w1 HB1.out).mono ?_;clear c0 c3;rintro e w2 ⟨rfl,hb2⟩;have HB2:=hidIt (ext_trans HB1.out hb2);clear hb2;obtain ⟨c0,c3⟩:=HC.out w2 HB2.out;(try dsimp only)))
 go_upto_region 7 with (go_at_call 66;refine (AT.out w2 HB2.out).mono ?_;clear c0 c3;rintro e w3 ⟨rfl,hb3⟩;have HB3:=hidIt (ext_trans HB2.out hb3);clear hb3;obtain ⟨c0,c3⟩:=HC.out w3 HB3.out;(try dsimp only))
 obtain ⟨w4,hw4,k6,hb4⟩:∃ w4,w4=w3.alloc (.cells #[.slice x.p x.n x.c,.int .i64 x.pl,.int .i64 x.sp.a,.int .i64 x.sp.s,.int .i64 x.sp.b,.bool x.sp.lf,.bool x.sp.cr] 122)∧BlkI w4 w3.heap.size x∧Below w3.heap.size w3 w4:=⟨_,rfl,heap_alloc_new _ _,ext_alloc (Below.refl _ _) _⟩
 rw [← hw4]
 clear hw4 c0 c3
 have HK6:=hidIt k6
 have HB4:=hidIt (ext_trans HB3.out hb4)
 clear k6 hb4
 obtain ⟨c0,c3⟩:=HC.out w4 HB4.out
 go_upto_region 8 with (go_at_call 67;refine (UP.out w4 HB4.out).mono ?_;clear c0 c3;rintro e w5 ⟨s,hs,rfl,hb5⟩;have HS:=hidIt (hs.out.trans HUS.out);have HK65:=hidIt (HK6.out.ext hb5);have HB5:=hidIt (ext_trans HB4.out hb5);clear hb5 hs;(try dsimp only))
 obtain ⟨w6,hw6,k8,hb6⟩:∃ w6,w6=w5.alloc (.cells #[.int .i64 s.a,.int .i64 s.s,.int .i64 s.b,.bool s.lf,.bool s.cr] 119)∧Blk 119 w6 w5.heap.size s∧Below w5.heap.size w5 w6:=⟨_,rfl,heap_alloc_new _ _,ext_alloc (Below.refl _ _) _⟩
 rw [← hw6]
 clear hw6
 have HK8:=hidIt k8
 have HK66:=hidIt (HK65.out.ext hb6)
 have HB6:=hidIt (ext_trans HB5.out hb6)
 have hwn':IntKind.i64.wrap ((m:Int) - s.a)=(n:Int):=by rw [HS.out,HUA.out];exact hwn
 have HLT:=hidIt (show w3.heap.size < w6.heap.size∧w5.heap.size < w6.heap.size from ⟨HK66.out.lt,k8.lt⟩)
 clear k8 hb6 hwn HK65 HK6
 have HSF:Hid (∀ w',Below w6.heap.size w6 w'→(w'.cell? ⟨w3.heap.size,0,none⟩=some (.slice x.p x.n x.c)∧w'.cell? ⟨w3.heap.size,1,none⟩=some (.int .i64 x.pl)∧w'.cell? ⟨w3.heap.size,2,none⟩=some (.int .i64 x.sp.a)∧w'.cell? ⟨w3.heap.size,3,none⟩=some (.int .i64 x.sp.s)∧w'.cell? ⟨w3.heap.size,4,none⟩=some (.int .i64 x.sp.b)∧w'.cell? ⟨w3.heap.size,5,none⟩=some (.bool x.sp.lf)∧w'.cell? ⟨w3.heap.size,6,none⟩=some (.bool x.sp.cr))∧w'.cell? ⟨t,0,none⟩=some (.int .i64 enc)∧(w'.cell? ⟨w5.heap.size,0,none⟩=some (.int .i64 s.a)∧w'.cell? ⟨w5.heap.size,1,none⟩=some (.int .i64 s.s)∧w'.cell? ⟨w5.heap.size,2,none⟩=some (.int .i64 s.b)∧w'.cell? ⟨w5.heap.size,3,none⟩=some (.bool s.lf)∧w'.cell? ⟨w5.heap.size,4,none⟩=some (.bool s.cr))):=fun w' hb=>⟨(HK66.out.ext hb).cells.1,(HC.out w' (ext_trans HB6.out hb)).1,(HK8.out.ext hb).cells.1⟩
 go_cut [9,10] from 46 to 58 (fun p q wF=>∃ (b9 b10:Nat) (hd rs:It),p=.pointer (some ⟨b9,0,none⟩)∧q=.pointer (some ⟨b10,0,none⟩)∧Hid (hd.sp=spn enc (gx.take n)∧rs.sp=spn enc (gx.drop n))∧Hid (BlkI wF b9 hd∧BlkI wF b10 rs∧w6.heap.size≤b9∧w6.heap.size≤b10∧Below w6.heap.size w6 wF))
 ·have HBc:=hidIt (Below.refl w6.heap.size w6)
  obtain ⟨d7,c0,d5⟩:=HSF.out w6 HBc.out
  refine wp_region_held_drew (S:=fun w''=>(w''.cell? ⟨w3.heap.size,0,none⟩=some (.slice x.p x.n x.c)∧w''.cell? ⟨w3.heap.size,1,none⟩=some (.int .i64 x.pl)∧w''.cell? ⟨w3.heap.size,2,none⟩=some (.int .i64 x.sp.a)∧w''.cell? ⟨w3.heap.size,3,none⟩=some (.int .i64 x.sp.s)∧w''.cell? ⟨w3.heap.size,4,none⟩=some (.int .i64 x.sp.b)∧w''.cell? ⟨w3.heap.size,5,none⟩=some (.bool x.sp.lf)∧w''.cell? ⟨w3.heap.size,6,none⟩=some (.bool x.sp.cr))∧w''.cell? ⟨t,0,none⟩=some (.int .i64 enc)∧(w''.cell? ⟨w5.heap.size,0,none⟩=some (.int .i64 s.a)∧w''.cell? ⟨w5.heap.size,1,none⟩=some (.int .i64 s.s)∧w''.cell? ⟨w5.heap.size,2,none⟩=some (.int .i64 s.b)∧w''.cell? ⟨w5.heap.size,3,none⟩=some (.bool s.lf)∧w''.cell? ⟨w5.heap.size,4,none⟩=some (.bool s.cr))) (by kernel_rfl) (⟨d7,c0,d5⟩) (fun hHeld=>?_)
  refine tkH (v:=?_) 0 rfl ?_ ?_;rotate_left 1
  ·intro wq hSw;(try dsimp only at hSw);go_simp;try (with_reducible rfl)
  try simp only [Act.put,sA1,sA3,sA4,sA5,sA6]
  refine tkH (v:=?_) 1 rfl ?_ ?_;rotate_left 1
  ·intro wq hSw;(try dsimp only at hSw);go_simp;try (with_reducible rfl)
  try simp only [Act.put,sA1,sA2,sA3,sA4,sA5,sA6]
  refine tkH (v:=?_) 2 rfl ?_ ?_;rotate_left 1
  ·intro wq hSw;(try dsimp only at hSw);go_simp;try (with_reducible rfl)
  try simp only [Act.put,sA1,sA2,sA3,sA4,sA5,sA6]
  refine tkH (v:=?_) 3 rfl ?_ ?_;rotate_left 1
  ·intro wq hSw;(try dsimp only at hSw);go_simp;try (with_reducible rfl)
  try simp only [Act.put,sA1,sA2,sA3,sA4,sA5,sA6]
  refine tkH (v:=?_) 4 rfl ?_ ?_;rotate_left 1
  ·intro wq hSw;(try dsimp only at hSw);go_simp;try (with_reducible rfl)
  try simp only [Act.put,sA1,sA2,sA3,sA4,sA5,sA6]
  refine tkH (v:=?_) 5 rfl ?_ ?_;rotate_left 1
  ·intro wq hSw;(try dsimp only at hSw);go_simp;try (with_reducible rfl)
  try simp only [Act.put,sA1,sA2,sA3,sA4,sA5,sA6]
  refine tkH (v:=?_) 6 rfl ?_ ?_;rotate_left 1
  ·intro wq hSw;(try dsimp only at hSw);go_simp;try (with_reducible rfl)
  try simp only [Act.put,sA1,sA2,sA3,sA4,sA5,sA6]
  refine tkH (v:=?_) 7 rfl ?_ ?_;rotate_left 1
  ·intro wq hSw;(try dsimp only at hSw);go_simp;try (with_reducible rfl)
  try simp only [Act.put,sA1,sA2,sA3,sA4,sA5,sA6]
  refine tkH (v:=?_) 8 rfl ?_ ?_;rotate_left 1
  ·intro wq hSw;(try dsimp only at hSw);go_simp;try (with_reducible rfl)
  try simp only [Act.put,sA1,sA2,sA3,sA4,sA5,sA6]
  refine wpAnyH_ready (rs:=[9,13,14]) (by kernel_rfl) (by simp) ?_
  refine (AllReadyH.cons (o:=_) rfl (fun K hK=>?_) (AllReadyH.cons (o:=_) rfl (fun K hK=>?_) (AllReadyH.cons (o:=_) rfl (fun K hK=>?_) AllReadyH.nil)))
  ·skip
   go_simp
   refine (SP.out _ (ext_trans HB6.out HBc.out).drew).mono ?_;(try clear z9 f9 l9);(try clear z10 f10 l10);rintro e y1 ⟨hd,rs,rfl,HSP,hb⟩;have hst:Below w6.heap.size w6 y1:=ext_trans (Below.drew (Below.refl _ _)) hb;clear hb;have HBn:=hidIt (ext_trans HBc.out hst);clear HBc;have HBc:=HBn;clear HBn;clear d7 c0 d5;obtain ⟨d7,c0,d5⟩:=HSF.out y1 HBc.out;(try clear z9 f9 l9);(try clear z10 f10 l10);have sz1:w6.heap.size≤y1.heap.size:=hst.size;clear hst;try dsimp only
   refine hK.out _ _ ?_ (fun hHeld=>?_)
   ·(try simp only [World.cell?_drew]);exact HSF.out y1 HBc.out
   clear hK K
   try simp only [Act.put,sA1,sA2,sA3,sA4,sA5,sA6]
   refine tkH (v:=?_) 10 rfl ?_ ?_;rotate_left 1
   ·intro wq hSw;(try dsimp only at hSw);go_simp;try (with_reducible rfl)
   try simp only [Act.put,sA1,sA2,sA3,sA4,sA5,sA6]
   refine tkH (v:=?_) 11 rfl ?_ ?_;rotate_left 1
   ·intro wq hSw;(try dsimp only at hSw);go_simp;try (with_reducible rfl)
   try simp only [Act.put,sA1,sA2,sA3,sA4,sA5,sA6]
   refine tkH (v:=?_) 12 rfl ?_ ?_;rotate_left 1
   ·intro wq hSw;(try dsimp only at hSw);go_simp;try (with_reducible rfl)
   try simp only [Act.put,sA1,sA2,sA3,sA4,sA5,sA6]
   refine wpAnyH_ready (rs:=[13,14]) (by kernel_rfl) (by simp) ?_
   refine (AllReadyH.cons (o:=_) rfl (fun K hK=>?_) (AllReadyH.cons (o:=_) rfl (fun K hK=>?_) AllReadyH.nil))
   ·skip
    go_simp
    generalize hwN:World.alloc _ _=y2;have hst:Below y1.heap.size y1 y2:=(by rw [← hwN];exact ext_alloc (Below.refl _ _) _);have lb9:w6.heap.size≤y1.heap.size:=HBc.out.size;have HBn:=hidIt (ext_trans HBc.out hst);clear HBc;have HBc:=HBn;clear HBn;have H9:Hid (BlkI y2 y1.heap.size It.zero):=(by unfold Hid;rw [← hwN];exact heap_alloc_new _ _);clear hwN hst;clear d7 c0 d5;obtain ⟨d7,c0,d5⟩:=HSF.out y2 HBc.out;(try clear z9 f9 l9);(try clear z10 f10 l10);obtain ⟨z9,_,f9⟩:=H9.out.cells;have l9:=H9.out.lt;have sz2:y1.heap.size < y2.heap.size:=H9.out.lt
    refine hK.out _ _ ?_ (fun hHeld=>?_)
    ·(try simp only [World.cell?_drew]);exact HSF.out y2 HBc.out
    clear hK K
    try simp only [Act.put,sA1,sA2,sA3,sA4,sA5,sA6]
    refine wpAnyH_ready (rs:=[14]) (by kernel_rfl) (by simp) ?_
    refine AllReadyH.cons (o:=_) rfl (fun K hK=>?_) AllReadyH.nil
    go_simp
    generalize hwN:World.alloc _ _=y3;have hst:Below y2.heap.size y2 y3:=(by rw [← hwN];exact ext_alloc (Below.refl _ _) _);have lb10:w6.heap.size≤y2.heap.size:=HBc.out.size;have HBn:=hidIt (ext_trans HBc.out hst);clear HBc;have HBc:=HBn;clear HBn;have Hn:=hidIt (H9.out.ext hst);clear H9;have H9:=Hn;clear Hn;have H10:Hid (BlkI y3 y2.heap.size It.zero):=(by unfold Hid;rw [← hwN];exact heap_alloc_new _ _);clear hwN hst;clear d7 c0 d5;obtain ⟨d7,c0,d5⟩:=HSF.out y3 HBc.out;(try clear z9 f9 l9);(try clear z10 f10 l10);obtain ⟨z9,_,f9⟩:=H9.out.cells;have l9:=H9.out.lt;obtain ⟨z10,_,f10⟩:=H10.out.cells;have l10:=H10.out.lt;have sz3:y2.heap.size < y3.heap.size:=H10.out.lt
    refine hK.out _ _ ?_ (fun hHeld=>?_)
    ·(try simp only [World.cell?_drew]);exact HSF.out y3 HBc.out
    clear hK K
    try simp only [Act.put,sA1,sA2,sA3,sA4,sA5,sA6]
    refine wpAnyH_ready (rs:=[15]) (by kernel_rfl) (by simp) ?_
    refine AllReadyH.cons (o:=_) rfl (fun K hK=>?_) AllReadyH.nil
    go_simp
    generalize hwN:World.setCell _ _ _=y4;have p2:y3.grownBy y4 (some y1.heap.size):=(by rw [← hwN];exact (H9.out.put hd).2);have p1:BlkI y4 y1.heap.size hd:=(by rw [← hwN];exact (H9.out.put hd).1);(try clear z9 f9 l9);(try clear z10 f10 l10);have Hn:=hidIt (H10.out.other p2 (by omega));clear H10;have H10:=Hn;clear Hn;clear H9;have H9:=hidIt p1;have HBn:=hidIt (below_put HBc.out HBc.out.size p2 lb9);clear HBc;have HBc:=HBn;clear HBn;clear hwN;have sz4:=p2.size;clear p1 p2;clear d7 c0 d5;obtain ⟨d7,c0,d5⟩:=HSF.out y4 HBc.out;(try clear z9 f9 l9);(try clear z10 f10 l10);obtain ⟨z9,_,f9⟩:=H9.out.cells;have l9:=H9.out.lt;obtain ⟨z10,_,f10⟩:=H10.out.cells;have l10:=H10.out.lt;skip
    refine hK.out _ _ ?_ (fun hHeld=>?_)
    ·(try simp only [World.cell?_drew]);exact HSF.out y4 HBc.out
    clear hK K
    try simp only [Act.put,sA1,sA2,sA3,sA4,sA5,sA6]
    refine wpAnyH_ready (rs:=[16]) (by kernel_rfl) (by simp) ?_
    refine AllReadyH.cons (o:=_) rfl (fun K hK=>?_) AllReadyH.nil
    go_simp
    generalize hwN:World.setCell _ _ _=y5;have p2:y4.grownBy y5 (some y2.heap.size):=(by rw [← hwN];exact (H10.out.put rs).2);have p1:BlkI y5 y2.heap.size rs:=(by rw [← hwN];exact (H10.out.put rs).1);(try clear z9 f9 l9);(try clear z10 f10 l10);have Hn:=hidIt (H9.out.other p2 (by omega));clear H9;have H9:=Hn;clear Hn;clear H10;have H10:=hidIt p1;have HBn:=hidIt (below_put HBc.out HBc.out.size p2 lb10);clear HBc;have HBc:=HBn;clear HBn;clear hwN;have sz5:=p2.size;clear p1 p2;clear d7 c0 d5;obtain ⟨d7,c0,d5⟩:=HSF.out y5 HBc.out;(try clear z9 f9 l9);(try clear z10 f10 l10);obtain ⟨z9,_,f9⟩:=H9.out.cells;have l9:=H9.out.lt;obtain ⟨z10,_,f10⟩:=H10.out.cells;have l10:=H10.out.lt;skip
    refine hK.out _ _ ?_ (fun hHeld=>?_)
    ·(try simp only [World.cell?_drew]);exact HSF.out y5 HBc.out
    clear hK K
    try simp only [Act.put,sA1,sA2,sA3,sA4,sA5,sA6]
    refine wpAnyH_done (by kernel_rfl) ?_ _
    go_wp2_with fail
    go_meet
    case rel=>exact ⟨y1.heap.size,y2.heap.size,hd,rs,rfl,rfl,HSP,H9.out,H10.out,lb9,lb10,HBc.out⟩
   ·skip
    go_simp
    generalize hwN:World.alloc _ _=y2;have hst:Below y1.heap.size y1 y2:=(by rw [← hwN];exact ext_alloc (Below.refl _ _) _);have lb10:w6.heap.size≤y1.heap.size:=HBc.out.size;have HBn:=hidIt (ext_trans HBc.out hst);clear HBc;have HBc:=HBn;clear HBn;have H10:Hid (BlkI y2 y1.heap.size It.zero):=(by unfold Hid;rw [← hwN];exact heap_alloc_new _ _);clear hwN hst;clear d7 c0 d5;obtain ⟨d7,c0,d5⟩:=HSF.out y2 HBc.out;(try clear z9 f9 l9);(try clear z10 f10 l10);obtain ⟨z10,_,f10⟩:=H10.out.cells;have l10:=H10.out.lt;have sz2:y1.heap.size < y2.heap.size:=H10.out.lt
    refine hK.out _ _ ?_ (fun hHeld=>?_)
    ·(try simp only [World.cell?_drew]);exact HSF.out y2 HBc.out
    clear hK K
    try simp only [Act.put,sA1,sA2,sA3,sA4,sA5,sA6]
    refine wpAnyH_ready (rs:=[13]) (by kernel_rfl) (by simp) ?_
    refine AllReadyH.cons (o:=_) rfl (fun K hK=>?_) AllReadyH.nil
    go_simp
    generalize hwN:World.alloc _ _=y3;have hst:Below y2.heap.size y2 y3:=(by rw [← hwN];exact ext_alloc (Below.refl _ _) _);have lb9:w6.heap.size≤y2.heap.size:=HBc.out.size;have HBn:=hidIt (ext_trans HBc.out hst);clear HBc;have HBc:=HBn;clear HBn;have Hn:=hidIt (H10.out.ext hst);clear H10;have H10:=Hn;clear Hn;have H9:Hid (BlkI y3 y2.heap.size It.zero):=(by unfold Hid;rw [← hwN];exact heap_alloc_new _ _);clear hwN hst;clear d7 c0 d5;obtain ⟨d7,c0,d5⟩:=HSF.out y3 HBc.out;(try clear z9 f9 l9);(try clear z10 f10 l10);obtain ⟨z9,_,f9⟩:=H9.out.cells;have l9:=H9.out.lt;obtain ⟨z10,_,f10⟩:=H10.out.cells;have l10:=H10.out.lt;have sz3:y2.heap.size < y3.heap.size:=H9.out.lt
    refine hK.out _ _ ?_ (fun hHeld=>?_)
    ·(try simp only [World.cell?_drew]);exact HSF.out y3 HBc.out
    clear hK K
    try simp only [Act.put,sA1,sA2,sA3,sA4,sA5,sA6]
    refine wpAnyH_ready (rs:=[15]) (by kernel_rfl) (by simp) ?_
    refine AllReadyH.cons (o:=_) rfl (fun K hK=>?_) AllReadyH.nil
    go_simp
    generalize hwN:World.setCell _ _ _=y4;have p2:y3.grownBy y4 (some y2.heap.size):=(by rw [← hwN];exact (H9.out.put hd).2);have p1:BlkI y4 y2.heap.size hd:=(by rw [← hwN];exact (H9.out.put hd).1);(try clear z9 f9 l9);(try clear z10 f10 l10);have Hn:=hidIt (H10.out.other p2 (by omega));clear H10;have H10:=Hn;clear Hn;clear H9;have H9:=hidIt p1;have HBn:=hidIt (below_put HBc.out HBc.out.size p2 lb9);clear HBc;have HBc:=HBn;clear HBn;clear hwN;have sz4:=p2.size;clear p1 p2;clear d7 c0 d5;obtain ⟨d7,c0,d5⟩:=HSF.out y4 HBc.out;(try clear z9 f9 l9);(try clear z10 f10 l10);obtain ⟨z9,_,f9⟩:=H9.out.cells;have l9:=H9.out.lt;obtain ⟨z10,_,f10⟩:=H10.out.cells;have l10:=H10.out.lt;skip
    refine hK.out _ _ ?_ (fun hHeld=>?_)
    ·(try simp only [World.cell?_drew]);exact HSF.out y4 HBc.out
    clear hK K
    try simp only [Act.put,sA1,sA2,sA3,sA4,sA5,sA6]
    refine wpAnyH_ready (rs:=[16]) (by kernel_rfl) (by simp) ?_
    refine AllReadyH.cons (o:=_) rfl (fun K hK=>?_) AllReadyH.nil
    go_simp
    generalize hwN:World.setCell _ _ _=y5;have p2:y4.grownBy y5 (some y1.heap.size):=(by rw [← hwN];exact (H10.out.put rs).2);have p1:BlkI y5 y1.heap.size rs:=(by rw [← hwN];exact (H10.out.put rs).1);(try clear z9 f9 l9);(try clear z10 f10 l10);have Hn:=hidIt (H9.out.other p2 (by omega));clear H9;have H9:=Hn;clear Hn;clear H10;have H10:=hidIt p1;have HBn:=hidIt (below_put HBc.out HBc.out.size p2 lb10);clear HBc;have HBc:=HBn;clear HBn;clear hwN;have sz5:=p2.size;clear p1 p2;clear d7 c0 d5;obtain ⟨d7,c0,d5⟩:=HSF.out y5 HBc.out;(try clear z9 f9 l9);(try clear z10 f10 l10);obtain ⟨z9,_,f9⟩:=H9.out.cells;have l9:=H9.out.lt;obtain ⟨z10,_,f10⟩:=H10.out.cells;have l10:=H10.out.lt;skip
    refine hK.out _ _ ?_ (fun hHeld=>?_)
    ·(try simp only [World.cell?_drew]);exact HSF.out y5 HBc.out
    clear hK K
    try simp only [Act.put,sA1,sA2,sA3,sA4,sA5,sA6]
    refine wpAnyH_done (by kernel_rfl) ?_ _
    go_wp2_with fail
    go_meet
    case rel=>exact ⟨y2.heap.size,y1.heap.size,hd,rs,rfl,rfl,HSP,H9.out,H10.out,lb9,lb10,HBc.out⟩
  ·skip
   go_simp
   generalize hwN:World.alloc _ _=y1;have hst:Below w6.heap.size w6 y1:=(by rw [← hwN];exact ext_alloc (Below.refl _ _) _);have lb9:w6.heap.size≤w6.heap.size:=HBc.out.size;have HBn:=hidIt (ext_trans HBc.out hst);clear HBc;have HBc:=HBn;clear HBn;have H9:Hid (BlkI y1 w6.heap.size It.zero):=(by unfold Hid;rw [← hwN];exact heap_alloc_new _ _);clear hwN hst;clear d7 c0 d5;obtain ⟨d7,c0,d5⟩:=HSF.out y1 HBc.out;(try clear z9 f9 l9);(try clear z10 f10 l10);obtain ⟨z9,_,f9⟩:=H9.out.cells;have l9:=H9.out.lt;have sz1:w6.heap.size < y1.heap.size:=H9.out.lt
   refine hK.out _ _ ?_ (fun hHeld=>?_)
   ·(try simp only [World.cell?_drew]);exact HSF.out y1 HBc.out
   clear hK K
   try simp only [Act.put,sA1,sA2,sA3,sA4,sA5,sA6]
   refine wpAnyH_ready (rs:=[9,14]) (by kernel_rfl) (by simp) ?_
   refine (AllReadyH.cons (o:=_) rfl (fun K hK=>?_) (AllReadyH.cons (o:=_) rfl (fun K hK=>?_) AllReadyH.nil))
   ·skip
    go_simp
    refine (SP.out _ (ext_trans HB6.out HBc.out).drew).mono ?_;(try clear z9 f9 l9);(try clear z10 f10 l10);rintro e y2 ⟨hd,rs,rfl,HSP,hb⟩;have hst:Below y1.heap.size y1 y2:=ext_trans (Below.drew (Below.refl _ _)) hb;clear hb;have HBn:=hidIt (ext_trans HBc.out hst);clear HBc;have HBc:=HBn;clear HBn;have Hn:=hidIt (H9.out.ext hst);clear H9;have H9:=Hn;clear Hn;clear d7 c0 d5;obtain ⟨d7,c0,d5⟩:=HSF.out y2 HBc.out;(try clear z9 f9 l9);(try clear z10 f10 l10);obtain ⟨z9,_,f9⟩:=H9.out.cells;have l9:=H9.out.lt;have sz2:y1.heap.size≤y2.heap.size:=hst.size;clear hst;try dsimp only
    refine hK.out _ _ ?_ (fun hHeld=>?_)
    ·(try simp only [World.cell?_drew]);exact HSF.out y2 HBc.out
    clear hK K
    try simp only [Act.put,sA1,sA2,sA3,sA4,sA5,sA6]
    refine tkH (v:=?_) 10 rfl ?_ ?_;rotate_left 1
    ·intro wq hSw;(try dsimp only at hSw);go_simp;try (with_reducible rfl)
    try simp only [Act.put,sA1,sA2,sA3,sA4,sA5,sA6]
    refine tkH (v:=?_) 11 rfl ?_ ?_;rotate_left 1
    ·intro wq hSw;(try dsimp only at hSw);go_simp;try (with_reducible rfl)
    try simp only [Act.put,sA1,sA2,sA3,sA4,sA5,sA6]
    refine tkH (v:=?_) 12 rfl ?_ ?_;rotate_left 1
    ·intro wq hSw;(try dsimp only at hSw);go_simp;try (with_reducible rfl)
    try simp only [Act.put,sA1,sA2,sA3,sA4,sA5,sA6]
    refine wpAnyH_ready (rs:=[14]) (by kernel_rfl) (by simp) ?_
    refine AllReadyH.cons (o:=_) rfl (fun K hK=>?_) AllReadyH.nil
    go_simp
    generalize hwN:World.alloc _ _=y3;have hst:Below y2.heap.size y2 y3:=(by rw [← hwN];exact ext_alloc (Below.refl _ _) _);have lb10:w6.heap.size≤y2.heap.size:=HBc.out.size;have HBn:=hidIt (ext_trans HBc.out hst);clear HBc;have HBc:=HBn;clear HBn;have Hn:=hidIt (H9.out.ext hst);clear H9;have H9:=Hn;clear Hn;have H10:Hid (BlkI y3 y2.heap.size It.zero):=(by unfold Hid;rw [← hwN];exact heap_alloc_new _ _);clear hwN hst;clear d7 c0 d5;obtain ⟨d7,c0,d5⟩:=HSF.out y3 HBc.out;(try clear z9 f9 l9);(try clear z10 f10 l10);obtain ⟨z9,_,f9⟩:=H9.out.cells;have l9:=H9.out.lt;obtain ⟨z10,_,f10⟩:=H10.out.cells;have l10:=H10.out.lt;have sz3:y2.heap.size < y3.heap.size:=H10.out.lt
    refine hK.out _ _ ?_ (fun hHeld=>?_)
    ·(try simp only [World.cell?_drew]);exact HSF.out y3 HBc.out
    clear hK K
    try simp only [Act.put,sA1,sA2,sA3,sA4,sA5,sA6]
    refine wpAnyH_ready (rs:=[15]) (by kernel_rfl) (by simp) ?_
    refine AllReadyH.cons (o:=_) rfl (fun K hK=>?_) AllReadyH.nil
    go_simp
    generalize hwN:World.setCell _ _ _=y4;have p2:y3.grownBy y4 (some w6.heap.size):=(by rw [← hwN];exact (H9.out.put hd).2);have p1:BlkI y4 w6.heap.size hd:=(by rw [← hwN];exact (H9.out.put hd).1);(try clear z9 f9 l9);(try clear z10 f10 l10);have Hn:=hidIt (H10.out.other p2 (by omega));clear H10;have H10:=Hn;clear Hn;clear H9;have H9:=hidIt p1;have HBn:=hidIt (below_put HBc.out HBc.out.size p2 lb9);clear HBc;have HBc:=HBn;clear HBn;clear hwN;have sz4:=p2.size;clear p1 p2;clear d7 c0 d5;obtain ⟨d7,c0,d5⟩:=HSF.out y4 HBc.out;(try clear z9 f9 l9);(try clear z10 f10 l10);obtain ⟨z9,_,f9⟩:=H9.out.cells;have l9:=H9.out.lt;obtain ⟨z10,_,f10⟩:=H10.out.cells;have l10:=H10.out.lt;skip
    refine hK.out _ _ ?_ (fun hHeld=>?_)
    ·(try simp only [World.cell?_drew]);exact HSF.out y4 HBc.out
    clear hK K
    try simp only [Act.put,sA1,sA2,sA3,sA4,sA5,sA6]
    refine wpAnyH_ready (rs:=[16]) (by kernel_rfl) (by simp) ?_
    refine AllReadyH.cons (o:=_) rfl (fun K hK=>?_) AllReadyH.nil
    go_simp
    generalize hwN:World.setCell _ _ _=y5;have p2:y4.grownBy y5 (some y2.heap.size):=(by rw [← hwN];exact (H10.out.put rs).2);have p1:BlkI y5 y2.heap.size rs:=(by rw [← hwN];exact (H10.out.put rs).1);(try clear z9 f9 l9);(try clear z10 f10 l10);have Hn:=hidIt (H9.out.other p2 (by omega));clear H9;have H9:=Hn;clear Hn;clear H10;have H10:=hidIt p1;have HBn:=hidIt (below_put HBc.out HBc.out.size p2 lb10);clear HBc;have HBc:=HBn;clear HBn;clear hwN;have sz5:=p2.size;clear p1 p2;clear d7 c0 d5;obtain ⟨d7,c0,d5⟩:=HSF.out y5 HBc.out;(try clear z9 f9 l9);(try clear z10 f10 l10);obtain ⟨z9,_,f9⟩:=H9.out.cells;have l9:=H9.out.lt;obtain ⟨z10,_,f10⟩:=H10.out.cells;have l10:=H10.out.lt;skip
    refine hK.out _ _ ?_ (fun hHeld=>?_)
    ·(try simp only [World.cell?_drew]);exact HSF.out y5 HBc.out
    clear hK K
    try simp only [Act.put,sA1,sA2,sA3,sA4,sA5,sA6]
    refine wpAnyH_done (by kernel_rfl) ?_ _
    go_wp2_with fail
    go_meet
    case rel=>exact ⟨w6.heap.size,y2.heap.size,hd,rs,rfl,rfl,HSP,H9.out,H10.out,lb9,lb10,HBc.out⟩
   ·skip
    go_simp
    generalize hwN:World.alloc _ _=y2;have hst:Below y1.heap.size y1 y2:=(by rw [← hwN];exact ext_alloc (Below.refl _ _) _);have lb10:w6.heap.size≤y1.heap.size:=HBc.out.size;have HBn:=hidIt (ext_trans HBc.out hst);clear HBc;have HBc:=HBn;clear HBn;have Hn:=hidIt (H9.out.ext hst);clear H9;have H9:=Hn;clear Hn;have H10:Hid (BlkI y2 y1.heap.size It.zero):=(by unfold Hid;rw [← hwN];exact heap_alloc_new _ _);clear hwN hst;clear d7 c0 d5;obtain ⟨d7,c0,d5⟩:=HSF.out y2 HBc.out;(try clear z9 f9 l9);(try clear z10 f10 l10);obtain ⟨z9,_,f9⟩:=H9.out.cells;have l9:=H9.out.lt;obtain ⟨z10,_,f10⟩:=H10.out.cells;have l10:=H10.out.lt;have sz2:y1.heap.size < y2.heap.size:=H10.out.lt
    refine hK.out _ _ ?_ (fun hHeld=>?_)
    ·(try simp only [World.cell?_drew]);exact HSF.out y2 HBc.out
    clear hK K
    try simp only [Act.put,sA1,sA2,sA3,sA4,sA5,sA6]
    refine wpAnyH_ready (rs:=[9]) (by kernel_rfl) (by simp) ?_
    refine AllReadyH.cons (o:=_) rfl (fun K hK=>?_) AllReadyH.nil
    go_simp
    refine (SP.out _ (ext_trans HB6.out HBc.out).drew).mono ?_;(try clear z9 f9 l9);(try clear z10 f10 l10);rintro e y3 ⟨hd,rs,rfl,HSP,hb⟩;have hst:Below y2.heap.size y2 y3:=ext_trans (Below.drew (Below.refl _ _)) hb;clear hb;have HBn:=hidIt (ext_trans HBc.out hst);clear HBc;have HBc:=HBn;clear HBn;have Hn:=hidIt (H9.out.ext hst);clear H9;have H9:=Hn;clear Hn;have Hn:=hidIt (H10.out.ext hst);clear H10;have H10:=Hn;clear Hn;clear d7 c0 d5;obtain ⟨d7,c0,d5⟩:=HSF.out y3 HBc.out;(try clear z9 f9 l9);(try clear z10 f10 l10);obtain ⟨z9,_,f9⟩:=H9.out.cells;have l9:=H9.out.lt;obtain ⟨z10,_,f10⟩:=H10.out.cells;have l10:=H10.out.lt;have sz3:y2.heap.size≤y3.heap.size:=hst.size;clear hst;try dsimp only
    refine hK.out _ _ ?_ (fun hHeld=>?_)
    ·(try simp only [World.cell?_drew]);exact HSF.out y3 HBc.out
    clear hK K
    try simp only [Act.put,sA1,sA2,sA3,sA4,sA5,sA6]
    refine tkH (v:=?_) 10 rfl ?_ ?_;rotate_left 1
    ·intro wq hSw;(try dsimp only at hSw);go_simp;try (with_reducible rfl)
    try simp only [Act.put,sA1,sA2,sA3,sA4,sA5,sA6]
    refine tkH (v:=?_) 11 rfl ?_ ?_;rotate_left 1
    ·intro wq hSw;(try dsimp only at hSw);go_simp;try (with_reducible rfl)
    try simp only [Act.put,sA1,sA2,sA3,sA4,sA5,sA6]
    refine tkH (v:=?_) 12 rfl ?_ ?_;rotate_left 1
    ·intro wq hSw;(try dsimp only at hSw);go_simp;try (with_reducible rfl)
    try simp only [Act.put,sA1,sA2,sA3,sA4,sA5,sA6]
    refine wpAnyH_ready (rs:=[15]) (by kernel_rfl) (by simp) ?_
    refine AllReadyH.cons (o:=_) rfl (fun K hK=>?_) AllReadyH.nil
    go_simp
    generalize hwN:World.setCell _ _ _=y4;have p2:y3.grownBy y4 (some w6.heap.size):=(by rw [← hwN];exact (H9.out.put hd).2);have p1:BlkI y4 w6.heap.size hd:=(by rw [← hwN];exact (H9.out.put hd).1);(try clear z9 f9 l9);(try clear z10 f10 l10);have Hn:=hidIt (H10.out.other p2 (by omega));clear H10;have H10:=Hn;clear Hn;clear H9;have H9:=hidIt p1;have HBn:=hidIt (below_put HBc.out HBc.out.size p2 lb9);clear HBc;have HBc:=HBn;clear HBn;clear hwN;have sz4:=p2.size;clear p1 p2;clear d7 c0 d5;obtain ⟨d7,c0,d5⟩:=HSF.out y4 HBc.out;(try clear z9 f9 l9);(try clear z10 f10 l10);obtain ⟨z9,_,f9⟩:=H9.out.cells;have l9:=H9.out.lt;obtain ⟨z10,_,f10⟩:=H10.out.cells;have l10:=H10.out.lt;skip
    refine hK.out _ _ ?_ (fun hHeld=>?_)
    ·(try simp only [World.cell?_drew]);exact HSF.out y4 HBc.out
    clear hK K
    try simp only [Act.put,sA1,sA2,sA3,sA4,sA5,sA6]
    refine wpAnyH_ready (rs:=[16]) (by kernel_rfl) (by simp) ?_
    refine AllReadyH.cons (o:=_) rfl (fun K hK=>?_) AllReadyH.nil
    go_simp
    generalize hwN:World.setCell _ _ _=y5;have p2:y4.grownBy y5 (some y1.heap.size):=(by rw [← hwN];exact (H10.out.put rs).2);have p1:BlkI y5 y1.heap.size rs:=(by rw [← hwN];exact (H10.out.put rs).1);(try clear z9 f9 l9);(try clear z10 f10 l10);have Hn:=hidIt (H9.out.other p2 (by omega));clear H9;have H9:=Hn;clear Hn;clear H10;have H10:=hidIt p1;have HBn:=hidIt (below_put HBc.out HBc.out.size p2 lb10);clear HBc;have HBc:=HBn;clear HBn;clear hwN;have sz5:=p2.size;clear p1 p2;clear d7 c0 d5;obtain ⟨d7,c0,d5⟩:=HSF.out y5 HBc.out;(try clear z9 f9 l9);(try clear z10 f10 l10);obtain ⟨z9,_,f9⟩:=H9.out.cells;have l9:=H9.out.lt;obtain ⟨z10,_,f10⟩:=H10.out.cells;have l10:=H10.out.lt;skip
    refine hK.out _ _ ?_ (fun hHeld=>?_)
    ·(try simp only [World.cell?_drew]);exact HSF.out y5 HBc.out
    clear hK K
    try simp only [Act.put,sA1,sA2,sA3,sA4,sA5,sA6]
    refine wpAnyH_done (by kernel_rfl) ?_ _
    go_wp2_with fail
    go_meet
    case rel=>exact ⟨w6.heap.size,y1.heap.size,hd,rs,rfl,rfl,HSP,H9.out,H10.out,lb9,lb10,HBc.out⟩
  ·skip
   go_simp
   generalize hwN:World.alloc _ _=y1;have hst:Below w6.heap.size w6 y1:=(by rw [← hwN];exact ext_alloc (Below.refl _ _) _);have lb10:w6.heap.size≤w6.heap.size:=HBc.out.size;have HBn:=hidIt (ext_trans HBc.out hst);clear HBc;have HBc:=HBn;clear HBn;have H10:Hid (BlkI y1 w6.heap.size It.zero):=(by unfold Hid;rw [← hwN];exact heap_alloc_new _ _);clear hwN hst;clear d7 c0 d5;obtain ⟨d7,c0,d5⟩:=HSF.out y1 HBc.out;(try clear z9 f9 l9);(try clear z10 f10 l10);obtain ⟨z10,_,f10⟩:=H10.out.cells;have l10:=H10.out.lt;have sz1:w6.heap.size < y1.heap.size:=H10.out.lt
   refine hK.out _ _ ?_ (fun hHeld=>?_)
   ·(try simp only [World.cell?_drew]);exact HSF.out y1 HBc.out
   clear hK K
   try simp only [Act.put,sA1,sA2,sA3,sA4,sA5,sA6]
   refine wpAnyH_ready (rs:=[9,13]) (by kernel_rfl) (by simp) ?_
   refine (AllReadyH.cons (o:=_) rfl (fun K hK=>?_) (AllReadyH.cons (o:=_) rfl (fun K hK=>?_) AllReadyH.nil))
   ·skip
    go_simp
    refine (SP.out _ (ext_trans HB6.out HBc.out).drew).mono ?_;(try clear z9 f9 l9);(try clear z10 f10 l10);rintro e y2 ⟨hd,rs,rfl,HSP,hb⟩;have hst:Below y1.heap.size y1 y2:=ext_trans (Below.drew (Below.refl _ _)) hb;clear hb;have HBn:=hidIt (ext_trans HBc.out hst);clear HBc;have HBc:=HBn;clear HBn;have Hn:=hidIt (H10.out.ext hst);clear H10;have H10:=Hn;clear Hn;clear d7 c0 d5;obtain ⟨d7,c0,d5⟩:=HSF.out y2 HBc.out;(try clear z9 f9 l9);(try clear z10 f10 l10);obtain ⟨z10,_,f10⟩:=H10.out.cells;have l10:=H10.out.lt;have sz2:y1.heap.size≤y2.heap.size:=hst.size;clear hst;try dsimp only
    refine hK.out _ _ ?_ (fun hHeld=>?_)
    ·(try simp only [World.cell?_drew]);exact HSF.out y2 HBc.out
    clear hK K
    try simp only [Act.put,sA1,sA2,sA3,sA4,sA5,sA6]
    refine tkH (v:=?_) 10 rfl ?_ ?_;rotate_left 1
    ·intro wq hSw;(try dsimp only at hSw);go_simp;try (with_reducible rfl)
    try simp only [Act.put,sA1,sA2,sA3,sA4,sA5,sA6]
    refine tkH (v:=?_) 11 rfl ?_ ?_;rotate_left 1
    ·intro wq hSw;(try dsimp only at hSw);go_simp;try (with_reducible rfl)
    try simp only [Act.put,sA1,sA2,sA3,sA4,sA5,sA6]
    refine tkH (v:=?_) 12 rfl ?_ ?_;rotate_left 1
    ·intro wq hSw;(try dsimp only at hSw);go_simp;try (with_reducible rfl)
    try simp only [Act.put,sA1,sA2,sA3,sA4,sA5,sA6]
    refine wpAnyH_ready (rs:=[13]) (by kernel_rfl) (by simp) ?_
    refine AllReadyH.cons (o:=_) rfl (fun K hK=>?_) AllReadyH.nil
    go_simp
    generalize hwN:World.alloc _ _=y3;have hst:Below y2.heap.size y2 y3:=(by rw [← hwN];exact ext_alloc (Below.refl _ _) _);have lb9:w6.heap.size≤y2.heap.size:=HBc.out.size;have HBn:=hidIt (ext_trans HBc.out hst);clear HBc;have HBc:=HBn;clear HBn;have Hn:=hidIt (H10.out.ext hst);clear H10;have H10:=Hn;clear Hn;have H9:Hid (BlkI y3 y2.heap.size It.zero):=(by unfold Hid;rw [← hwN];exact heap_alloc_new _ _);clear hwN hst;clear d7 c0 d5;obtain ⟨d7,c0,d5⟩:=HSF.out y3 HBc.out;(try clear z9 f9 l9);(try clear z10 f10 l10);obtain ⟨z9,_,f9⟩:=H9.out.cells;have l9:=H9.out.lt;obtain ⟨z10,_,f10⟩:=H10.out.cells;have l10:=H10.out.lt;have sz3:y2.heap.size < y3.heap.size:=H9.out.lt
    refine hK.out _ _ ?_ (fun hHeld=>?_)
    ·(try simp only [World.cell?_drew]);exact HSF.out y3 HBc.out
    clear hK K
    try simp only [Act.put,sA1,sA2,sA3,sA4,sA5,sA6]
    refine wpAnyH_ready (rs:=[15]) (by kernel_rfl) (by simp) ?_
    refine AllReadyH.cons (o:=_) rfl (fun K hK=>?_) AllReadyH.nil
    go_simp
    generalize hwN:World.setCell _ _ _=y4;have p2:y3.grownBy y4 (some y2.heap.size):=(by rw [← hwN];exact (H9.out.put hd).2);have p1:BlkI y4 y2.heap.size hd:=(by rw [← hwN];exact (H9.out.put hd).1);(try clear z9 f9 l9);(try clear z10 f10 l10);have Hn:=hidIt (H10.out.other p2 (by omega));clear H10;have H10:=Hn;clear Hn;clear H9;have H9:=hidIt p1;have HBn:=hidIt (below_put HBc.out HBc.out.size p2 lb9);clear HBc;have HBc:=HBn;clear HBn;clear hwN;have sz4:=p2.size;clear p1 p2;clear d7 c0 d5;obtain ⟨d7,c0,d5⟩:=HSF.out y4 HBc.out;(try clear z9 f9 l9);(try clear z10 f10 l10);obtain ⟨z9,_,f9⟩:=H9.out.cells;have l9:=H9.out.lt;obtain ⟨z10,_,f10⟩:=H10.out.cells;have l10:=H10.out.lt;skip
    refine hK.out _ _ ?_ (fun hHeld=>?_)
    ·(try simp only [World.cell?_drew]);exact HSF.out y4 HBc.out
    clear hK K
    try simp only [Act.put,sA1,sA2,sA3,sA4,sA5,sA6]
    refine wpAnyH_ready (rs:=[16]) (by kernel_rfl) (by simp) ?_
    refine AllReadyH.cons (o:=_) rfl (fun K hK=>?_) AllReadyH.nil
    go_simp
    generalize hwN:World.setCell _ _ _=y5;have p2:y4.grownBy y5 (some w6.heap.size):=(by rw [← hwN];exact (H10.out.put rs).2);have p1:BlkI y5 w6.heap.size rs:=(by rw [← hwN];exact (H10.out.put rs).1);(try clear z9 f9 l9);(try clear z10 f10 l10);have Hn:=hidIt (H9.out.other p2 (by omega));clear H9;have H9:=Hn;clear Hn;clear H10;have H10:=hidIt p1;have HBn:=hidIt (below_put HBc.out HBc.out.size p2 lb10);clear HBc;have HBc:=HBn;clear HBn;clear hwN;have sz5:=p2.size;clear p1 p2;clear d7 c0 d5;obtain ⟨d7,c0,d5⟩:=HSF.out y5 HBc.out;(try clear z9 f9 l9);(try clear z10 f10 l10);obtain ⟨z9,_,f9⟩:=H9.out.cells;have l9:=H9.out.lt;obtain ⟨z10,_,f10⟩:=H10.out.cells;have l10:=H10.out.lt;skip
    refine hK.out _ _ ?_ (fun hHeld=>?_)
    ·(try simp only [World.cell?_drew]);exact HSF.out y5 HBc.out
    clear hK K
    try simp only [Act.put,sA1,sA2,sA3,sA4,sA5,sA6]
    refine wpAnyH_done (by kernel_rfl) ?_ _
    go_wp2_with fail
    go_meet
    case rel=>exact ⟨y2.heap.size,w6.heap.size,hd,rs,rfl,rfl,HSP,H9.out,H10.out,lb9,lb10,HBc.out⟩
   ·skip
    go_simp
    generalize hwN:World.alloc _ _=y2;have hst:Below y1.heap.size y1 y2:=(by rw [← hwN];exact ext_alloc (Below.refl _ _) _);have lb9:w6.heap.size≤y1.heap.size:=HBc.out.size;have HBn:=hidIt (ext_trans HBc.out hst);clear HBc;have HBc:=HBn;clear HBn;have Hn:=hidIt (H10.out.ext hst);clear H10;have H10:=Hn;clear Hn;have H9:Hid (BlkI y2 y1.heap.size It.zero):=(by unfold Hid;rw [← hwN];exact heap_alloc_new _ _);clear hwN hst;clear d7 c0 d5;obtain ⟨d7,c0,d5⟩:=HSF.out y2 HBc.out;(try clear z9 f9 l9);(try clear z10 f10 l10);obtain ⟨z9,_,f9⟩:=H9.out.cells;have l9:=H9.out.lt;obtain ⟨z10,_,f10⟩:=H10.out.cells;have l10:=H10.out.lt;have sz2:y1.heap.size < y2.heap.size:=H9.out.lt
    refine hK.out _ _ ?_ (fun hHeld=>?_)
    ·(try simp only [World.cell?_drew]);exact HSF.out y2 HBc.out
    clear hK K
    try simp only [Act.put,sA1,sA2,sA3,sA4,sA5,sA6]
    refine wpAnyH_ready (rs:=[9]) (by kernel_rfl) (by simp) ?_
    refine AllReadyH.cons (o:=_) rfl (fun K hK=>?_) AllReadyH.nil
    go_simp
    refine (SP.out _ (ext_trans HB6.out HBc.out).drew).mono ?_;(try clear z9 f9 l9);(try clear z10 f10 l10);rintro e y3 ⟨hd,rs,rfl,HSP,hb⟩;have hst:Below y2.heap.size y2 y3:=ext_trans (Below.drew (Below.refl _ _)) hb;clear hb;have HBn:=hidIt (ext_trans HBc.out hst);clear HBc;have HBc:=HBn;clear HBn;have Hn:=hidIt (H9.out.ext hst);clear H9;have H9:=Hn;clear Hn;have Hn:=hidIt (H10.out.ext hst);clear H10;have H10:=Hn;clear Hn;clear d7 c0 d5;obtain ⟨d7,c0,d5⟩:=HSF.out y3 HBc.out;(try clear z9 f9 l9);(try clear z10 f10 l10);obtain ⟨z9,_,f9⟩:=H9.out.cells;have l9:=H9.out.lt;obtain ⟨z10,_,f10⟩:=H10.out.cells;have l10:=H10.out.lt;have sz3:y2.heap.size≤y3.heap.size:=hst.size;clear hst;try dsimp only
    refine hK.out _ _ ?_ (fun hHeld=>?_)
    ·(try simp only [World.cell?_drew]);exact HSF.out y3 HBc.out
    clear hK K
    try simp only [Act.put,sA1,sA2,sA3,sA4,sA5,sA6]
    refine tkH (v:=?_) 10 rfl ?_ ?_;rotate_left 1
    ·intro wq hSw;(try dsimp only at hSw);go_simp;try (with_reducible rfl)
    try simp only [Act.put,sA1,sA2,sA3,sA4,sA5,sA6]
    refine tkH (v:=?_) 11 rfl ?_ ?_;rotate_left 1
    ·intro wq hSw;(try dsimp only at hSw);go_simp;try (with_reducible rfl)
    try simp only [Act.put,sA1,sA2,sA3,sA4,sA5,sA6]
    refine tkH (v:=?_) 12 rfl ?_ ?_;rotate_left 1
    ·intro wq hSw;(try dsimp only at hSw);go_simp;try (with_reducible rfl)
    try simp only [Act.put,sA1,sA2,sA3,sA4,sA5,sA6]
    refine wpAnyH_ready (rs:=[15]) (by kernel_rfl) (by simp) ?_
    refine AllReadyH.cons (o:=_) rfl (fun K hK=>?_) AllReadyH.nil
    go_simp
    generalize hwN:World.setCell _ _ _=y4;have p2:y3.grownBy y4 (some y1.heap.size):=(by rw [← hwN];exact (H9.out.put hd).2);have p1:BlkI y4 y1.heap.size hd:=(by rw [← hwN];exact (H9.out.put hd).1);(try clear z9 f9 l9);(try clear z10 f10 l10);have Hn:=hidIt (H10.out.other p2 (by omega));clear H10;have H10:=Hn;clear Hn;clear H9;have H9:=hidIt p1;have HBn:=hidIt (below_put HBc.out HBc.out.size p2 lb9);clear HBc;have HBc:=HBn;clear HBn;clear hwN;have sz4:=p2.size;clear p1 p2;clear d7 c0 d5;obtain ⟨d7,c0,d5⟩:=HSF.out y4 HBc.out;(try clear z9 f9 l9);(try clear z10 f10 l10);obtain ⟨z9,_,f9⟩:=H9.out.cells;have l9:=H9.out.lt;obtain ⟨z10,_,f10⟩:=H10.out.cells;have l10:=H10.out.lt;skip
    refine hK.out _ _ ?_ (fun hHeld=>?_)
    ·(try simp only [World.cell?_drew]);exact HSF.out y4 HBc.out
    clear hK K
    try simp only [Act.put,sA1,sA2,sA3,sA4,sA5,sA6]
    refine wpAnyH_ready (rs:=[16]) (by kernel_rfl) (by simp) ?_
    refine AllReadyH.cons (o:=_) rfl (fun K hK=>?_) AllReadyH.nil
    go_simp
    generalize hwN:World.setCell _ _ _=y5;have p2:y4.grownBy y5 (some w6.heap.size):=(by rw [← hwN];exact (H10.out.put rs).2);have p1:BlkI y5 w6.heap.size rs:=(by rw [← hwN];exact (H10.out.put rs).1);(try clear z9 f9 l9);(try clear z10 f10 l10);have Hn:=hidIt (H9.out.other p2 (by omega));clear H9;have H9:=Hn;clear Hn;clear H10;have H10:=hidIt p1;have HBn:=hidIt (below_put HBc.out HBc.out.size p2 lb10);clear HBc;have HBc:=HBn;clear HBn;clear hwN;have sz5:=p2.size;clear p1 p2;clear d7 c0 d5;obtain ⟨d7,c0,d5⟩:=HSF.out y5 HBc.out;(try clear z9 f9 l9);(try clear z10 f10 l10);obtain ⟨z9,_,f9⟩:=H9.out.cells;have l9:=H9.out.lt;obtain ⟨z10,_,f10⟩:=H10.out.cells;have l10:=H10.out.lt;skip
    refine hK.out _ _ ?_ (fun hHeld=>?_)
    ·(try simp only [World.cell?_drew]);exact HSF.out y5 HBc.out
    clear hK K
    try simp only [Act.put,sA1,sA2,sA3,sA4,sA5,sA6]
    refine wpAnyH_done (by kernel_rfl) ?_ _
    go_wp2_with fail
    go_meet
    case rel=>exact ⟨y1.heap.size,w6.heap.size,hd,rs,rfl,rfl,HSP,H9.out,H10.out,lb9,lb10,HBc.out⟩
 obtain ⟨b9,b10,hd,rs,rfl,rfl,HSP,HX⟩:=hcut
 obtain ⟨v1,rfl⟩:∃ v1,v1=wc:=⟨_,rfl⟩
 have HB7:=hidIt (ext_trans HB6.out HX.out.2.2.2.2)
 have HK87:=hidIt (HK8.out.ext HX.out.2.2.2.2)
 obtain ⟨d5,_,_,_,f5⟩:=HK87.out.cells
 have l5:=HK87.out.lt
 obtain ⟨d9,_,_⟩:=HX.out.1.cells
 have AD:Hid (∀ w',Calls Tryz.prog 69 #[.agg #[.int .i64 s.a,.int .i64 s.s,.int .i64 s.b,.bool s.lf,.bool s.cr],.agg #[.int .i64 hd.sp.a,.int .i64 hd.sp.s,.int .i64 hd.sp.b,.bool hd.sp.lf,.bool hd.sp.cr]] w' fun e w''=>∃ q,Hid (q=Rs.add s hd.sp)∧e=.returned (.agg #[.int .i64 q.a,.int .i64 q.s,.int .i64 q.b,.bool q.lf,.bool q.cr])∧Below w'.heap.size w' w''):=fun w'=>by
  obtain ⟨q1,q2,q3,q4,q5,q6,q7,q8,q9⟩:=HBN.out s hd.sp HS.out HSP.out.1
  exact Add_any s hd.sp w' q1 q2 q3 q4 q5 q6 q7 q8 q9
 have MT:Hid (∀ (q:Rs) (w':World),Calls Tryz.prog 70 #[.agg #[.int .i64 q.a,.int .i64 q.s,.int .i64 q.b,.bool q.lf,.bool q.cr],.agg #[.int .i64 rs.sp.a,.int .i64 rs.sp.s,.int .i64 rs.sp.b,.bool rs.sp.lf,.bool rs.sp.cr]] w' fun e w''=>e=.returned (.bool (q.cr && rs.sp.lf))∧Below w'.heap.size w' w''):=fun q w'=>melt_any q rs.sp w'
 have hne:w5.heap.size≠b9∧w5.heap.size≠b10:=by have:=HX.out.2.2.1;have:=HX.out.2.2.2.1;have:=HLT.out;omega
 go_upto_region 10 with (go_at_call 69;refine (AD.out v1).mono ?_;clear d5 f5 l5 d9;rintro e v2 ⟨q,hq,rfl,hb⟩;have HQ:=hidIt hq.out;have HBv:=hidIt hb;clear hq hb;obtain ⟨d5,_,_,_,f5⟩:=(HK87.out.ext HBv.out).cells;have l5:=(HK87.out.ext HBv.out).lt;(try dsimp only))
 generalize hwN:World.setCell _ _ _=v3
 have p2:v2.grownBy v3 (some w5.heap.size):=by rw [← hwN];exact ((HK87.out.ext HBv.out).put q).2
 have p1:Blk 119 v3 w5.heap.size q:=by rw [← hwN];exact ((HK87.out.ext HBv.out).put q).1
 have HP1:=hidIt p1
 have HB8:=hidIt (below_put (ext_trans HB7.out HBv.out) (ext_trans HB7.out HBv.out).size p2 HB5.out.size)
 have HX10:=hidIt ((HX.out.2.1.ext HBv.out).other p2 (Ne.symm hne.2))
 clear hwN p1 p2 d5 f5 l5
 obtain ⟨d5,_,_,_,_⟩:=HP1.out.cells
 obtain ⟨d10,_,_⟩:=HX10.out.cells
 have HE:Hid (brk enc (asOf ps) m=q.b - (if (q.cr && rs.sp.lf)=true then 1 else 0)):=by unfold Hid;rw [HAN.out,HQ.out,HS.out,HSP.out.1,HSP.out.2]
 have hqb:q.b≤9223372036854775807∧0≤q.b:=by
  obtain ⟨q1,q2,q3,q4,q5,q6,q7,q8,q9⟩:=HBN.out s hd.sp HS.out HSP.out.1
  rw [HQ.out]
  have k1:=spn_ok enc (asOf (ps.take i))
  have k2:=spn_ok enc (gx.take n)
  rw [← HS.out] at k1
  rw [← HSP.out.1] at k2
  unfold Rs.add
  split
  ·omega
  ·split
   ·omega
   ·have:=Rs.mlt_range s hd.sp
    have:=Rs.mlt_le (x:=s) k2
    simp only
    omega
 by_cases hme:(q.cr && rs.sp.lf)=true
 ·have HE2:=hidIt (show brk enc (asOf ps) m=q.b - 1 by rw [HE.out,if_pos hme])
  have MT2:Hid (∀ w':World,Calls Tryz.prog 70 #[.agg #[.int .i64 q.a,.int .i64 q.s,.int .i64 q.b,.bool q.lf,.bool q.cr],.agg #[.int .i64 rs.sp.a,.int .i64 rs.sp.s,.int .i64 rs.sp.b,.bool rs.sp.lf,.bool rs.sp.cr]] w' fun e w''=>e=.returned (.bool true)∧Below w'.heap.size w' w''):=fun w'=>by have h:=MT.out q w';rwa [hme] at h
  clear hme
  have hwq:IntKind.i64.wrap (q.b - 1)=q.b - 1:=by rw [IntKind.wrap_i64];omega
  have HCB:Hid (∀ w',Below v3.heap.size v3 w'→w'.cell? ⟨w5.heap.size,2,none⟩=some (.int .i64 q.b)):=fun w' hb=>(HP1.out.ext hb).cells.1.2.2.1
  go_wp2_with (go_at_call 70;refine (MT2.out v3).mono ?_;clear d5 d10;rintro e v4 ⟨rfl,hb⟩;have HB9:=hidIt (ext_trans HB8.out hb);have d2:=HCB.out v4 hb;clear hb;(try dsimp only))
  go_ret
  exact ⟨ret_int HE2.out.symm,HB9.out⟩
 ·have hme':(q.cr && rs.sp.lf)=false:=by simpa using hme
  have HE2:=hidIt (show brk enc (asOf ps) m=q.b by rw [HE.out,if_neg hme];omega)
  have HCB:Hid (∀ w',Below v3.heap.size v3 w'→w'.cell? ⟨w5.heap.size,2,none⟩=some (.int .i64 q.b)):=fun w' hb=>(HP1.out.ext hb).cells.1.2.2.1
  have MT2:Hid (∀ w':World,Calls Tryz.prog 70 #[.agg #[.int .i64 q.a,.int .i64 q.s,.int .i64 q.b,.bool q.lf,.bool q.cr],.agg #[.int .i64 rs.sp.a,.int .i64 rs.sp.s,.int .i64 rs.sp.b,.bool rs.sp.lf,.bool rs.sp.cr]] w' fun e w''=>e=.returned (.bool false)∧Below w'.heap.size w' w''):=fun w'=>by have h:=MT.out q w';rwa [hme'] at h
  clear hme hme'
  go_wp2_with (go_at_call 70;refine (MT2.out v3).mono ?_;clear d5 d10;rintro e v4 ⟨rfl,hb⟩;have HB9:=hidIt (ext_trans HB8.out hb);have d2:=HCB.out v4 hb;clear hb;(try dsimp only))
  go_ret
  exact ⟨ret_int HE2.out.symm,HB9.out⟩
end Go.Proofs.YtjjfakokakamaaaGreat.P

namespace Go.Proofs.YtjjfakokakamaaaGreat.P
open Go.RowKit
def nb (b:Int) (cr:Bool) (a:Int):Int:=b + (if a=10∨a=13 then 1 else 0) - (if cr=true∧a=10 then 1 else 0)
theorem nb_ge (b:Int) (cr:Bool) (a:Int):b≤nb b cr a∧nb b cr a≤b + 1:=by
 unfold nb
 by_cases h:a=10
 ·subst h;by_cases hc:cr=true <;> simp [hc] <;> omega
 ·simp only [h,false_or,and_false,if_false]
  split <;> omega
theorem spn_nb (enc:Int) (l:List Int) (a:Int):(spn enc (l ++ [a])).b=nb (spn enc l).b (spn enc l).cr a∧(spn enc (l ++ [a])).cr=decide (a=13):=by
 rw [spn_snoc]
 have ok:=spn_ok enc l
 unfold Rs.add
 by_cases h0:(spn enc l).a=0
 ·rw [if_pos h0]
  have hz:=ok.z h0
  rw [hz]
  unfold sg nb Rs.zero
  simp
 ·rw [if_neg h0,if_neg (by unfold sg;simp)]
  unfold sg nb Rs.mlt
  simp only [decide_eq_true_eq]
  constructor <;> first | trivial | rfl
def skL (k:Int):Int→Bool→List Int→Nat
 | _,_,[]=>0
 | b,cr,a :: l=>if b=k then (if cr=true∧a=10 then 1 else 0) else 1 + skL k (nb b cr a) (decide (a=13)) l
theorem skL_skip (enc:Int) (k:Int) (l2:List Int):∀ (n:Nat) (l1:List Int),l1.length=n→(spn enc l1).b < k→skL k 0 false (l1 ++ l2)=l1.length + skL k (spn enc l1).b (spn enc l1).cr l2:=by
 intro n
 induction n generalizing l2 with
 | zero =>
   intro l1 hl _
   obtain rfl:=List.length_eq_zero_iff.1 hl
   rw [spn_nil]
   simp [Rs.zero]
 | succ n ih =>
   intro l1 hl hb
   obtain ⟨l,a,rfl⟩:∃ l a,l1=l ++ [a]:=⟨l1.dropLast,l1.getLast (by intro e;subst e;simp at hl),(List.dropLast_concat_getLast _).symm⟩
   have hll:l.length=n:=by simpa using hl
   obtain ⟨e1,e2⟩:=spn_nb enc l a
   have hg:=nb_ge (spn enc l).b (spn enc l).cr a
   rw [e1] at hb
   rw [List.append_assoc,List.singleton_append,ih (a :: l2) l hll (by omega),skL,if_neg (by omega),e1,e2]
   simp
   omega
end Go.Proofs.YtjjfakokakamaaaGreat.P

namespace Go.Proofs.YtjjfakokakamaaaGreat.P
open Go.RowKit
def skA (enc:Int) (A:List Int) (k:Int):Int:=if k=0 then 0 else if k < 0∨(spn enc A).b < k then -1 else (skL k 0 false A:Nat)
def bAt (enc:Int) (A:List Int) (p:Nat):Int:=(spn enc (A.take p)).b - (if (spn enc (A.take p)).cr=true∧A[p]?=some 10 then 1 else 0)
def isE (A:List Int) (p:Nat):Bool:=decide (A[p]?=some 10∨(A[p]?=some 13∧A[p + 1]?≠some 10))
theorem bAt_zero (enc:Int) (A:List Int):bAt enc A 0=0:=by
 unfold bAt
 rw [List.take_zero,spn_nil]
 simp [Rs.zero]
theorem bAt_succ (enc:Int) (A:List Int) (p:Nat) (h:p < A.length):bAt enc A (p + 1)=bAt enc A p + (if isE A p=true then 1 else 0):=by
 obtain ⟨a,ha⟩:∃ a,A[p]?=some a:=⟨_,List.getElem?_eq_getElem h⟩
 have et:A.take (p + 1)=A.take p ++ [a]:=by rw [List.take_add_one,ha];rfl
 obtain ⟨e1,e2⟩:=spn_nb enc (A.take p) a
 unfold bAt isE
 rw [et,e1,e2,ha]
 unfold nb
 simp only [Option.some.injEq,decide_eq_true_eq]
 generalize (spn enc (A.take p)).b=b
 generalize (spn enc (A.take p)).cr=c
 by_cases h10:a=10
 ·subst h10
  cases c <;> simp
 ·by_cases h13:a=13
  ·subst h13
   by_cases hn:A[p + 1]?=some 10 <;> simp [hn]
  ·simp [h10,h13]
theorem bAt_len (enc:Int) (A:List Int) (p:Nat) (h:A.length≤p):bAt enc A p=(spn enc A).b:=by
 unfold bAt
 rw [List.take_of_length_le h,List.getElem?_eq_none h]
 simp
theorem bAt_mono (enc:Int) (A:List Int) (p q:Nat) (h:p≤q):bAt enc A p≤bAt enc A q:=by
 induction q with
 | zero=>obtain rfl:p=0:=by omega
         exact Int.le_refl _
 | succ q ih =>
   rcases Nat.lt_or_ge q p with h1 | h1
   ·obtain rfl:p=q + 1:=by omega
    exact Int.le_refl _
   ·have:=ih h1
    rcases Nat.lt_or_ge q A.length with h2 | h2
    ·rw [bAt_succ enc A q h2]
     split <;> omega
    ·rw [bAt_len enc A (q + 1) (by omega),← bAt_len enc A q h2]
     exact this
theorem bAt_nn (enc:Int) (A:List Int) (p:Nat):0≤bAt enc A p:=by
 have:=bAt_mono enc A 0 p (Nat.zero_le _)
 rw [bAt_zero] at this
 exact this
theorem brk_at (enc:Int) (A:List Int) (z:Int):brk enc A z=bAt enc A z.toNat:=by
 unfold brk
 by_cases h0:z≤0
 ·rw [if_pos h0,show z.toNat=0 by omega,bAt_zero]
 ·rw [if_neg h0]
  by_cases h1:(A.length:Int)≤z
  ·rw [if_pos h1,bAt_len enc A _ (by omega)]
  ·rw [if_neg h1]
   unfold bAt
   have hl:z.toNat < A.length:=by omega
   obtain ⟨a,ha⟩:∃ a,A[z.toNat]?=some a:=⟨_,List.getElem?_eq_getElem hl⟩
   rw [drop_of ha,spn_lf,ha]
   simp only [Option.some.injEq,decide_eq_true_eq]
theorem skL_at (enc:Int) (A:List Int) (k:Int):∀ (rest pre:List Int),A=pre ++ rest→(spn enc pre).b≤k→(∀ l a,pre=l ++ [a]→(spn enc l).b < k)→0 < k→k≤(spn enc A).b →
  1≤pre.length + skL k (spn enc pre).b (spn enc pre).cr rest∧pre.length + skL k (spn enc pre).b (spn enc pre).cr rest≤A.length∧bAt enc A (pre.length + skL k (spn enc pre).b (spn enc pre).cr rest)=k∧bAt enc A (pre.length + skL k (spn enc pre).b (spn enc pre).cr rest - 1) < k:=by
 intro rest
 induction rest with
 | nil =>
   intro pre hA hb hl h0 hk
   rw [List.append_nil] at hA
   subst hA
   have hne:A≠[]:=fun e=>by subst e;rw [spn_nil] at hk;simp [Rs.zero] at hk;omega
   have hpos:=List.length_pos_iff.2 hne
   have e:skL k (spn enc A).b (spn enc A).cr []=0:=rfl
   rw [e,Nat.add_zero]
   refine ⟨hpos,Nat.le_refl _,?_,?_⟩
   ·rw [bAt_len enc A _ (Nat.le_refl _)];omega
   ·have h1:=hl A.dropLast (A.getLast hne) (List.dropLast_concat_getLast hne).symm
    unfold bAt
    rw [← List.dropLast_eq_take]
    split <;> omega
 | cons a rest ih =>
   intro pre hA hb hl h0 hk
   have hga:A[pre.length]?=some a:=by rw [hA,List.getElem?_append_right (Nat.le_refl _)];simp
   have htk:A.take pre.length=pre:=by rw [hA,List.take_left]
   have hal:pre.length < A.length:=by rw [hA];simp
   rw [skL]
   by_cases hbk:(spn enc pre).b=k
   ·rw [if_pos hbk]
    have hne:pre≠[]:=fun e=>by subst e;rw [spn_nil] at hbk;simp [Rs.zero] at hbk;omega
    have hpos:=List.length_pos_iff.2 hne
    have hlast:=hl pre.dropLast (pre.getLast hne) (List.dropLast_concat_getLast hne).symm
    have hm1:bAt enc A (pre.length - 1) < k:=by
     unfold bAt
     rw [hA,List.take_append_of_le_length (by omega),← List.dropLast_eq_take]
     split <;> omega
    by_cases hc:(spn enc pre).cr=true∧a=10
    ·rw [if_pos hc]
     have hB:bAt enc A pre.length=k - 1:=by
      unfold bAt
      rw [htk,hga,if_pos ⟨hc.1,by rw [hc.2]⟩]
      omega
     refine ⟨by omega,by omega,?_,?_⟩
     ·rw [bAt_succ enc A _ hal,hB]
      unfold isE
      rw [hga]
      simp [hc.2]
     ·rw [Nat.add_sub_cancel,hB];omega
    ·rw [if_neg hc,Nat.add_zero]
     refine ⟨hpos,by omega,?_,hm1⟩
     unfold bAt
     rw [htk,hga,if_neg (fun e=>hc ⟨e.1,Option.some.inj e.2⟩)]
     omega
   ·rw [if_neg hbk]
    obtain ⟨e1,e2⟩:=spn_nb enc pre a
    have hg:=nb_ge (spn enc pre).b (spn enc pre).cr a
    have:=ih (pre ++ [a]) (by rw [hA];simp) (by rw [e1];omega) (fun l x e=>by
     obtain ⟨rfl,_⟩:=List.append_inj' e rfl
     omega) h0 hk
    rw [e1,e2,List.length_append,List.length_singleton] at this
    rw [← Nat.add_assoc]
    exact this
theorem skA_at (enc:Int) (A:List Int) (k:Int) (h0:0 < k) (hk:k≤(spn enc A).b):∃ p:Nat,skA enc A k=p∧1≤p∧p≤A.length∧bAt enc A p=k∧bAt enc A (p - 1) < k:=by
 have:=skL_at enc A k A [] rfl (by rw [spn_nil];simp [Rs.zero];omega) (fun l a e=>by simp at e) h0 hk
 rw [spn_nil,List.length_nil,Nat.zero_add] at this
 refine ⟨skL k 0 false A,?_,this.1,this.2.1,this.2.2.1,this.2.2.2⟩
 unfold skA
 rw [if_neg (by omega),if_neg (by omega)]
theorem skA_uniq (enc:Int) (A:List Int) (k:Int) (h0:0 < k) (hk:k≤(spn enc A).b) (p:Nat) (h1:1≤p) (h2:bAt enc A p=k) (h3:bAt enc A (p - 1) < k):skA enc A k=p:=by
 obtain ⟨q,e,q1,_,q2,q3⟩:=skA_at enc A k h0 hk
 rw [e]
 rcases Nat.lt_trichotomy p q with h | h | h
 ·have:=bAt_mono enc A p (q - 1) (by omega);omega
 ·rw [h]
 ·have:=bAt_mono enc A q (p - 1) (by omega);omega
def gE (A:List Int):Nat→List Int
 | 0=>[]
 | d + 1=>gE A d ++ (if isE A (A.length - d - 1)=true then [((A.length - d:Nat):Int)] else [])
theorem gE_len (enc:Int) (A:List Int) (d:Nat) (h:d≤A.length):((gE A d).length:Int)=(spn enc A).b - bAt enc A (A.length - d):=by
 induction d with
 | zero=>rw [bAt_len enc A _ (by omega)];simp [gE]
 | succ d ih =>
   have i1:=ih (by omega)
   have e:=bAt_succ enc A (A.length - d - 1) (by omega)
   rw [show A.length - d - 1 + 1=A.length - d by omega] at e
   rw [gE,List.length_append,show A.length - (d + 1)=A.length - d - 1 by omega]
   split
   ·rename_i h1
    rw [if_pos h1] at e
    simp only [List.length_cons,List.length_nil]
    omega
   ·rename_i h1
    rw [if_neg h1] at e
    simp only [List.length_nil]
    omega
theorem gE_at (enc:Int) (A:List Int) (d:Nat) (h:d≤A.length):∀ (j:Nat) (z:Int),(gE A d)[j]?=some z→∃ p:Nat,z=p∧1≤p∧p≤A.length∧bAt enc A p=(spn enc A).b - j∧bAt enc A (p - 1)=(spn enc A).b - j - 1:=by
 induction d with
 | zero=>intro j z hz;simp [gE] at hz
 | succ d ih =>
   intro j z hz
   rw [gE] at hz
   rcases Nat.lt_or_ge j (gE A d).length with h1 | h1
   ·rw [List.getElem?_append_left h1] at hz
    exact ih (by omega) j z hz
   ·rw [List.getElem?_append_right h1] at hz
    split at hz
    ·rename_i h2
     have hj:j - (gE A d).length=0:=by
      have:=(List.getElem?_eq_some_iff.1 hz).1
      simp at this
      omega
     rw [hj] at hz
     simp only [List.getElem?_cons_zero,Option.some.injEq] at hz
     have hlen:=gE_len enc A d (by omega)
     have e:=bAt_succ enc A (A.length - d - 1) (by omega)
     rw [show A.length - d - 1 + 1=A.length - d by omega,if_pos h2] at e
     exact ⟨A.length - d,hz.symm,by omega,by omega,by omega,by omega⟩
    ·simp at hz
theorem seam_at (enc:Int) (A:List Int) (z k:Int) (hk:k=brk enc A z) :
  0≤k∧k≤((gE A A.length).length:Int)∧((gE A A.length).length:Int)=(spn enc A).b ∧
  (0 < k→∃ e,(gE A A.length)[((gE A A.length).length - k).toNat]?=some e∧e≤z∧skA enc A k=e∧brk enc A e=k) ∧
  (k < ((gE A A.length).length:Int)→∃ e,(gE A A.length)[((gE A A.length).length - k - 1).toNat]?=some e∧z < e):=by
 have hn:((gE A A.length).length:Int)=(spn enc A).b:=by
  have:=gE_len enc A A.length (Nat.le_refl _)
  rw [Nat.sub_self,bAt_zero] at this
  omega
 have hk2:k=bAt enc A z.toNat:=by rw [hk,brk_at]
 have hk0:0≤k:=by rw [hk2];exact bAt_nn _ _ _
 have hkn:k≤(spn enc A).b:=by
  rw [hk2,← bAt_len enc A (max A.length z.toNat) (by omega)]
  exact bAt_mono _ _ _ _ (by omega)
 refine ⟨hk0,by omega,hn,fun h=>?_,fun h=>?_⟩
 ·obtain ⟨e,he⟩:∃ e,(gE A A.length)[((gE A A.length).length - k).toNat]?=some e:=⟨_,List.getElem?_eq_getElem (by omega)⟩
  obtain ⟨p,rfl,p1,p2,p3,p4⟩:=gE_at enc A A.length (Nat.le_refl _) _ _ he
  have e1:bAt enc A p=k:=by omega
  have e2:bAt enc A (p - 1)=k - 1:=by omega
  refine ⟨_,he,?_,skA_uniq enc A k h hkn p p1 e1 (by omega),by rw [brk_at,Int.toNat_natCast];exact e1⟩
  rcases Int.lt_or_le z p with h1 | h1
  ·have:=bAt_mono enc A z.toNat (p - 1) (by omega)
   omega
  ·exact h1
 ·obtain ⟨e,he⟩:∃ e,(gE A A.length)[((gE A A.length).length - k - 1).toNat]?=some e:=⟨_,List.getElem?_eq_getElem (by omega)⟩
  obtain ⟨p,rfl,p1,p2,p3,p4⟩:=gE_at enc A A.length (Nat.le_refl _) _ _ he
  refine ⟨_,he,?_⟩
  rcases Int.lt_or_le z p with h1 | h1
  ·exact h1
  ·have:=bAt_mono enc A p z.toNat (by omega)
   omega
end Go.Proofs.YtjjfakokakamaaaGreat.P

namespace Go.Proofs.YtjjfakokakamaaaGreat.P
open Go.RowKit
def nw (l:List Int):List (Int × Int):=l.map fun a=>(a,-1)
def ins (l:List Int) (q:Nat) (x:Int):List Int:=l.take q ++ (x :: l.drop q)
structure MlI (enc:Int) (t:Nat) (w:World) (lv:Value) (l:List Int) (wr:World):Prop where
 tx:∃ ps,Tx enc 65536 [] wr t ps∧sh enc ps=nw l
 own:OwnI wr w.heap.size lv l
 nil:l=[]→lv=.slice none 0 0
 fit:∀ a ∈ l,Cx.fits enc a=true
 bel:Below w.heap.size w wr
 tl:w.heap.size≤t
theorem MlI.ext {enc:Int} {t:Nat} {w:World} {lv:Value} {l:List Int} {wr w':World} (h:MlI enc t w lv l wr) (hb:Below wr.heap.size wr w'):MlI enc t w lv l w':=by
 obtain ⟨ps,h1,h2⟩:=h.tx
 exact ⟨⟨ps,h1.ext hb,h2⟩,h.own.ext hb,h.nil,h.fit,ext_trans h.bel hb,h.tl⟩
theorem Tx.typ {enc lim:Int} {L:List Int} {w:World} {t:Nat} {ps:List PG} (h:Tx enc lim L w t ps):Typ 116 w t:=by
 obtain ⟨_,_,h1,_⟩:=h.ex
 exact ⟨_,h1⟩
section
variable {P:Program} {W:World} {ops:Array Oper} {rest:List Oper} {o:Oper} {a:Act} {Q:Exit→Act→World→Prop}
theorem wpl_ints (hgd:o.guard=none) (s x:Operand) (t:TypeId) (ho:o.op=.call { callee:=.builtin .append,args:=#[s,x],argTypes:=#[t,t] })
  (base:Nat) (hinf:(P.info? 3).map (fun i=>(i.zero,i.size,i.bytes))=some (some (.int .i64 0),1,8)) (ht:P.underlying t=some (.slice 3))
  (v:Value) (zs:List Int) (hs:a.eval s=v) (hown:OwnI W base v zs) (ys:List Int) (ao:Option Addr) (m c:Nat) (hx:a.eval x=.slice ao m c) (hm:m=ys.length)
  (hys:(ao=none∧c=0∧ys=[])∨∃ ad,ao=some ad∧∀ j u,(ys.map (Value.int .i64))[j]?=some u→W.cell? (ad.add j)=some u) (hl:zs.length + ys.length≤1099511627776) (hbase:base≤W.heap.size)
  (h:∀ v' w',OwnI w' base v' (zs ++ ys)→Below base W w'→wpList P ops Q rest (a.put o.dst v') w'):wpList P ops Q (o :: rest) a W:=by
 obtain ⟨i0,hi,hz0,hz1,hz2⟩:=info_parts hinf
 subst hm
 rcases hys with ⟨rfl,rfl,rfl⟩ | ⟨ad,rfl,hc⟩
 ·refine wpList_append_own_none hgd s x t ho base 3 i0 1 ht hi v zs.length (zs.map (Value.int .i64)) hs hown hx ?_
  exact h v W (by rw [List.append_nil];exact hown) (Below.refl _ _)
 ·refine wpList_append_own W hgd s x t ho base 3 i0 (.int .i64 0) 1 8 ht hi hz0 hz1 hz2 rfl (by decide) v zs.length (zs.map (Value.int .i64)) hs hown ad ys.length c (ys.map (Value.int .i64)) hx (by simp) hc (fun u hu=>by rw [List.mem_map] at hu;obtain ⟨_,_,rfl⟩:=hu;rfl) (by unfold maxLen;omega) (by omega) hbase ?_
  intro v' w' h1 h2 _
  refine h v' w' ?_ ((Below.refl _ _).grown h2 hbase (fun k hk=>(World.ownsRow.lt hown k hk).1))
  unfold OwnI
  rw [List.length_append,List.map_append]
  exact h1
end
theorem Addr.add_zero_add (g q j:Nat):((⟨g,0,none⟩:Addr).add (q + j))=(⟨g,q,none⟩:Addr).add j:=by
 unfold Addr.add
 split <;> split <;> simp <;> omega
theorem OwnI.row {w:World} {base:Nat} {v:Value} {zs:List Int} (h:OwnI w base v zs) (hn:zs≠[]):∃ g cap,v=.slice (some ⟨g,0,none⟩) zs.length cap∧g < w.heap.size∧zs.length≤cap∧cap≤9223372036854775807∧∀ j u,(zs.map (Value.int .i64))[j]?=some u→w.cell? ((⟨g,0,none⟩:Addr).add j)=some u:=by
 rcases h.2 with ⟨_,h2⟩ | ⟨g,cap,cur,hv,hb,hg,h3,h4,h5,h6⟩
 ·exact absurd (List.length_eq_zero_iff.1 h2) hn
 ·exact ⟨g,cap,hv,(Array.getElem?_eq_some_iff.1 hg).1,h3,by unfold maxLen at h4;exact h4,World.ownsRow.cells h (by rw [hv];simp [Value.ownBlock])⟩
end Go.Proofs.YtjjfakokakamaaaGreat.P

namespace Go.Proofs.YtjjfakokakamaaaGreat.P
open Go.RowKit
theorem rdi_new (w:World) (x:Int):∀ j u,([x].map (Value.int .i64))[j]?=some u→(w.alloc (.cells #[.int .i64 x] 3)).cell? ((⟨w.heap.size,0,none⟩:Addr).add j)=some u:=fun j u hj=>by
 cases j with
 | zero =>
   simp only [List.map_cons,List.getElem?_cons_zero,Option.some.injEq] at hj
   subst hj
   rw [show ((⟨w.heap.size,0,none⟩:Addr).add 0)=⟨w.heap.size,0,none⟩ from rfl,cell_of_row _ _ _ _ _ _ (heap_alloc_new _ _)]
   rfl
 | succ j=>simp at hj
theorem gE_le (A:List Int) (d:Nat):(gE A d).length≤d:=by
 induction d with
 | zero=>simp [gE]
 | succ d ih =>
   rw [gE,List.length_append]
   split <;> simp <;> omega
set_option maxRecDepth 100000 in
set_option maxHeartbeats 8000000 in
theorem ends_any (va:Value) (A:List Int) (w:World) (hA:Rd .i64 w va A) (hl:A.length≤65536) :
  Calls Tryz.prog 32 #[va] w fun e w'=>∃ (ao:Option Addr) (n cap:Nat),e=.returned (.slice ao n cap)∧Hid (n=(gE A A.length).length∧OwnI w' w.heap.size (.slice ao n cap) (gE A A.length))∧Below w.heap.size w w':=by
 obtain ⟨aa,ca,rfl,ha1,ha2,_⟩:=id hA
 have HA:=hidIt hA
 clear hA
 have HI0:Hid (0=(gE A 0).length∧OwnI w w.heap.size (.slice none 0 0) (gE A 0)∧Below w.heap.size w w):=⟨rfl,World.ownsRow_nil _ _ _ _,Below.refl _ _⟩
 go_enter Tryz.func32,Tryz.ntmps32
 go_wp2_with fail
 go_loopg [3,4] A.length (fun gk lv p wr=>∃ (d:Nat) (ao:Option Addr) (n cap:Nat) (m:Int),d + gk=A.length∧p=.int .i64 m∧lv=.slice ao n cap∧Hid (m=(A.length:Int) - 1 - d)∧Hid (n=(gE A d).length∧OwnI wr w.heap.size (.slice ao n cap) (gE A d)∧Below w.heap.size w wr))
 case atStart=>exact ⟨0,none,0,0,_,by omega,rfl,rfl,by unfold Hid;go_num,HI0.out⟩
 case round =>
  obtain ⟨d,ao,n,cap,m,hd,rfl,rfl,HM,HI⟩:=hrel
  by_cases hdl:d < A.length
  ·obtain ⟨i,rfl⟩:∃ i:Nat,m=i:=⟨m.toNat,by have:=HM.out;omega⟩
   have hid:i + 1 + d=A.length:=by have:=HM.out;omega
   have HID:=hidIt hid
   have HDG:=hidIt hd
   have hi0:(0:Int)≤(i:Int):=by omega
   have hil:i < A.length:=by omega
   have hil2:i≤65536:=by omega
   have HIE:Hid (A.length - d - 1=i∧A.length - d=i + 1):=⟨by omega,by omega⟩
   obtain ⟨b,o,rfl,hbl,ci,_⟩:=rd_at (HA.out.ext HI.out.2.2) i hil
   obtain ⟨x,hx⟩:∃ x,A[i]?=some x:=⟨_,List.getElem?_eq_getElem hil⟩
   rw [hx,Option.getD_some] at ci
   have HX:=hidIt hx
   have hilI:(i:Int) < (A.length:Int):=by omega
   have hNX:Hid (∀ y,A[i + 1]?=some y→wr.cell? ⟨b,o + (i + 1),none⟩=some (.int .i64 y)):=fun y hy=>by
    obtain ⟨b',o',e1,_,c',_⟩:=rd_at (HA.out.ext HI.out.2.2) (i + 1) (List.getElem?_eq_some_iff.1 hy).1
    cases e1
    rw [hy,Option.getD_some] at c'
    exact c'
   have hdm:d < 65536:=by omega
   clear hx hid HM hd hdl
   go_upto_region 5 with fail
   go_cut [39] from 12 to 38 (fun v wF=>v=.bool (isE A i)∧wF=wr)
   case first =>
    by_cases h10:x=10
    ·have HV:=hidIt (show isE A i=true by unfold isE;rw [HX.out,h10];simp)
     subst h10
     go_wp2_with fail
     go_meet
     case rel=>exact ⟨by rw [HV.out],rfl⟩
    by_cases h13:x=13
    ·subst h13
     by_cases hn:i + 1 < A.length
     ·have hnI:(i:Int) + 1 < (A.length:Int):=by omega
      obtain ⟨y,hy⟩:∃ y,A[i + 1]?=some y:=⟨_,List.getElem?_eq_getElem hn⟩
      have cy:=hNX.out y hy
      by_cases hy10:y=10
      ·have HV:=hidIt (show isE A i=false by unfold isE;rw [HX.out,hy,hy10];simp)
       subst hy10
       clear hy
       go_wp2_with fail
       go_meet
       case rel=>exact ⟨by rw [HV.out],rfl⟩
      ·have HV:=hidIt (show isE A i=true by unfold isE;rw [HX.out,hy];simp [hy10])
       clear hy
       go_wp2_with fail
       go_meet
       case rel=>exact ⟨by rw [HV.out];simp [hy10],rfl⟩
     ·have hnI:¬ (i:Int) + 1 < (A.length:Int):=by omega
      have HV:=hidIt (show isE A i=true by unfold isE;rw [HX.out,List.getElem?_eq_none (by omega)];simp)
      go_wp2_with fail
      go_meet
      case rel=>exact ⟨by rw [HV.out],rfl⟩
    ·have HV:=hidIt (show isE A i=false by unfold isE;rw [HX.out];simp [h10,h13])
     go_wp2_with fail
     go_meet
     case rel=>exact ⟨by rw [HV.out];simp [h10],rfl⟩
   obtain ⟨rfl,hwc⟩:=hcut
   obtain rfl:wr=wc:=hwc.symm
   clear hwc
   have HD1:Hid (gE A (d + 1)=gE A d ++ (if isE A i=true then [((i + 1:Nat):Int)] else [])):=by unfold Hid;rw [gE,HIE.out.1,HIE.out.2]
   cases he:isE A i with
   | true =>
     rw [he,if_pos rfl] at HD1
     have HOA:Hid (OwnI (wr.alloc (.cells #[.int .i64 ((i + 1:Nat):Int)] 3)) w.heap.size (.slice ao n cap) (gE A d)):=HI.out.2.1.ext (ext_alloc (Below.refl _ _) _)
     have HNW:=hidIt (rdi_new wr ((i + 1:Nat):Int))
     have HZ:=hidIt (show w.heap.size≤(wr.alloc (.cells #[.int .i64 ((i + 1:Nat):Int)] 3)).heap.size from Nat.le_trans HI.out.2.2.size (size_alloc_le _ _))
     have HLN:=hidIt (show (gE A d).length + [((i + 1:Nat):Int)].length≤1099511627776 by have:=gE_le A d;simp;omega)
     have HBI:=hidIt HI.out.2.2
     have hwi:IntKind.i64.wrap ((i:Int) + 1)=((i + 1:Nat):Int):=by rw [IntKind.wrap_i64];omega
     go_wp2_with (at_builtin;refine wpl_ints rfl _ _ 22 rfl w.heap.size Tryz.info_i64 Tryz.underlying22 (.slice ao n cap) (gE A d) rfl HOA.out [((i + 1:Nat):Int)] (some ⟨wr.heap.size,0,none⟩) 1 1 rfl rfl (.inr ⟨_,rfl,HNW.out⟩) HLN.out HZ.out ?_;intro v8 w8 ho8 hb8;obtain ⟨a8,c8,hv8⟩:=ho8.form;generalize hn8:(gE A d ++ [((i + 1:Nat):Int)]).length=n8 at hv8;have HN8:=hidIt hn8;clear hn8;subst hv8;have HO8:=hidIt ho8;have HB8:=hidIt (HBI.out.trans ((ext_alloc (Below.refl wr.heap.size wr) _).mono HBI.out.size |>.trans hb8));clear ho8 hb8)
     go_roundg (A.length - (d + 1))
     case rel=>exact ⟨d + 1,a8,n8,c8,_,by have:=HID.out;omega,rfl,rfl,by unfold Hid;have:=HID.out;go_num,by unfold Hid;rw [HD1.out,HN8.out];exact ⟨rfl,HO8.out,HB8.out⟩⟩
     case measure=>have:=HID.out;have:=HDG.out;omega
   | false =>
     rw [he,if_neg (by decide),List.append_nil] at HD1
     go_wp2_with fail
     go_roundg (A.length - (d + 1))
     case rel=>exact ⟨d + 1,ao,n,cap,_,by have:=HID.out;omega,rfl,rfl,by unfold Hid;have:=HID.out;go_num,by unfold Hid;rw [HD1.out];exact HI.out⟩
     case measure=>have:=HID.out;have:=HDG.out;omega
  ·obtain rfl:d=A.length:=by omega
   have hm:¬ (0:Int)≤m:=by have:=HM.out;omega
   clear HM
   go_wp2_with fail
   go_ret
   exact ⟨ao,n,cap,rfl,⟨HI.out.1,HI.out.2.1⟩,HI.out.2.2⟩
end Go.Proofs.YtjjfakokakamaaaGreat.P

namespace Go.Proofs.YtjjfakokakamaaaGreat.P
open Go.RowKit Go.Shelf
attribute [local go_sem] Oper.semAt_some
structure SkI (bk bs ba:Nat) (k b0:Int) (c0:Bool) (f:Nat) (s:Rs) (pre:List (Int × Int)) (W:World):Prop where
 kb:W.heap[bk]?=some (.cells #[.int .i64 k] 3 (0,0))
 sb:Blk 119 W bs s
 ab:W.heap[ba]?=some (.cells #[.int .i64 ((f + pre.length:Nat):Int)] 3 (0,0))
 ok:Rs.Ok s
 sa:s.a=(f + pre.length:Nat)
 ss:s.s≤65536
 bb:s.b≤(f + pre.length:Nat)
 sk:∀ rest,skL k b0 c0 (pre.map Prod.fst ++ rest)=pre.length + skL k s.b s.cr rest
def skO (bk bs ba:Nat) (_:Rs) (k:Nat):Prop:=k=bk∨k=bs∨k=ba
theorem SkI.same {bk bs ba:Nat} {k b0:Int} {c0:Bool} {f:Nat} {s:Rs} {pre:List (Int × Int)} {W W':World} (h:SkI bk bs ba k b0 c0 f s pre W) (hk:∀ k,skO bk bs ba s k→W'.heap[k]?=W.heap[k]?):SkI bk bs ba k b0 c0 f s pre W' :=
 ⟨by rw [hk bk (.inl rfl)];exact h.kb,by unfold Blk;rw [hk bs (.inr (.inl rfl))];exact h.sb,by rw [hk ba (.inr (.inr rfl))];exact h.ab,h.ok,h.sa,h.ss,h.bb,h.sk⟩
theorem SkI.lives {bk bs ba:Nat} {k b0:Int} {c0:Bool} {f:Nat} {s:Rs} {pre:List (Int × Int)} {W:World} (h:SkI bk bs ba k b0 c0 f s pre W) (j:Nat) (hk:skO bk bs ba s j):j < W.heap.size:=by
 rcases hk with rfl | rfl | rfl
 ·exact (Array.getElem?_eq_some_iff.1 h.kb).1
 ·exact h.sb.lt
 ·exact (Array.getElem?_eq_some_iff.1 h.ab).1
theorem add_sg (s:Rs) (a:Int) (h:Rs.Ok s):(Rs.add s (sg a 0)).b=nb s.b s.cr a∧(Rs.add s (sg a 0)).cr=decide (a=13):=by
 unfold Rs.add
 by_cases h0:s.a=0
 ·rw [if_pos h0]
  have hz:=h.z h0
  rw [hz]
  unfold sg nb Rs.zero
  simp
 ·rw [if_neg h0,if_neg (by unfold sg;simp)]
  unfold sg nb Rs.mlt
  simp only [decide_eq_true_eq]
  constructor <;> first | trivial | rfl
theorem SkI.step {bk bs ba:Nat} {k b0:Int} {c0:Bool} {f:Nat} {s:Rs} {pre:List (Int × Int)} {W V V1:World} (h:SkI bk bs ba k b0 c0 f s pre W) (hb:Below W.heap.size W V) (hd:bk≠bs∧bk≠ba∧bs≠ba) (hne:s.b≠k) (a g:Int) (q:Rs) (hq:q=Rs.add s (sg a 0)) (h1:Blk 119 V1 bs q) (h2:V.grownBy V1 (some bs)) :
  SkI bk bs ba k b0 c0 f q (pre ++ [(a,g)]) (V1.setCell ⟨ba,0,none⟩ (.int .i64 ((f + pre.length + 1:Nat):Int)))∧Kps (skO bk bs ba s) W (V1.setCell ⟨ba,0,none⟩ (.int .i64 ((f + pre.length + 1:Nat):Int))):=by
 have hk0:=h.kb
 have ha0:=h.ab
 have lk:=(Array.getElem?_eq_some_iff.1 hk0).1
 have la:=(Array.getElem?_eq_some_iff.1 ha0).1
 have z:=hb.size
 have hk1:V1.heap[bk]?=some (.cells #[.int .i64 k] 3 (0,0)):=(h2.block bk (by omega) (fun e=>hd.1 (Option.some.inj e))).trans ((hb.block bk lk).trans hk0)
 have ha1:V1.heap[ba]?=some (.cells #[.int .i64 ((f + pre.length:Nat):Int)] 3 (0,0)):=(h2.block ba (by omega) (fun e=>hd.2.2 (Option.some.inj e).symm)).trans ((hb.block ba la).trans ha0)
 obtain ⟨p1,p2⟩:=set1 ha1 0 (.int .i64 ((f + pre.length + 1:Nat):Int))
 have z1:=h2.size
 obtain ⟨e1,e2⟩:=add_sg s a h.ok
 obtain ⟨e3,e4⟩:=add_as s (sg a 0) h.ok (sg_ok a 0 (Int.le_refl _))
 have hg:=nb_ge s.b s.cr a
 have hsa:=h.sa
 have hss:=h.ss
 have hbb:=h.bb
 have lq:(pre ++ [(a,g)]).length=pre.length + 1:=by simp
 refine ⟨⟨?_,?_,?_,?_,?_,?_,?_,?_⟩,?_⟩
 ·exact (p2.block bk (by omega) (fun e=>hd.2.1 (Option.some.inj e))).trans hk1
 ·unfold Blk
  rw [p2.block bs h1.lt (fun e=>hd.2.2 (Option.some.inj e))]
  exact h1
 ·rw [lq]
  exact p1
 ·rw [hq];exact Rs.ok_add h.ok (sg_ok a 0 (Int.le_refl _))
 ·rw [hq,e3,hsa,lq];unfold sg;simp only;omega
 ·rw [hq,e4];unfold sg;simp only;omega
 ·rw [hq,e1,lq];omega
 ·intro rest
  rw [List.map_append,List.append_assoc]
  have:=h.sk (a :: rest)
  rw [skL,if_neg hne] at this
  rw [hq,e1,e2,lq]
  simp only [List.map_cons,List.map_nil,List.singleton_append]
  omega
 ·refine ((Kps.of_below (skO bk bs ba s) hb).trans (Kps.grown h2 fun j e _=>.inr (.inl (Option.some.inj e).symm)) fun _ _ e=>e).trans (Kps.grown p2 fun j e _=>.inr (.inr (Option.some.inj e).symm)) fun _ _ e=>e
theorem find_brk {enc:Int} {L:List Int} {w:World} {ps:List PG} (h:Pcs enc L w ps) (k:Int) (h0:0 < k) (hk:k≤(spn enc (asOf ps)).b) :
  ∃ i,rA.fnd 1 k Rs.zero (xsOf ps)=i + 1∧i < ps.length∧(spn enc (asOf (ps.take i))).b < k:=by
 have l2:=rA.fnd_le 1 k (xsOf ps) Rs.zero
 rw [xsOf_len] at l2
 have key:∀ j,rA.key (rA.add Rs.zero (rA.su ((xsOf ps).take j))) 1=(spn enc (asOf (ps.take j))).b:=fun j=>by
  have h':Pcs enc L w (ps.take j):=fun q hq=>h q (List.mem_of_mem_take hq)
  rw [show (xsOf ps).take j=xsOf (ps.take j) by simp [xsOf,List.map_take],h'.su]
  show Rs.key (Rs.add Rs.zero _) 1=_
  rw [Rs.zadd]
  rfl
 have hne:rA.fnd 1 k Rs.zero (xsOf ps)≠0:=by
  intro e
  have:=rA.fnd_hit 1 k (xsOf ps) Rs.zero Rs.ok_zero (by rw [e];exact Nat.zero_le _)
  rw [e,key 0,List.take_zero] at this
  simp [asOf,spn_nil,Rs.zero] at this
  omega
 obtain ⟨i,hi⟩:∃ i,rA.fnd 1 k Rs.zero (xsOf ps)=i + 1:=⟨_,(Nat.succ_pred_eq_of_ne_zero hne).symm⟩
 have hls:∀ j,j < i + 1→(spn enc (asOf (ps.take j))).b < k:=fun j hj=>by
  have:=rA.fnd_less 1 k (xsOf ps) Rs.zero j Rs.ok_zero (by omega)
  rw [key j] at this
  exact this
 refine ⟨i,hi,?_,hls i (by omega)⟩
 rcases Nat.lt_or_ge i ps.length with h1 | h1
 ·exact h1
 ·have:=hls i (by omega)
  rw [List.take_of_length_le h1] at this
  omega
set_option maxRecDepth 100000 in
set_option maxHeartbeats 8000000 in
theorem Seek_any (enc lim:Int) (L:List Int) (w:World) (t:Nat) (ps:List PG) (k:Int) (h:Tx enc lim L w t ps):Calls Tryz.prog 36 #[.pointer (some ⟨t,0,none⟩),.int .i64 k] w fun e w'=>e=.returned (.int .i64 (skA enc (asOf ps) k))∧Below w.heap.size w w':=by
 have hsl:=h.sum.2.2
 have HT:=hidIt h
 obtain ⟨w0,hw0,kk0,hb0⟩:∃ w0,w0=w.alloc (.cells #[.int .i64 k] 3)∧w0.heap[w.heap.size]?=some (.cells #[.int .i64 k] 3 (0,0))∧Below w.heap.size w w0:=⟨_,rfl,heap_alloc_new _ _,ext_alloc (Below.refl _ _) _⟩
 have HB0:=hidIt hb0
 have HKK:=hidIt kk0
 obtain ⟨lv,u,⟨_,_,_,c3w⟩,_,htt,htl⟩:=h.cells
 have HC:Hid (∀ w',Below w0.heap.size w0 w'→w'.cell? ⟨w.heap.size,0,none⟩=some (.int .i64 k)∧w'.cell? ⟨t,3,none⟩=some (.pointer u)):=fun w' hb=>by
  have e:=(hb.block _ (Array.getElem?_eq_some_iff.1 kk0).1).trans kk0
  exact ⟨by rw [cell_of_row w' _ _ _ _ _ e];rfl,((ext_trans hb0 hb).cell (p:=⟨t,3,none⟩) htl).trans c3w⟩
 have ENTER:Hid (∀ Q:Ending→World→Prop,True→True):=fun _ h=>h
 clear ENTER
 have hkk:k=0∨(k≠0∧(k < 0∨(spn enc (asOf ps)).b < k))∨(0 < k∧k≤(spn enc (asOf ps)).b):=by omega
 have SU:Hid (∀ w',Below w0.heap.size w0 w'→Calls Tryz.prog 56 #[.agg #[.pointer u]] w' fun e w''=>∃ s:Rs,Hid (s.b=(spn enc (asOf ps)).b)∧e=.returned (.agg #[.int .i64 s.a,.int .i64 s.s,.int .i64 s.b,.bool s.lf,.bool s.cr])∧Below w'.heap.size w' w''):=fun w' hb=>by
  refine (Sum_any u (xsOf ps) w' (htt.ext (ext_trans hb0 hb))).mono ?_
  rintro e w'' ⟨s,hs,rfl,hb'⟩
  exact ⟨s,by unfold Hid;rw [hs.out,h.pc.su],rfl,hb'⟩
 have fb:=field_breaks
 rcases hkk with hk0 | ⟨hk0,hbad⟩ | ⟨hk0,hkb⟩
 ·subst hk0
  obtain ⟨d0,_⟩:=HC.out w0 (Below.refl _ _)
  have HA:=hidIt (show skA enc (asOf ps) 0=0 by unfold skA;rw [if_pos rfl])
  clear h hb0 kk0 htt SU fb
  refine (callsIn_wide (n:=9)).1 ?_
  refine callsIn_of_wp_marks Tryz.func36 rfl trivial ?_ rfl
  simp only [Tryz.ntmps36,List.size_toArray,List.length_cons,List.length_nil,Nat.reduceAdd,Nat.reduceSub,Array.replicate_succ,Array.replicate_zero,List.push_toArray,List.append_toArray,List.nil_append,List.cons_append]
  refine wpIn_mono (Q:=calm _) ?_ (fun _ _ _ h=>calm_imp h)
  refine wpIn_wide.2 ?_
  go_upto_region 1 with fail
  rw [← hw0]
  clear hw0
  go_wp2_with fail
  refine ⟨_,results_tmp rfl _ _ _,?_⟩
  exact ⟨ret_int HA.out.symm,HB0.out⟩
 ·have HA:=hidIt (show skA enc (asOf ps) k=-1 by unfold skA;rw [if_neg hk0,if_pos hbad])
  obtain ⟨d0,d3⟩:=HC.out w0 (Below.refl _ _)
  clear h hb0 kk0 htt
  refine (callsIn_wide (n:=9)).1 ?_
  refine callsIn_of_wp_marks Tryz.func36 rfl trivial ?_ rfl
  simp only [Tryz.ntmps36,List.size_toArray,List.length_cons,List.length_nil,Nat.reduceAdd,Nat.reduceSub,Array.replicate_succ,Array.replicate_zero,List.push_toArray,List.append_toArray,List.nil_append,List.cons_append]
  refine wpIn_mono (Q:=calm _) ?_ (fun _ _ _ h=>calm_imp h)
  refine wpIn_wide.2 ?_
  go_upto_region 1 with fail
  rw [← hw0]
  clear hw0
  by_cases hk1:k < 0
  ·go_upto_region 3 with fail
   refine wp_region_held_drew (S:=fun w''=>w''.cell? ⟨w.heap.size,0,none⟩=some (.int .i64 k)∧w''.cell? ⟨t,3,none⟩=some (.pointer u)) (by kernel_rfl) (⟨d0,d3⟩) (fun hHeld=>?_)
   refine tkH (v:=?_) 0 rfl ?_ ?_;rotate_left 1
   ·intro wq hSw;(try dsimp only at hSw);go_simp;try (with_reducible rfl)
   try simp only [Act.put,sA1,sA3,sA4,sA5,sA6]
   refine tkH (v:=?_) 1 rfl ?_ ?_;rotate_left 1
   ·intro wq hSw;(try dsimp only at hSw);go_simp;try (with_reducible rfl)
   try simp only [Act.put,sA1,sA2,sA3,sA4,sA5,sA6]
   refine tkH (v:=?_) 2 rfl ?_ ?_;rotate_left 1
   ·intro wq hSw;(try dsimp only at hSw);go_simp;try (with_reducible rfl)
   try simp only [Act.put,sA1,sA2,sA3,sA4,sA5,sA6]
   refine wpAnyH_take (i:=3) (oi:=_) (v:=undef) rfl (by kernel_rfl) (by kernel_rfl) (by kernel_rfl) (fun _ _ _ h=>h) (Or.inr ⟨by rfl,rfl⟩) (by assumption) ?_
   try simp only [Act.put,sA1,sA2,sA3,sA4,sA5,sA6]
   refine wpAnyH_take (i:=4) (oi:=_) (v:=undef) rfl (by kernel_rfl) (by kernel_rfl) (by kernel_rfl) (fun _ _ _ h=>h) (Or.inr ⟨by rfl,rfl⟩) (by assumption) ?_
   try simp only [Act.put,sA1,sA2,sA3,sA4,sA5,sA6]
   refine wpAnyH_take (i:=5) (oi:=_) (v:=undef) rfl (by kernel_rfl) (by kernel_rfl) (by kernel_rfl) (fun _ _ _ h=>h) (Or.inr ⟨by rfl,rfl⟩) (by assumption) ?_
   try simp only [Act.put,sA1,sA2,sA3,sA4,sA5,sA6]
   refine wpAnyH_take (i:=6) (oi:=_) (v:=undef) rfl (by kernel_rfl) (by kernel_rfl) (by kernel_rfl) (fun _ _ _ h=>h) (Or.inr ⟨by rfl,rfl⟩) (by assumption) ?_
   try simp only [Act.put,sA1,sA2,sA3,sA4,sA5,sA6]
   refine wpAnyH_take (i:=7) (oi:=_) (v:=undef) rfl (by kernel_rfl) (by kernel_rfl) (by kernel_rfl) (fun _ _ _ h=>h) (Or.inr ⟨by rfl,rfl⟩) (by assumption) ?_
   try simp only [Act.put,sA1,sA2,sA3,sA4,sA5,sA6]
   refine wpAnyH_take (i:=8) (oi:=_) (v:=undef) rfl (by kernel_rfl) (by kernel_rfl) (by kernel_rfl) (fun _ _ _ h=>h) (Or.inr ⟨by rfl,rfl⟩) (by assumption) ?_
   try simp only [Act.put,sA1,sA2,sA3,sA4,sA5,sA6]
   refine wpAnyH_take (i:=9) (oi:=_) (v:=undef) rfl (by kernel_rfl) (by kernel_rfl) (by kernel_rfl) (fun _ _ _ h=>h) (Or.inr ⟨by rfl,rfl⟩) (by assumption) ?_
   try simp only [Act.put,sA1,sA2,sA3,sA4,sA5,sA6]
   refine wpAnyH_take (i:=10) (oi:=_) (v:=undef) rfl (by kernel_rfl) (by kernel_rfl) (by kernel_rfl) (fun _ _ _ h=>h) (Or.inr ⟨by rfl,rfl⟩) (by assumption) ?_
   try simp only [Act.put,sA1,sA2,sA3,sA4,sA5,sA6]
   refine tkH (v:=?_) 11 rfl ?_ ?_;rotate_left 1
   ·intro wq hSw;(try dsimp only at hSw);go_simp;try (with_reducible rfl)
   try simp only [Act.put,sA1,sA2,sA3,sA4,sA5,sA6]
   refine wpAnyH_done (by kernel_rfl) ?_ _
   go_wp2_with fail
   refine ⟨_,results_tmp rfl _ _ _,?_⟩
   exact ⟨ret_int HA.out.symm,HB0.out.drew⟩
  ·have hbb:(spn enc (asOf ps)).b < k:=by omega
   go_upto_region 3 with fail
   refine wp_region_held_drew (S:=fun w''=>w''.cell? ⟨w.heap.size,0,none⟩=some (.int .i64 k)∧w''.cell? ⟨t,3,none⟩=some (.pointer u)) (by kernel_rfl) (⟨d0,d3⟩) (fun hHeld=>?_)
   refine tkH (v:=?_) 0 rfl ?_ ?_;rotate_left 1
   ·intro wq hSw;(try dsimp only at hSw);go_simp;try (with_reducible rfl)
   try simp only [Act.put,sA1,sA3,sA4,sA5,sA6]
   refine tkH (v:=?_) 1 rfl ?_ ?_;rotate_left 1
   ·intro wq hSw;(try dsimp only at hSw);go_simp;try (with_reducible rfl)
   try simp only [Act.put,sA1,sA2,sA3,sA4,sA5,sA6]
   refine tkH (v:=?_) 2 rfl ?_ ?_;rotate_left 1
   ·intro wq hSw;(try dsimp only at hSw);go_simp;try (with_reducible rfl)
   try simp only [Act.put,sA1,sA2,sA3,sA4,sA5,sA6]
   refine tkH (v:=?_) 3 rfl ?_ ?_;rotate_left 1
   ·intro wq hSw;(try dsimp only at hSw);go_simp;try (with_reducible rfl)
   try simp only [Act.put,sA1,sA2,sA3,sA4,sA5,sA6]
   refine tkH (v:=?_) 4 rfl ?_ ?_;rotate_left 1
   ·intro wq hSw;(try dsimp only at hSw);go_simp;try (with_reducible rfl)
   try simp only [Act.put,sA1,sA2,sA3,sA4,sA5,sA6]
   refine tkH (v:=?_) 5 rfl ?_ ?_;rotate_left 1
   ·intro wq hSw;(try dsimp only at hSw);go_simp;try (with_reducible rfl)
   try simp only [Act.put,sA1,sA2,sA3,sA4,sA5,sA6]
   refine tkH (v:=?_) 6 rfl ?_ ?_;rotate_left 1
   ·intro wq hSw;(try dsimp only at hSw);go_simp;try (with_reducible rfl)
   try simp only [Act.put,sA1,sA2,sA3,sA4,sA5,sA6]
   refine tkH (v:=?_) 7 rfl ?_ ?_;rotate_left 1
   ·intro wq hSw;(try dsimp only at hSw);go_simp;try (with_reducible rfl)
   try simp only [Act.put,sA1,sA2,sA3,sA4,sA5,sA6]
   refine wpAnyH_ready (rs:=[8]) (by kernel_rfl) (by simp) ?_
   refine AllReadyH.cons (o:=_) rfl (fun K hK=>?_) AllReadyH.nil
   go_simp
   refine (SU.out _ (Below.drew (Below.refl _ _))).mono ?_;clear d0 d3;rintro e v1 ⟨⟨sa,ss,sb,sf,sr⟩,hs,rfl,hb⟩;obtain rfl:sb=(spn enc (asOf ps)).b:=hs.out;have HV1:=hidIt (ext_trans (Below.drew (Below.refl w0.heap.size w0)) hb);clear hb;obtain ⟨d0,d3⟩:=HC.out v1 HV1.out;try dsimp only
   refine hK.out _ _ ?_ (fun hHeld=>?_)
   ·(try simp only [World.cell?_drew]);exact ⟨d0,d3⟩
   clear hK K
   try simp only [Act.put,sA1,sA2,sA3,sA4,sA5,sA6]
   refine tkH (v:=?_) 9 rfl ?_ ?_;rotate_left 1
   ·intro wq hSw;(try dsimp only at hSw);go_simp;try (with_reducible rfl)
   try simp only [Act.put,sA1,sA2,sA3,sA4,sA5,sA6]
   refine tkH (v:=?_) 10 rfl ?_ ?_;rotate_left 1
   ·intro wq hSw;(try dsimp only at hSw);go_simp;try (with_reducible rfl)
   try simp only [Act.put,sA1,sA2,sA3,sA4,sA5,sA6]
   refine tkH (v:=?_) 11 rfl ?_ ?_;rotate_left 1
   ·intro wq hSw;(try dsimp only at hSw);go_simp;try (with_reducible rfl)
   try simp only [Act.put,sA1,sA2,sA3,sA4,sA5,sA6]
   refine wpAnyH_done (by kernel_rfl) ?_ _
   go_wp2_with fail
   refine ⟨_,results_tmp rfl _ _ _,?_⟩
   exact ⟨ret_int HA.out.symm,ext_trans HB0.out HV1.out⟩
 ·have hk1:¬ k < 0:=by omega
  have hk2:¬ k=0:=by omega
  have hk3:¬ (spn enc (asOf ps)).b < k:=by omega
  obtain ⟨i,hfi,hil,hib⟩:=find_brk h.pc k hk0 hkb
  have h':Pcs enc L w (ps.take i):=fun q hq=>h.pc q (List.mem_of_mem_take hq)
  have hwt:wt (xsOf ps)≤4611686018427387904:=by have:=h.pc.wt;have:=h.sz;omega
  have hpl:ps.length≤65536:=by have:=h.pc.len;have:=ln_ge enc (asOf ps);have:=h.sz;omega
  obtain ⟨f,hf⟩:∃ f,f=(asOf (ps.take i)).length:=⟨_,rfl⟩
  have eA:asOf ps=asOf (ps.take i) ++ asOf (ps.drop i):=by rw [← asOf_app,List.take_append_drop]
  have hfl:f≤(sh enc ps).length:=by rw [hf,sh_len,eA];simp
  have FD:Hid (∀ w',Below w0.heap.size w0 w'→Calls Tryz.prog 65 #[.agg #[.pointer u],.int .i64 1,.int .i64 k] w' fun e w''=>e=.returned (.int .i64 ((i + 1:Nat):Int))∧Below w'.heap.size w' w''):=fun w' hb=>by rw [← hfi];exact Find_any u (xsOf ps) 1 k w' (htt.ext (ext_trans hb0 hb)) hwt
  have HUP:Hid (rA.su ((xsOf ps).take i)=spn enc (asOf (ps.take i))):=by
   unfold Hid
   rw [show (xsOf ps).take i=xsOf (ps.take i) by simp [xsOf,List.map_take],h'.su]
  have UP:Hid (∀ w',Below w0.heap.size w0 w'→Calls Tryz.prog 67 #[.agg #[.pointer u],.int .i64 (i:Nat)] w' fun e w''=>∃ s,Hid (s=spn enc (asOf (ps.take i)))∧e=.returned (.agg #[.int .i64 s.a,.int .i64 s.s,.int .i64 s.b,.bool s.lf,.bool s.cr])∧Below w'.heap.size w' w''):=fun w' hb=>by
   have:=Upto_any u (xsOf ps) (i:Nat) w' (htt.ext (ext_trans hb0 hb)) hwt (by omega)
   rw [Int.toNat_natCast,HUP.out] at this
   exact this
  have HSF:Hid (∀ s,s=spn enc (asOf (ps.take i))→Rs.Ok s∧s.a=(f:Nat)∧s.s≤65536∧s.b≤(f:Nat)):=by
   rintro s rfl
   have a1:=spn_a enc _ h'.fit
   have b1:=spn_b enc (asOf (ps.take i))
   have l5:ln enc (asOf (ps.take i))≤65536:=by have h1:=h.sz;rw [eA,ln_app] at h1;omega
   exact ⟨spn_ok enc _,by rw [a1.1,hf],by rw [a1.2];omega,by rw [hf];omega⟩
  have LN:Hid (∀ w',Below w0.heap.size w0 w'→Calls Tryz.prog 34 #[.pointer (some ⟨t,0,none⟩)] w' fun e w''=>e=.returned (.int .i64 (sh enc ps).length)∧Below w'.heap.size w' w''):=fun w' hb=>Len_any enc lim L w' t ps (h.ext (ext_trans hb0 hb))
  have HBT2:Hid ((btw enc ps f (sh enc ps).length).map Prod.fst=asOf (ps.drop i)):=by
   unfold Hid btw
   rw [List.take_of_length_le (by rw [List.length_drop];exact Nat.le_refl _),List.map_drop,sh_fst,eA,hf,List.drop_left]
  have HANS:Hid (skA enc (asOf ps) k=((f + skL k (spn enc (asOf (ps.take i))).b (spn enc (asOf (ps.take i))).cr (asOf (ps.drop i)):Nat):Int)):=by
   unfold Hid skA
   rw [if_neg hk2,if_neg (by omega),hf]
   conv=>lhs;rw [eA]
   rw [skL_skip enc k _ _ _ rfl hib]
  obtain ⟨d0,d3⟩:=HC.out w0 (Below.refl _ _)
  have hwi:IntKind.i64.wrap (((i + 1:Nat):Int) - 1)=(i:Nat):=by rw [IntKind.wrap_i64];omega
  obtain ⟨ll,hll⟩:∃ ll,ll=(sh enc ps).length:=⟨_,rfl⟩
  rw [← hll] at LN HBT2 hfl hsl
  have HLL:=hidIt hll
  obtain ⟨ans,hans⟩:∃ ans,ans=f + skL k (spn enc (asOf (ps.take i))).b (spn enc (asOf (ps.take i))).cr (asOf (ps.drop i)):=⟨_,rfl⟩
  rw [← hans] at HANS
  have HAN:=hidIt hans
  have hwi':IntKind.i64.wrap (i:Int)=(i:Int):=by rw [IntKind.wrap_i64];omega
  clear hll hans
  clear h h' kk0 htt hfi hib hwt eA hf hkb
  refine (callsIn_wide (n:=9)).1 ?_
  refine callsIn_of_wp_marks Tryz.func36 rfl trivial ?_ rfl
  simp only [Tryz.ntmps36,List.size_toArray,List.length_cons,List.length_nil,Nat.reduceAdd,Nat.reduceSub,Array.replicate_succ,Array.replicate_zero,List.push_toArray,List.append_toArray,List.nil_append,List.cons_append]
  refine wpIn_mono (Q:=calm _) ?_ (fun _ _ _ h=>calm_imp h)
  refine wpIn_wide.2 ?_
  go_upto_region 1 with fail
  rw [← hw0]
  clear hw0
  go_upto_region 3 with fail
  refine wp_region_held_drew (S:=fun w''=>w''.cell? ⟨w.heap.size,0,none⟩=some (.int .i64 k)∧w''.cell? ⟨t,3,none⟩=some (.pointer u)) (by kernel_rfl) (⟨d0,d3⟩) (fun hHeld=>?_)
  refine tkH (v:=?_) 0 rfl ?_ ?_;rotate_left 1
  ·intro wq hSw;(try dsimp only at hSw);go_simp;try (with_reducible rfl)
  try simp only [Act.put,sA1,sA3,sA4,sA5,sA6]
  refine tkH (v:=?_) 1 rfl ?_ ?_;rotate_left 1
  ·intro wq hSw;(try dsimp only at hSw);go_simp;try (with_reducible rfl)
  try simp only [Act.put,sA1,sA2,sA3,sA4,sA5,sA6]
  refine tkH (v:=?_) 2 rfl ?_ ?_;rotate_left 1
  ·intro wq hSw;(try dsimp only at hSw);go_simp;try (with_reducible rfl)
  try simp only [Act.put,sA1,sA2,sA3,sA4,sA5,sA6]
  refine tkH (v:=?_) 3 rfl ?_ ?_;rotate_left 1
  ·intro wq hSw;(try dsimp only at hSw);go_simp;try (with_reducible rfl)
  try simp only [Act.put,sA1,sA2,sA3,sA4,sA5,sA6]
  refine tkH (v:=?_) 4 rfl ?_ ?_;rotate_left 1
  ·intro wq hSw;(try dsimp only at hSw);go_simp;try (with_reducible rfl)
  try simp only [Act.put,sA1,sA2,sA3,sA4,sA5,sA6]
  refine tkH (v:=?_) 5 rfl ?_ ?_;rotate_left 1
  ·intro wq hSw;(try dsimp only at hSw);go_simp;try (with_reducible rfl)
  try simp only [Act.put,sA1,sA2,sA3,sA4,sA5,sA6]
  refine tkH (v:=?_) 6 rfl ?_ ?_;rotate_left 1
  ·intro wq hSw;(try dsimp only at hSw);go_simp;try (with_reducible rfl)
  try simp only [Act.put,sA1,sA2,sA3,sA4,sA5,sA6]
  refine tkH (v:=?_) 7 rfl ?_ ?_;rotate_left 1
  ·intro wq hSw;(try dsimp only at hSw);go_simp;try (with_reducible rfl)
  try simp only [Act.put,sA1,sA2,sA3,sA4,sA5,sA6]
  refine wpAnyH_ready (rs:=[8]) (by kernel_rfl) (by simp) ?_
  refine AllReadyH.cons (o:=_) rfl (fun K hK=>?_) AllReadyH.nil
  go_simp
  refine (SU.out _ (Below.drew (Below.refl _ _))).mono ?_;clear d0 d3;rintro e v1 ⟨⟨sa,ss,sb,sf,sr⟩,hs,rfl,hb⟩;obtain rfl:sb=(spn enc (asOf ps)).b:=hs.out;have HV1:=hidIt (ext_trans (Below.drew (Below.refl w0.heap.size w0)) hb);clear hb;obtain ⟨d0,d3⟩:=HC.out v1 HV1.out;try dsimp only
  refine hK.out _ _ ?_ (fun hHeld=>?_)
  ·(try simp only [World.cell?_drew]);exact ⟨d0,d3⟩
  clear hK K
  try simp only [Act.put,sA1,sA2,sA3,sA4,sA5,sA6]
  refine tkH (v:=?_) 9 rfl ?_ ?_;rotate_left 1
  ·intro wq hSw;(try dsimp only at hSw);go_simp;try (with_reducible rfl)
  try simp only [Act.put,sA1,sA2,sA3,sA4,sA5,sA6]
  refine tkH (v:=?_) 10 rfl ?_ ?_;rotate_left 1
  ·intro wq hSw;(try dsimp only at hSw);go_simp;try (with_reducible rfl)
  try simp only [Act.put,sA1,sA2,sA3,sA4,sA5,sA6]
  refine tkH (v:=?_) 11 rfl ?_ ?_;rotate_left 1
  ·intro wq hSw;(try dsimp only at hSw);go_simp;try (with_reducible rfl)
  try simp only [Act.put,sA1,sA2,sA3,sA4,sA5,sA6]
  refine wpAnyH_done (by kernel_rfl) ?_ _
  skip
  go_upto_region 5 with fail
  refine wp_region_held_drew (S:=fun w''=>w''.cell? ⟨w.heap.size,0,none⟩=some (.int .i64 k)∧w''.cell? ⟨t,3,none⟩=some (.pointer u)) (by kernel_rfl) (⟨d0,d3⟩) (fun hHeld=>?_)
  refine tkH (v:=?_) 0 rfl ?_ ?_;rotate_left 1
  ·intro wq hSw;(try dsimp only at hSw);go_simp;try (with_reducible rfl)
  try simp only [Act.put,sA1,sA3,sA4,sA5,sA6]
  refine tkH (v:=?_) 1 rfl ?_ ?_;rotate_left 1
  ·intro wq hSw;(try dsimp only at hSw);go_simp;try (with_reducible rfl)
  try simp only [Act.put,sA1,sA2,sA3,sA4,sA5,sA6]
  refine tkH (v:=?_) 2 rfl ?_ ?_;rotate_left 1
  ·intro wq hSw;(try dsimp only at hSw);go_simp;try (with_reducible rfl)
  try simp only [Act.put,sA1,sA2,sA3,sA4,sA5,sA6]
  refine tkH (v:=?_) 3 rfl ?_ ?_;rotate_left 1
  ·intro wq hSw;(try dsimp only at hSw);go_simp;try (with_reducible rfl)
  try simp only [Act.put,sA1,sA2,sA3,sA4,sA5,sA6]
  refine tkH (v:=?_) 4 rfl ?_ ?_;rotate_left 1
  ·intro wq hSw;(try dsimp only at hSw);go_simp;try (with_reducible rfl)
  try simp only [Act.put,sA1,sA2,sA3,sA4,sA5,sA6]
  refine wpAnyH_ready (rs:=[5]) (by kernel_rfl) (by simp) ?_
  refine AllReadyH.cons (o:=_) rfl (fun K hK=>?_) AllReadyH.nil
  go_simp
  refine (FD.out _ HV1.out.drew).mono ?_;clear d0 d3;rintro e v2 ⟨rfl,hb⟩;have HV2:=hidIt (ext_trans HV1.out.drew hb);clear hb;obtain ⟨d0,d3⟩:=HC.out v2 HV2.out;try dsimp only
  refine hK.out _ _ ?_ (fun hHeld=>?_)
  ·(try simp only [World.cell?_drew]);exact ⟨d0,d3⟩
  clear hK K
  try simp only [Act.put,sA1,sA2,sA3,sA4,sA5,sA6]
  refine tkH (v:=?_) 6 rfl ?_ ?_;rotate_left 1
  ·intro wq hSw;(try dsimp only at hSw);go_simp;try (with_reducible rfl)
  try simp only [Act.put,sA1,sA2,sA3,sA4,sA5,sA6]
  refine tkH (v:=?_) 7 rfl ?_ ?_;rotate_left 1
  ·intro wq hSw;(try dsimp only at hSw);go_simp;try (with_reducible rfl)
  try simp only [Act.put,sA1,sA2,sA3,sA4,sA5,sA6]
  refine wpAnyH_done (by kernel_rfl) ?_ _
  skip
  go_upto_region 7 with (go_at_call 67;refine (UP.out _ HV2.out).mono ?_;clear d0 d3;rintro e v3 ⟨s,hs,rfl,hb⟩;have HS3:=hidIt hs.out;have HV3:=hidIt (ext_trans HV2.out hb);clear hb hs;(try dsimp only))
  obtain ⟨v4,hv4,kb4,hb4⟩:∃ v4,v4=v3.alloc (.cells #[.int .i64 s.a,.int .i64 s.s,.int .i64 s.b,.bool s.lf,.bool s.cr] 119)∧Blk 119 v4 v3.heap.size s∧Below v3.heap.size v3 v4:=⟨_,rfl,heap_alloc_new _ _,ext_alloc (Below.refl _ _) _⟩
  rw [← hv4]
  clear hv4
  obtain ⟨HOK,hsa,hss,hsb⟩:=HSF.out s HS3.out
  have HV4:=hidIt (ext_trans HV3.out hb4)
  obtain ⟨d6,_,_,_,_⟩:=kb4.cells
  rw [hsa] at d6
  obtain ⟨v5,hv5,ka5,hb5⟩:∃ v5,v5=v4.alloc (.cells #[.int .i64 (f:Nat)] 3)∧v5.heap[v4.heap.size]?=some (.cells #[.int .i64 (f:Nat)] 3 (0,0))∧Below v4.heap.size v4 v5:=⟨_,rfl,heap_alloc_new _ _,ext_alloc (Below.refl _ _) _⟩
  go_upto_region 8 with fail
  rw [← hv5]
  clear hv5 d6
  have HV5:=hidIt (ext_trans HV4.out hb5)
  have HKB5:=hidIt (kb4.ext hb5)
  have HKA5:=hidIt ka5
  have HCA:Hid (∀ w',Below v5.heap.size v5 w'→w'.cell? ⟨v4.heap.size,0,none⟩=some (.int .i64 (f:Nat))):=fun w' hb=>by
   have e:=(hb.block _ (Array.getElem?_eq_some_iff.1 ka5).1).trans ka5
   rw [cell_of_row w' _ _ _ _ _ e];rfl
  have z34:v3.heap.size < v4.heap.size:=kb4.lt
  have z45:v4.heap.size < v5.heap.size:=(Array.getElem?_eq_some_iff.1 ka5).1
  have z03:w.heap.size < v3.heap.size:=Nat.lt_of_lt_of_le (Array.getElem?_eq_some_iff.1 HKK.out).1 HV3.out.size
  clear kb4 ka5 hb4 hb5
  have ca:=HCA.out v5 (Below.refl _ _)
  refine wp_region_held_drew (S:=fun w''=>w''.cell? ⟨v4.heap.size,0,none⟩=some (.int .i64 (f:Nat))) (by kernel_rfl) (ca) (fun hHeld=>?_)
  refine tkH (v:=?_) 0 rfl ?_ ?_;rotate_left 1
  ·intro wq hSw;(try dsimp only at hSw);go_simp;try (with_reducible rfl)
  try simp only [Act.put,sA1,sA3,sA4,sA5,sA6]
  refine tkH (v:=?_) 1 rfl ?_ ?_;rotate_left 1
  ·intro wq hSw;(try dsimp only at hSw);go_simp;try (with_reducible rfl)
  try simp only [Act.put,sA1,sA2,sA3,sA4,sA5,sA6]
  refine tkH (v:=?_) 2 rfl ?_ ?_;rotate_left 1
  ·intro wq hSw;(try dsimp only at hSw);go_simp;try (with_reducible rfl)
  try simp only [Act.put,sA1,sA2,sA3,sA4,sA5,sA6]
  refine wpAnyH_ready (rs:=[3]) (by kernel_rfl) (by simp) ?_
  refine AllReadyH.cons (o:=_) rfl (fun K hK=>?_) AllReadyH.nil
  go_simp
  refine (LN.out _ HV5.out.drew).mono ?_;clear ca;rintro e v6 ⟨rfl,hb⟩;have HV56:=hidIt (ext_trans (Below.drew (Below.refl v5.heap.size v5)) hb);clear hb;have ca:=HCA.out v6 HV56.out;try dsimp only
  refine hK.out _ _ ?_ (fun hHeld=>?_)
  ·(try simp only [World.cell?_drew]);exact ca
  clear hK K
  try simp only [Act.put,sA1,sA2,sA3,sA4,sA5,sA6]
  refine wpAnyH_ready (rs:=[4]) (by kernel_rfl) (by simp) ?_
  refine AllReadyH.cons (o:=_) rfl (fun K hK=>?_) AllReadyH.nil
  go_simp
  refine (between_any t (f:Nat) (ll:Nat) v6).mono ?_;clear ca;rintro e v7 ⟨rfl,hv7⟩;have HW7:=hidIt hv7;clear hv7;have HV67:Hid (Below v6.heap.size v6 v7):=(by unfold Hid;rw [HW7.out];exact ext_alloc (ext_alloc (ext_alloc (Below.refl _ _) _) _) _);have ca:=HCA.out v7 (ext_trans HV56.out HV67.out);try dsimp only
  refine hK.out _ _ ?_ (fun hHeld=>?_)
  ·(try simp only [World.cell?_drew]);exact ca
  clear hK K
  try simp only [Act.put,sA1,sA2,sA3,sA4,sA5,sA6]
  refine wpAnyH_done (by kernel_rfl) ?_ _
  skip
  have HW57:=hidIt (ext_trans HV56.out HV67.out)
  have hs7:v7.heap.size=v6.heap.size + 3:=by rw [HW7.out];simp
  have z56:=HV56.out.size
  have HK7:Hid (v7.heap[v6.heap.size]?=some (.cells #[.pointer (some ⟨t,0,none⟩)] 24 (0,0))∧v7.heap[v6.heap.size + 1]?=some (.cells #[.int .i64 (f:Nat)] 3 (0,0))∧v7.heap[v6.heap.size + 2]?=some (.cells #[.int .i64 (ll:Nat)] 3 (0,0))):=by
   unfold Hid
   rw [HW7.out]
   refine ⟨?_,?_,?_⟩
   ·exact (Below.heap_alloc _ _ _ (by simp;omega)).trans ((Below.heap_alloc _ _ _ (by simp)).trans (heap_alloc_new _ _))
   ·have e:v6.heap.size + 1=(v6.alloc (.cells #[.pointer (some ⟨t,0,none⟩)] 24)).heap.size:=by simp
    rw [e]
    exact (Below.heap_alloc _ _ _ (by simp)).trans (heap_alloc_new _ _)
   ·have e:v6.heap.size + 2=((v6.alloc (.cells #[.pointer (some ⟨t,0,none⟩)] 24)).alloc (.cells #[.int .i64 (f:Nat)] 3)).heap.size:=by simp
    rw [e]
    exact heap_alloc_new _ _
  have HBw7:=hidIt (ext_trans HB0.out (ext_trans HV5.out HW57.out))
  have SQ:=hidIt (between_stops 8 enc lim L t ps f ll hfl (by rw [HLL.out];exact Nat.le_refl _) w HT.out v7 HBw7.out v6.heap.size (v6.heap.size + 1) (v6.heap.size + 2) (by omega) (by omega) (by omega) HK7.out.1 HK7.out.2.1 HK7.out.2.2)
  have HI7:Hid (SkI w.heap.size v3.heap.size v4.heap.size k s.b s.cr f s [] v7):=by
   refine ⟨?_,HKB5.out.ext HW57.out,?_,HOK,by simpa using hsa,hss,by simpa using hsb,fun rest=>by simp⟩
   ·exact ((ext_trans HV5.out HW57.out).block _ (Array.getElem?_eq_some_iff.1 HKK.out).1).trans HKK.out
   ·exact (HW57.out.block _ (Array.getElem?_eq_some_iff.1 HKA5.out).1).trans HKA5.out
  have hs77:=HBw7.out.size
  have hd3:w.heap.size≠v3.heap.size∧w.heap.size≠v4.heap.size∧v3.heap.size≠v4.heap.size:=by omega
  have HD3:=hidIt hd3
  have HSE:=hidIt (show s.b=(spn enc (asOf (ps.take i))).b∧s.cr=(spn enc (asOf (ps.take i))).cr by rw [HS3.out];exact ⟨rfl,rfl⟩)
  clear hd3 HW7 HKB5 HKA5 ca HCA FD UP LN SU HUP HSF HC HOK hsa hss hsb
  go_upto_block 0 with fail
  refine (wpIn_wide (n:=9)).1 ?_
  gi_wp2_with fail
  refine range_x (σ:=Rs) rfl (by omega) (gf:=99) (lb:=#[.pointer (some ⟨v6.heap.size,0,none⟩),.pointer (some ⟨v6.heap.size + 1,0,none⟩),.pointer (some ⟨v6.heap.size + 2,0,none⟩)]) rfl trivial (enters_of Tryz.func99 (by kernel_rfl) rfl) SQ.out (Kps.refl _ _) (fun _=>rfl)
   (skO w.heap.size v3.heap.size v4.heap.size) (fun r pre W=>SkI w.heap.size v3.heap.size v4.heap.size k s.b s.cr f r pre W) (fun c _ _ W=>c=.exit 0∧W.heap[v4.heap.size]?=some (.cells #[.int .i64 (ans:Nat)] 3 (0,0))) s ?rel (fun _=>False) (fun _ h=>h.elim) (fun _ _ _ _ h _ hk=>h.same (fun k ho=>hk k (.inl ho))) (fun _ _ _ _ _ h _ hk=>⟨h.1,(hk _ (.inl (.inr (.inr rfl)))).trans h.2⟩) (fun _ _ _ h=>h.lives) ?h0
   (fun q a' W=>a'={ tmps:=#[.pointer (some ⟨t,0,none⟩),.int .i64 k,undef,.pointer (some ⟨w.heap.size,0,none⟩),.int .i64 0,.int .i64 i,.pointer (some ⟨v3.heap.size,0,none⟩),.pointer (some ⟨v4.heap.size,0,none⟩),.int .i64 q.1,.int .i64 k,.bool false,.int .i64 k,.bool false,.bool false,.int .i64 k,.pointer (some ⟨t,0,none⟩),.pointer (some ⟨t,0,none⟩),.pointer (some ⟨t,3,none⟩),.agg #[.pointer u],.agg #[.int .i64 sa,.int .i64 ss,.int .i64 (spn enc (asOf ps)).b,.bool sf,.bool sr],.int .i64 (spn enc (asOf ps)).b,.bool false,.bool false,.pointer (some ⟨t,0,none⟩),.pointer (some ⟨t,0,none⟩),.pointer (some ⟨t,3,none⟩),.agg #[.pointer u],.int .i64 k,.int .i64 (i + 1),.int .i64 i,.pointer (some ⟨t,0,none⟩),.pointer (some ⟨t,0,none⟩),.pointer (some ⟨t,3,none⟩),.agg #[.pointer u],.int .i64 i,.agg #[.int .i64 f,.int .i64 s.s,.int .i64 s.b,.bool s.lf,.bool s.cr],.pointer (some ⟨v3.heap.size,0,none⟩),.int .i64 f,.pointer (some ⟨t,0,none⟩),.int .i64 f,.pointer (some ⟨t,0,none⟩),.int .i64 ll,.func (.func 99) #[] #[.pointer (some ⟨v6.heap.size,0,none⟩),.pointer (some ⟨v6.heap.size + 1,0,none⟩),.pointer (some ⟨v6.heap.size + 2,0,none⟩)],.int .i64 q.1,.int .i64 q.2,undef,undef,undef,undef,undef,undef,undef,undef,undef,undef,undef,undef,undef,undef,undef,undef,undef,undef,undef],defers:=[] }) (fun _ _ _ _ h _ _=>h) ?assign ?body ?done ?stop
  case rel =>
   intro j hj
   have hng:skO w.heap.size v3.heap.size v4.heap.size s j→j=w.heap.size∨j=v3.heap.size∨j=v4.heap.size:=id
   rcases hj with hj | rfl | rfl | rfl
   ·exact ⟨by omega,fun h=>by have:=hng h;omega⟩
   ·exact ⟨by omega,fun h=>by have:=hng h;omega⟩
   ·exact ⟨by omega,fun h=>by have:=hng h;omega⟩
   ·exact ⟨by omega,fun h=>by have:=hng h;omega⟩
  case h0=>exact HI7.out
  case assign =>
   intro l q W K hz hK
   gi_wp2_with fail
   exact hK _ _ (Below.refl _ _) rfl
  case body =>
   rintro l r pre q a' W hI rfl hSp hzW
   have HI:=hidIt hI
   obtain ⟨rest,hrest⟩:=hSp
   have HRS:Hid (ans=f + (pre.length + skL k r.b r.cr (q.1 :: rest.map Prod.fst))):=by
    unfold Hid
    rw [HAN.out,← HSE.out.1,← HSE.out.2,← HBT2.out,← hrest,List.map_append,List.map_append,List.append_assoc,hI.sk]
    rfl
   have hpl:f + pre.length + 1≤ll:=by
    have h1:=congrArg List.length hrest
    rw [btw_len (by rw [HLL.out];exact Nat.le_refl _)] at h1
    simp at h1
    omega
   obtain ⟨d5,_,_,_,f5⟩:=hI.sb.cells
   have ck:W.cell? ⟨w.heap.size,0,none⟩=some (.int .i64 k):=by rw [cell_of_row W _ _ _ _ _ hI.kb];rfl
   have ca:W.cell? ⟨v4.heap.size,0,none⟩=some (.int .i64 ((f + pre.length:Nat):Int)):=by rw [cell_of_row W _ _ _ _ _ hI.ab];rfl
   have fa:∀ i,W.frozen? ⟨v4.heap.size,i,none⟩=false:=fun i=>by simp [World.frozen?,hI.ab]
   have hla:v4.heap.size < W.heap.size:=hI.lives _ (.inr (.inr rfl))
   obtain ⟨fp,hfp⟩:∃ fp,fp=f + pre.length:=⟨_,rfl⟩
   rw [← hfp] at ca hpl
   have HFP:=hidIt hfp
   have hwfp:IntKind.i64.wrap ((fp:Int) + 1)=((fp + 1:Nat):Int):=by rw [IntKind.wrap_i64];omega
   clear hrest hI hfp
   by_cases hbk:r.b=k
   ·rw [hbk] at d5
    have HBK:=hidIt hbk
    clear hbk
    refine wpIn_block ?_
    cases hcr:r.cr with
    | true =>
      rw [hcr] at d5
      by_cases hq:q.1=10
      ·have HQ:=hidIt hq
       have hA2:(ans:Int)=(fp:Int) + 1:=by rw [HRS.out,skL,if_pos HBK.out,if_pos ⟨hcr,hq⟩,HFP.out];omega
       have HA2:=hidIt hA2
       clear hA2
       gi_wp2_with fail
       refine ⟨r,⟨rfl,(set1 HI.out.ab 0 _).1.trans ?_⟩,Kps.grown (set1 HI.out.ab 0 _).2 (fun j e _=>.inr (.inr (Option.some.inj e).symm)),fun k h=>.inl h⟩
       rw [HA2.out]
       rfl
      ·have hA2:ans=f + pre.length:=by rw [HRS.out,skL,if_pos HBK.out,if_neg (fun e=>hq e.2),Nat.add_zero]
       have HA2:=hidIt hA2
       clear hA2
       gi_wp2_with fail
       refine ⟨r,⟨rfl,?_⟩,Kps.refl _ _,fun k h=>.inl h⟩
       rw [HA2.out]
       exact HI.out.ab
    | false =>
      rw [hcr] at d5
      have hA2:ans=f + pre.length:=by rw [HRS.out,skL,if_pos HBK.out,if_neg (fun e=>by rw [hcr] at e;cases e.1),Nat.add_zero]
      have HA2:=hidIt hA2
      clear hA2
      gi_wp2_with fail
      refine ⟨r,⟨rfl,?_⟩,Kps.refl _ _,fun k h=>.inl h⟩
      rw [HA2.out]
      exact HI.out.ab
   ·have HBK:=hidIt hbk
    have hbk':¬ k=r.b:=fun e=>hbk e.symm
    have SGL:Hid (∀ w',Calls Tryz.prog 71 #[.int .i64 q.1,.int .i64 0] w' fun e w''=>e=.returned (.agg #[.int .i64 (sg q.1 0).a,.int .i64 (sg q.1 0).s,.int .i64 (sg q.1 0).b,.bool (sg q.1 0).lf,.bool (sg q.1 0).cr])∧Below w'.heap.size w' w''):=fun w'=>single_any q.1 0 w'
    have ADD:Hid (∀ w',Calls Tryz.prog 69 #[.agg #[.int .i64 r.a,.int .i64 r.s,.int .i64 r.b,.bool r.lf,.bool r.cr],.agg #[.int .i64 (sg q.1 0).a,.int .i64 (sg q.1 0).s,.int .i64 (sg q.1 0).b,.bool (sg q.1 0).lf,.bool (sg q.1 0).cr]] w' fun e w''=>∃ z,Hid (z=Rs.add r (sg q.1 0))∧e=.returned (.agg #[.int .i64 z.a,.int .i64 z.s,.int .i64 z.b,.bool z.lf,.bool z.cr])∧Below w'.heap.size w' w''):=fun w'=>by
     have o1:=HI.out.ok
     have o2:=sg_ok q.1 0 (Int.le_refl _)
     have e1:=HI.out.sa
     have e2:=HI.out.ss
     have e3:=HI.out.bb
     have e4:=HFP.out
     have e5:(sg q.1 0).a=1∧(sg q.1 0).s=0∧(sg q.1 0).b≤1:=by unfold sg;refine ⟨rfl,rfl,?_⟩;simp only;split <;> omega
     exact Add_any r (sg q.1 0) w' o1.a0 o2.a0 o1.s0 o2.s0 o1.b0 o2.b0 (by omega) (by omega) (by omega)
    have HCS:Hid (∀ W',Below W.heap.size W W'→(W'.cell? ⟨v3.heap.size,0,none⟩=some (.int .i64 r.a)∧W'.cell? ⟨v3.heap.size,1,none⟩=some (.int .i64 r.s)∧W'.cell? ⟨v3.heap.size,2,none⟩=some (.int .i64 r.b)∧W'.cell? ⟨v3.heap.size,3,none⟩=some (.bool r.lf)∧W'.cell? ⟨v3.heap.size,4,none⟩=some (.bool r.cr))∧(∀ i,W'.frozen? ⟨v3.heap.size,i,none⟩=false)∧W'.cell? ⟨v4.heap.size,0,none⟩=some (.int .i64 (fp:Nat))∧(∀ i,W'.frozen? ⟨v4.heap.size,i,none⟩=false)∧Blk 119 W' v3.heap.size r):=fun W' hb=>by
     have b1:=HI.out.sb.ext hb
     have e:=(hb.block _ (Array.getElem?_eq_some_iff.1 HI.out.ab).1).trans HI.out.ab
     rw [← HFP.out] at e
     exact ⟨b1.cells.1,b1.cells.2.2.2.2,by rw [cell_of_row W' _ _ _ _ _ e];rfl,fun i=>by simp [World.frozen?,e],b1⟩
    refine wpIn_block ?_
    gi_wp2_with fail
    refine wpIn_heldC (S:=fun w''=>w''.cell? ⟨v4.heap.size,0,none⟩=some (.int .i64 (fp:Nat))) ?nd (fun ⟨a,w,h⟩=>h) (by kernel_rfl) (by simp only [World.cell?_drew];exact ca) (fun hHeld=>?_)
    case nd =>
     intro i o h
     rcases i with _ | _ | _ | _ | _ | i
     all_goals first | (obtain rfl:=Option.some.inj h;intro c hc;cases hc) | (simp at h)
    refine tkH (v:=?_) 1 rfl ?_ ?_;rotate_left 1
    ·intro wq hSw;(try dsimp only at hSw);go_simp;try (with_reducible rfl)
    try simp only [Act.put,sA1,sA2,sA3,sA4,sA5,sA6]
    refine wpAnyH_ready (rs:=[0,2]) (by kernel_rfl) (by simp) ?_
    refine (AllReadyH.cons (o:=_) rfl (fun K hK=>?_) (AllReadyH.cons (o:=_) rfl (fun K hK=>?_) AllReadyH.nil))
    ·skip
     go_simp
     refine hK.out _ _ ?_ (fun hHeld=>?_)
     ·(try simp only [World.cell?_drew]);exact ca
     clear hK K
     try simp only [Act.put,sA1,sA2,sA3,sA4,sA5,sA6]
     refine wpAnyH_ready (rs:=[2]) (by kernel_rfl) (by simp) ?_
     refine AllReadyH.cons (o:=_) rfl (fun K hK=>?_) AllReadyH.nil
     go_simp
     refine (SGL.out _).mono ?_;clear d5 f5 ca fa;rintro e X1 ⟨rfl,hb⟩;have HX1:=hidIt (ext_trans (Below.drew (Below.refl W.heap.size W)) hb);clear hb;obtain ⟨d5,f5,ca,fa,_⟩:=HCS.out X1 HX1.out;try dsimp only
     refine hK.out _ _ ?_ (fun hHeld=>?_)
     ·(try simp only [World.cell?_drew]);exact ca
     clear hK K
     try simp only [Act.put,sA1,sA2,sA3,sA4,sA5,sA6]
     refine wpAnyH_ready (rs:=[3]) (by kernel_rfl) (by simp) ?_
     refine AllReadyH.cons (o:=_) rfl (fun K hK=>?_) AllReadyH.nil
     go_simp
     refine (ADD.out _).mono ?_;clear d5 f5 ca fa;rintro e X2 ⟨z,hz,rfl,hb⟩;have HZ:=hidIt hz.out;have HX2:=hidIt (ext_trans HX1.out hb);clear hb hz;obtain ⟨d5,f5,ca,fa,_⟩:=HCS.out X2 HX2.out;try dsimp only
     refine hK.out _ _ ?_ (fun hHeld=>?_)
     ·(try simp only [World.cell?_drew]);exact ca
     clear hK K
     try simp only [Act.put,sA1,sA2,sA3,sA4,sA5,sA6]
     refine wpAnyH_ready (rs:=[4]) (by kernel_rfl) (by simp) ?_
     refine AllReadyH.cons (o:=_) rfl (fun K hK=>?_) AllReadyH.nil
     go_simp
     generalize hwN:World.setCell _ _ _=X3;have hp:Blk 119 X3 v3.heap.size z∧X2.grownBy X3 (some v3.heap.size):=(by rw [← hwN];exact (HCS.out X2 HX2.out).2.2.2.2.put z);have HP3:=hidIt hp;clear hp hwN d5 f5;have e3:=HP3.out.2.block v4.heap.size (Nat.lt_of_lt_of_le hla HX2.out.size) (fun e=>HD3.out.2.2 (Option.some.inj e).symm);have ca3:X3.cell? ⟨v4.heap.size,0,none⟩=some (.int .i64 (fp:Nat)):=(cell_same e3 _).trans ca;have fa3:∀ i,X3.frozen? ⟨v4.heap.size,i,none⟩=false:=(fun i=>(froz_same e3 _).trans (fa i));clear ca fa e3
     refine hK.out _ _ ?_ (fun hHeld=>?_)
     ·(try simp only [World.cell?_drew]);exact ca3
     clear hK K
     try simp only [Act.put,sA1,sA2,sA3,sA4,sA5,sA6]
     refine wpAnyH_done (by kernel_rfl) ?_ _
     gi_wp2_with fail
     have st:=HI.out.step HX2.out HD3.out HBK.out q.1 q.2 z HZ.out HP3.out.1 HP3.out.2
     rw [← HFP.out,show ((fp + 1:Nat):Int)=(fp:Int) + 1 from rfl] at st
     exact ⟨z,st.1,st.2,fun k h=>.inl h⟩
    ·skip
     go_simp
     refine (SGL.out _).mono ?_;clear d5 f5 ca fa;rintro e X1 ⟨rfl,hb⟩;have HX1:=hidIt (ext_trans (Below.drew (Below.refl W.heap.size W)) hb);clear hb;obtain ⟨d5,f5,ca,fa,_⟩:=HCS.out X1 HX1.out;try dsimp only
     refine hK.out _ _ ?_ (fun hHeld=>?_)
     ·(try simp only [World.cell?_drew]);exact ca
     clear hK K
     try simp only [Act.put,sA1,sA2,sA3,sA4,sA5,sA6]
     refine wpAnyH_ready (rs:=[0]) (by kernel_rfl) (by simp) ?_
     refine AllReadyH.cons (o:=_) rfl (fun K hK=>?_) AllReadyH.nil
     go_simp
     refine hK.out _ _ ?_ (fun hHeld=>?_)
     ·(try simp only [World.cell?_drew]);exact ca
     clear hK K
     try simp only [Act.put,sA1,sA2,sA3,sA4,sA5,sA6]
     refine wpAnyH_ready (rs:=[3]) (by kernel_rfl) (by simp) ?_
     refine AllReadyH.cons (o:=_) rfl (fun K hK=>?_) AllReadyH.nil
     go_simp
     refine (ADD.out _).mono ?_;clear d5 f5 ca fa;rintro e X2 ⟨z,hz,rfl,hb⟩;have HZ:=hidIt hz.out;have HX2:=hidIt (ext_trans HX1.out hb);clear hb hz;obtain ⟨d5,f5,ca,fa,_⟩:=HCS.out X2 HX2.out;try dsimp only
     refine hK.out _ _ ?_ (fun hHeld=>?_)
     ·(try simp only [World.cell?_drew]);exact ca
     clear hK K
     try simp only [Act.put,sA1,sA2,sA3,sA4,sA5,sA6]
     refine wpAnyH_ready (rs:=[4]) (by kernel_rfl) (by simp) ?_
     refine AllReadyH.cons (o:=_) rfl (fun K hK=>?_) AllReadyH.nil
     go_simp
     generalize hwN:World.setCell _ _ _=X3;have hp:Blk 119 X3 v3.heap.size z∧X2.grownBy X3 (some v3.heap.size):=(by rw [← hwN];exact (HCS.out X2 HX2.out).2.2.2.2.put z);have HP3:=hidIt hp;clear hp hwN d5 f5;have e3:=HP3.out.2.block v4.heap.size (Nat.lt_of_lt_of_le hla HX2.out.size) (fun e=>HD3.out.2.2 (Option.some.inj e).symm);have ca3:X3.cell? ⟨v4.heap.size,0,none⟩=some (.int .i64 (fp:Nat)):=(cell_same e3 _).trans ca;have fa3:∀ i,X3.frozen? ⟨v4.heap.size,i,none⟩=false:=(fun i=>(froz_same e3 _).trans (fa i));clear ca fa e3
     refine hK.out _ _ ?_ (fun hHeld=>?_)
     ·(try simp only [World.cell?_drew]);exact ca3
     clear hK K
     try simp only [Act.put,sA1,sA2,sA3,sA4,sA5,sA6]
     refine wpAnyH_done (by kernel_rfl) ?_ _
     gi_wp2_with fail
     have st:=HI.out.step HX2.out HD3.out HBK.out q.1 q.2 z HZ.out HP3.out.1 HP3.out.2
     rw [← HFP.out,show ((fp + 1:Nat):Int)=(fp:Int) + 1 from rfl] at st
     exact ⟨z,st.1,st.2,fun k h=>.inl h⟩
  case done =>
   intro r xs W hk hnw hS hI hdf hno
   subst hS
   have hA2:ans=f + (btw enc ps f ll).length:=by
    have h1:=hI.sk []
    rw [List.append_nil,HBT2.out] at h1
    rw [HAN.out,← HSE.out.1,← HSE.out.2,h1]
    rfl
   have hoc:W.cell? ⟨v4.heap.size,0,none⟩=some (.int .i64 (ans:Nat)):=by rw [cell_of_row W _ _ _ _ _ hI.ab,hA2];rfl
   have hkk:=hk
   clear hA2 hk hI hnw hno
   gi_wp2
   go_wp2_with fail
   refine ⟨by simp,.inl ⟨_,_,rfl,run_takeDeferred hdf,?_⟩⟩
   refine ⟨_,results_tmp rfl _ _ _,?_⟩
   refine ⟨ret_int HANS.out.symm,?_⟩
   refine HBw7.out.trans (Kps.below (o:=fun k=>w.heap.size≤k) ?_ HBw7.out.size (fun k hk=>hk))
   refine Kps.trans (hkk.mono fun i _ hi=>?_) (Kps.put (o:=fun k=>w.heap.size≤k) _ HBw7.out.size) (fun _ _ e=>e)
   rcases hi with rfl | rfl | rfl <;> omega
  case stop =>
   rintro c r pre W hkk hnw hSp ⟨rfl,hX⟩ hdf hno
   have hoc:W.cell? ⟨v4.heap.size,0,none⟩=some (.int .i64 (ans:Nat)):=by rw [cell_of_row W _ _ _ _ _ hX];rfl
   clear hnw hno hX hSp
   gi_wp2
   go_wp2_with fail
   refine ⟨by simp,.inl ⟨_,_,rfl,run_takeDeferred hdf,?_⟩⟩
   refine ⟨_,results_tmp rfl _ _ _,?_⟩
   refine ⟨ret_int HANS.out.symm,?_⟩
   refine HBw7.out.trans (Kps.below (o:=fun k=>w.heap.size≤k) ?_ HBw7.out.size (fun k hk=>hk))
   refine Kps.trans (hkk.mono fun i _ hi=>?_) (Kps.put (o:=fun k=>w.heap.size≤k) _ HBw7.out.size) (fun _ _ e=>e)
   rcases hi with rfl | rfl | rfl <;> omega
end Go.Proofs.YtjjfakokakamaaaGreat.P
