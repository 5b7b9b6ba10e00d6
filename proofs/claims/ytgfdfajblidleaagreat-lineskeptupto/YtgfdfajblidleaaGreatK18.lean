import Derived.Test.YtgfdfajblidleaaGreatK17
set_option maxRecDepth 100000
namespace Go.Proofs.YtgfdfajblidleaaGreat.P
open Go.RowKit
def brk (enc:Int) (A:List Int) (z:Int):Int:=if z≤0 then 0 else if (A.length:Int)≤z then (spn enc A).b else (spn enc (A.take z.toNat)).b - (if (spn enc (A.take z.toNat)).cr=true∧(spn enc (A.drop z.toNat)).lf=true then 1 else 0)
set_option maxHeartbeats 2000000 in
theorem split_zero (enc:Int) (x:It) (w:World):Calls Tryz.prog 58 #[.agg #[.slice x.p x.n x.c,.int .i64 x.pl,.int .i64 x.sp.a,.int .i64 x.sp.s,.int .i64 x.sp.b,.bool x.sp.lf,.bool x.sp.cr],.int .i64 enc,.int .i64 0] w fun e w'=>e=.returned (.tuple #[.agg #[.slice It.zero.p It.zero.n It.zero.c,.int .i64 It.zero.pl,.int .i64 It.zero.sp.a,.int .i64 It.zero.sp.s,.int .i64 It.zero.sp.b,.bool It.zero.sp.lf,.bool It.zero.sp.cr],.agg #[.slice x.p x.n x.c,.int .i64 x.pl,.int .i64 x.sp.a,.int .i64 x.sp.s,.int .i64 x.sp.b,.bool x.sp.lf,.bool x.sp.cr]])∧Below w.heap.size w w':=by
 obtain ⟨w0,hw0⟩:∃ w0,w0=((w.alloc (.cells #[.slice x.p x.n x.c,.int .i64 x.pl,.int .i64 x.sp.a,.int .i64 x.sp.s,.int .i64 x.sp.b,.bool x.sp.lf,.bool x.sp.cr] 111)).alloc (.cells #[.slice none 0 0,.int .i64 0,.int .i64 0,.int .i64 0,.int .i64 0,.bool false,.bool false] 111)).alloc (.cells #[.slice none 0 0,.int .i64 0,.int .i64 0,.int .i64 0,.int .i64 0,.bool false,.bool false] 111):=⟨_,rfl⟩
 have I0:Hid (BlkI w0 w.heap.size x∧BlkI w0 (w.heap.size + 1) It.zero∧BlkI w0 (w.heap.size + 2) It.zero∧Below w.heap.size w w0):=by
  obtain ⟨v1,hv1⟩:∃ v,v=w.alloc (.cells #[.slice x.p x.n x.c,.int .i64 x.pl,.int .i64 x.sp.a,.int .i64 x.sp.s,.int .i64 x.sp.b,.bool x.sp.lf,.bool x.sp.cr] 111):=⟨_,rfl⟩
  obtain ⟨v2,hv2⟩:∃ v,v=v1.alloc (.cells #[.slice none 0 0,.int .i64 0,.int .i64 0,.int .i64 0,.int .i64 0,.bool false,.bool false] 111):=⟨_,rfl⟩
  rw [← hv1,← hv2] at hw0
  have s1:v1.heap.size=w.heap.size + 1:=by rw [hv1];simp
  have s2:v2.heap.size=w.heap.size + 2:=by rw [hv2];simp [s1]
  have b1:Below w.heap.size w v1:=by rw [hv1];exact zxa (Below.refl _ _) _
  have b2:Below v1.heap.size v1 v2:=by rw [hv2];exact zxa (Below.refl _ _) _
  have b3:Below v2.heap.size v2 w0:=by rw [hw0];exact zxa (Below.refl _ _) _
  have t1:BlkI v1 w.heap.size x:=by rw [hv1];exact heap_alloc_new _ _
  have t2:BlkI v2 (w.heap.size + 1) It.zero:=by rw [← s1,hv2];exact heap_alloc_new _ _
  refine ⟨(t1.ext b2).ext b3,t2.ext b3,?_,zxt (zxt b1 b2) b3⟩
  rw [← s2,hw0];exact heap_alloc_new _ _
 go_enter Tryz.func58,Tryz.ntmps58
 go_upto_region 2 with fail
 rw [← hw0]
 clear hw0
 obtain ⟨d0,_,_⟩:=I0.out.1.cells
 obtain ⟨e6,_,f6⟩:=I0.out.2.1.cells
 have l6:=I0.out.2.1.lt
 refine wp_region_held_drew (S:=fun w''=>(w''.cell? ⟨w.heap.size,0,none⟩=some (.slice x.p x.n x.c)∧w''.cell? ⟨w.heap.size,1,none⟩=some (.int .i64 x.pl)∧w''.cell? ⟨w.heap.size,2,none⟩=some (.int .i64 x.sp.a)∧w''.cell? ⟨w.heap.size,3,none⟩=some (.int .i64 x.sp.s)∧w''.cell? ⟨w.heap.size,4,none⟩=some (.int .i64 x.sp.b)∧w''.cell? ⟨w.heap.size,5,none⟩=some (.bool x.sp.lf)∧w''.cell? ⟨w.heap.size,6,none⟩=some (.bool x.sp.cr))) (by kernel_rfl) (d0) (fun _=>?_)
 refine tkH 0 rfl ?_
 refine tkH 1 rfl ?_
 refine rdH 2 rfl fun K hK=>?_
 go_simp
 generalize hwN:World.setCell _ _ _=w1;obtain ⟨p1,p2⟩:=I0.out.2.1.put It.zero;rw [show (((((((w0.setCell ⟨(w.heap.size + 1),0,none⟩ (.slice It.zero.p It.zero.n It.zero.c)).setCell ⟨(w.heap.size + 1),1,none⟩ (.int .i64 It.zero.pl)).setCell ⟨(w.heap.size + 1),2,none⟩ (.int .i64 It.zero.sp.a)).setCell ⟨(w.heap.size + 1),3,none⟩ (.int .i64 It.zero.sp.s)).setCell ⟨(w.heap.size + 1),4,none⟩ (.int .i64 It.zero.sp.b)).setCell ⟨(w.heap.size + 1),5,none⟩ (.bool It.zero.sp.lf)).setCell ⟨(w.heap.size + 1),6,none⟩ (.bool It.zero.sp.cr))=w1 from hwN] at p1 p2;clear hwN;have H1:=zh (And.intro (I0.out.1.other p2 (by omega)) (And.intro p1 (And.intro (I0.out.2.2.1.other p2 (by omega)) (zbp I0.out.2.2.2 I0.out.2.2.2.size p2 (by omega)))));clear p1 p2 d0 e6 f6 l6;obtain ⟨d0,_,_⟩:=H1.out.1.cells;obtain ⟨e7,_,f7⟩:=H1.out.2.2.1.cells;have l7:=H1.out.2.2.1.lt
 refine hK.out _ _ ?_ (fun _=>?_)
 ·(try simp only [World.cell?_drew]);exact d0
 clear hK K
 try simp only [Act.put,tS]
 refine rdH 3 rfl fun K hK=>?_
 go_simp
 generalize hwN:World.setCell _ _ _=w2;obtain ⟨p1,p2⟩:=H1.out.2.2.1.put x;rw [show (((((((w1.setCell ⟨(w.heap.size + 2),0,none⟩ (.slice x.p x.n x.c)).setCell ⟨(w.heap.size + 2),1,none⟩ (.int .i64 x.pl)).setCell ⟨(w.heap.size + 2),2,none⟩ (.int .i64 x.sp.a)).setCell ⟨(w.heap.size + 2),3,none⟩ (.int .i64 x.sp.s)).setCell ⟨(w.heap.size + 2),4,none⟩ (.int .i64 x.sp.b)).setCell ⟨(w.heap.size + 2),5,none⟩ (.bool x.sp.lf)).setCell ⟨(w.heap.size + 2),6,none⟩ (.bool x.sp.cr))=w2 from hwN] at p1 p2;clear hwN;have H2:=zh (And.intro (H1.out.1.other p2 (by omega)) (And.intro (H1.out.2.1.other p2 (by omega)) (And.intro p1 (zbp H1.out.2.2.2 H1.out.2.2.2.size p2 (by omega)))));clear p1 p2 d0 e7 f7 l7;obtain ⟨d0,_,_⟩:=H2.out.1.cells
 refine hK.out _ _ ?_ (fun _=>?_)
 ·(try simp only [World.cell?_drew]);exact d0
 clear hK K
 try simp only [Act.put,tS]
 refine dnH ?_
 obtain ⟨r0,_,_⟩:=H2.out.2.1.cells
 obtain ⟨r1,_,_⟩:=H2.out.2.2.1.cells
 go_wp2_with fail
 exact bodyPost_ret (v:=.tuple #[.agg #[.slice It.zero.p It.zero.n It.zero.c,.int .i64 It.zero.pl,.int .i64 It.zero.sp.a,.int .i64 It.zero.sp.s,.int .i64 It.zero.sp.b,.bool It.zero.sp.lf,.bool It.zero.sp.cr],.agg #[.slice x.p x.n x.c,.int .i64 x.pl,.int .i64 x.sp.a,.int .i64 x.sp.s,.int .i64 x.sp.b,.bool x.sp.lf,.bool x.sp.cr]]) (by simp [results,Tryz.results58,go_sem,r0,r1,It.zero,Rs.zero]) rfl ⟨rfl,H2.out.2.2.2.drew⟩
theorem split_all (enc:Int) (he:Cx.En enc) (L:List Int) (hL:Byt L) (hLl:L.length≤1073741824) (x:It) (gx:List Int) (n:Nat) (w:World) (h:Pc enc L w x gx) (hl:ln enc gx≤1073741824) (hn:n < gx.length) :
  Calls Tryz.prog 58 #[.agg #[.slice x.p x.n x.c,.int .i64 x.pl,.int .i64 x.sp.a,.int .i64 x.sp.s,.int .i64 x.sp.b,.bool x.sp.lf,.bool x.sp.cr],.int .i64 enc,.int .i64 n] w fun e w'=>∃ hd rs:It,e=.returned (.tuple #[.agg #[.slice hd.p hd.n hd.c,.int .i64 hd.pl,.int .i64 hd.sp.a,.int .i64 hd.sp.s,.int .i64 hd.sp.b,.bool hd.sp.lf,.bool hd.sp.cr],.agg #[.slice rs.p rs.n rs.c,.int .i64 rs.pl,.int .i64 rs.sp.a,.int .i64 rs.sp.s,.int .i64 rs.sp.b,.bool rs.sp.lf,.bool rs.sp.cr]])∧Hid (hd.sp=spn enc (gx.take n)∧rs.sp=spn enc (gx.drop n))∧Below w.heap.size w w':=by
 rcases Nat.eq_zero_or_pos n with rfl | h0
 ·refine (split_zero enc x w).mono ?_
  rintro e w' ⟨rfl,hb⟩
  exact ⟨It.zero,x,rfl,⟨rfl,by rw [List.drop_zero];exact h.sp⟩,hb⟩
 ·obtain ⟨b,o,hp,hr⟩:=h.mem
  have hend:=h.end he hL
  have hlow:=h.low
  refine (split_any enc he x (Cx.encB enc gx) n w (h.rd (by omega)) h.gr.byt (by show ln enc gx≤_;omega) (by rw [h.gr.dec];exact h.sp) h0 (by rw [h.gr.dec];exact hn) hlow (by omega) b o hp (by rw [h.xc];exact Nat.le_refl _)).mono ?_
  rintro e w' ⟨hd,rs,rfl,hs,hb⟩
  have hs':=hs.out
  rw [h.gr.dec] at hs'
  exact ⟨hd,rs,rfl,⟨hs'.2.2.2.2.1,hs'.2.2.2.2.2.2.2.2.2⟩,hb⟩
theorem field_breaks (a s b:Int) (f r:Bool) (w:World):(Instr.field 109 (.agg #[.int .i64 a,.int .i64 s,.int .i64 b,.bool f,.bool r]) 2).run Tryz.prog w=.ok (.int .i64 b) w:=by kernel_rfl
set_option maxHeartbeats 8000000 in
theorem Breaks_any (enc lim:Int) (L:List Int) (w:World) (t:Nat) (ps:List PG) (z:Int) (h:Tx enc lim L w t ps):Calls Tryz.prog 31 #[.pointer (some ⟨t,0,none⟩),.int .i64 z] w fun e w'=>e=.returned (.int .i64 (brk enc (asOf ps) z))∧Below w.heap.size w w':=by
 have LN:=zh (Len_any enc lim L w t ps h)
 have hsl:=h.sum.2.2
 have HT:=zh h
 by_cases hz0:z≤0
 ·have HA:=zh (show brk enc (asOf ps) z=0 by unfold brk;rw [if_pos hz0])
  clear h
  go_enter Tryz.func31,Tryz.ntmps31
  go_wp2_with fail
  go_ret
  exact ⟨ret_int HA.out.symm,Below.refl _ _⟩
 by_cases hzl:((sh enc ps).length:Int)≤z
 ·have HA:=zh (show brk enc (asOf ps) z=(spn enc (asOf ps)).b by unfold brk;rw [if_neg hz0,if_pos (by rw [← sh_len];exact hzl)])
  have SU:Hid (∀ w',Below w.heap.size w w'→∃ u,w'.cell? ⟨t,3,none⟩=some (.pointer u)∧Calls Tryz.prog 54 #[.agg #[.pointer u]] w' fun e w''=>∃ s,Hid (s=rA.su (xsOf ps))∧e=.returned (.agg #[.int .i64 s.a,.int .i64 s.s,.int .i64 s.b,.bool s.lf,.bool s.cr])∧Below w'.heap.size w' w''):=fun w' hb=>by
   obtain ⟨_,u,⟨_,_,_,c3⟩,_,htt,_⟩:=(h.ext hb).cells
   exact ⟨u,c3,Sum_any u (xsOf ps) w' htt⟩
  have HSB:Hid ((rA.su (xsOf ps)).b=(spn enc (asOf ps)).b):=by unfold Hid;rw [h.pc.su]
  have fb:=field_breaks
  clear h
  go_enter Tryz.func31,Tryz.ntmps31
  go_wp2_with (first
   | (go_at_call 32;refine LN.out.mono ?_;rintro e w1 ⟨rfl,hb1⟩;have HB1:=zh hb1;clear hb1;obtain ⟨u,c3,hSU⟩:=SU.out w1 HB1.out;have HSU:=zh hSU;clear hSU;(try dsimp only))
   | (go_at_call 54;refine HSU.out.mono ?_;rintro e w2 ⟨⟨sa,ss,sb,sf,sc⟩,hs,rfl,hb2⟩;have HB2:=zh (zxt HB1.out hb2);have HS:=zh ((congrArg Rs.b hs.out).trans HSB.out);clear hb2 hs c3;(try dsimp only)))
  go_ret
  exact ⟨ret_int (HS.out.trans HA.out.symm),HB2.out⟩
 obtain ⟨m,rfl⟩:∃ m:Nat,z=m:=⟨z.toNat,by omega⟩
 have hm0:0 < m:=by omega
 have hml:m < (sh enc ps).length:=by omega
 obtain ⟨i,hfi,hil,hib,hig⟩:=find_from h.pc m
 obtain ⟨base,hbs⟩:∃ base,base=(sh enc (ps.take i)).length:=⟨_,rfl⟩
 rw [← hbs] at hib hig
 have hilt:i < ps.length:=by
  rcases Nat.lt_or_ge i ps.length with h1 | h1
  ·exact h1
  ·rw [List.take_of_length_le h1] at hbs;omega
 obtain ⟨⟨x,gx⟩,hgx⟩:∃ q,ps[i]?=some q:=⟨_,List.getElem?_eq_getElem hilt⟩
 have hng:=hig x gx hgx
 obtain ⟨n,hn⟩:∃ n,n=m - base:=⟨_,rfl⟩
 rw [← hn] at hng
 have eA:asOf ps=asOf (ps.take i) ++ (gx ++ asOf (ps.drop (i + 1))):=by
  conv=>lhs;rw [← List.take_append_drop i ps,drop_of hgx]
  rw [asOf_app];simp [asOf]
 have hbl:(asOf (ps.take i)).length=base:=by rw [hbs,sh_len]
 have eT:(asOf ps).take m=asOf (ps.take i) ++ gx.take n:=by
  rw [eA,List.take_append,hbl,List.take_of_length_le (by omega),List.take_append,← hn,Nat.sub_eq_zero_of_le (Nat.le_of_lt hng),List.take_zero,List.append_nil]
 have eD:(asOf ps).drop m=gx.drop n ++ asOf (ps.drop (i + 1)):=by
  rw [eA,List.drop_append,hbl,List.drop_eq_nil_of_le (by omega),List.nil_append,List.drop_append,← hn,Nat.sub_eq_zero_of_le (Nat.le_of_lt hng),List.drop_zero]
 obtain ⟨a,ha⟩:∃ a,gx[n]?=some a:=⟨_,List.getElem?_eq_getElem hng⟩
 have eL:(spn enc ((asOf ps).drop m)).lf=(spn enc (gx.drop n)).lf:=by rw [eD,drop_of ha,List.cons_append,spn_lf,spn_lf]
 have HAN:Hid (brk enc (asOf ps) m=(Rs.add (spn enc (asOf (ps.take i))) (spn enc (gx.take n))).b - (if ((Rs.add (spn enc (asOf (ps.take i))) (spn enc (gx.take n))).cr && (spn enc (gx.drop n)).lf)=true then 1 else 0)):=by
  unfold Hid brk
  rw [if_neg hz0,if_neg (by rw [← sh_len];exact hzl),Int.toNat_natCast,eL,eT,spn_app]
  simp only [Bool.and_eq_true]
 obtain ⟨lv,u,⟨c0w,_,_,c3w⟩,_,htt,htl⟩:=h.cells
 have hwt:wt (xsOf ps)≤4611686018427387904:=by have:=h.pc.wt;have:=h.sz;omega
 have hpl:ps.length≤65536:=by have:=h.pc.len;have:=ln_ge enc (asOf ps);have:=h.sz;omega
 have hgl:ln enc gx≤65536:=by have h1:=h.sz;rw [eA,ln_app,ln_app] at h1;omega
 have FD:Hid (∀ w',Below w.heap.size w w'→Calls Tryz.prog 55 #[.agg #[.pointer u],.int .i64 0,.int .i64 ((m:Int) + 1)] w' fun e w''=>e=.returned (.int .i64 ((i + 1:Nat):Int))∧Below w'.heap.size w' w''):=fun w' hb=>by rw [← hfi];exact Find_any u (xsOf ps) 0 ((m:Int) + 1) w' (htt.ext hb) hwt
 have UP:Hid (∀ w',Below w.heap.size w w'→Calls Tryz.prog 57 #[.agg #[.pointer u],.int .i64 (i:Nat)] w' fun e w''=>∃ s,Hid (s=rA.su ((xsOf ps).take i))∧e=.returned (.agg #[.int .i64 s.a,.int .i64 s.s,.int .i64 s.b,.bool s.lf,.bool s.cr])∧Below w'.heap.size w' w''):=fun w' hb=>by have:=Upto_any u (xsOf ps) (i:Nat) w' (htt.ext hb) hwt (by omega);rwa [Int.toNat_natCast] at this
 have AT:Hid (∀ w',Below w.heap.size w w'→Calls Tryz.prog 56 #[.agg #[.pointer u],.int .i64 (i:Nat)] w' fun e w''=>e=.returned (.tuple #[.agg #[.slice x.p x.n x.c,.int .i64 x.pl,.int .i64 x.sp.a,.int .i64 x.sp.s,.int .i64 x.sp.b,.bool x.sp.lf,.bool x.sp.cr],.bool true])∧Below w'.heap.size w' w''):=fun w' hb=>by
  refine (At_any u (xsOf ps) (i:Nat) w' (htt.ext hb) hwt (by omega)).mono ?_
  rintro e w'' ⟨x',b',rfl,hat,hb'⟩
  have hx:atL (xsOf ps) ((i:Nat):Int)=some x:=by unfold atL;rw [if_neg (by omega),Int.toNat_natCast];simp [xsOf,hgx]
  rcases hat with ⟨q1,rfl⟩ | ⟨q1,_⟩
  ·rw [hx] at q1;cases q1;exact ⟨rfl,hb'⟩
  ·rw [hx] at q1;cases q1
 have h':Pcs enc L w (ps.take i):=fun q hq=>h.pc q (List.mem_of_mem_take hq)
 have HUS:Hid (rA.su ((xsOf ps).take i)=spn enc (asOf (ps.take i))):=by
  unfold Hid
  rw [show (xsOf ps).take i=xsOf (ps.take i) by simp [xsOf,List.map_take],h'.su]
 have HUA:Hid ((spn enc (asOf (ps.take i))).a=(base:Int)):=by unfold Hid;rw [(spn_a enc _ h'.fit).1,hbl]
 have SP:Hid (∀ w',Below w.heap.size w w'→Calls Tryz.prog 58 #[.agg #[.slice x.p x.n x.c,.int .i64 x.pl,.int .i64 x.sp.a,.int .i64 x.sp.s,.int .i64 x.sp.b,.bool x.sp.lf,.bool x.sp.cr],.int .i64 enc,.int .i64 n] w' fun e w''=>∃ hd rs:It,e=.returned (.tuple #[.agg #[.slice hd.p hd.n hd.c,.int .i64 hd.pl,.int .i64 hd.sp.a,.int .i64 hd.sp.s,.int .i64 hd.sp.b,.bool hd.sp.lf,.bool hd.sp.cr],.agg #[.slice rs.p rs.n rs.c,.int .i64 rs.pl,.int .i64 rs.sp.a,.int .i64 rs.sp.s,.int .i64 rs.sp.b,.bool rs.sp.lf,.bool rs.sp.cr]])∧Hid (hd.sp=spn enc (gx.take n)∧rs.sp=spn enc (gx.drop n))∧Below w'.heap.size w' w''):=fun w' hb=>split_all enc h.en L h.by' (by have:=h.ll;omega) x gx n w' ((h.pc (x,gx) (List.mem_of_getElem? hgx)).ext hb) (by omega) hng
 have HBN:Hid (∀ (S T:Rs),S=spn enc (asOf (ps.take i))→T=spn enc (gx.take n)→0≤S.a∧0≤T.a∧0≤S.s∧0≤T.s∧0≤S.b∧0≤T.b∧S.a + T.a≤9223372036854775807∧S.s + T.s≤9223372036854775807∧S.b + T.b≤9223372036854775807):=by
  intro S T e1 e2
  subst e1 e2
  have k1:=spn_ok enc (asOf (ps.take i))
  have k2:=spn_ok enc (gx.take n)
  have a1:=spn_a enc _ h'.fit
  have a2:=spn_a enc (gx.take n) (fun y hy=>(h.pc (x,gx) (List.mem_of_getElem? hgx)).gr.fit y (List.mem_of_mem_take hy))
  have b1:=spn_b enc (asOf (ps.take i))
  have b2:=spn_b enc (gx.take n)
  have l2:(gx.take n).length≤gx.length:=by rw [List.length_take];omega
  have l3:=ln_ge enc gx
  have l4:=ln_take_drop enc gx n
  have l5:ln enc (asOf (ps.take i))≤65536:=by have h1:=h.sz;rw [eA,ln_app] at h1;omega
  have l6:(asOf (ps.take i)).length≤65536:=by have:=ln_ge enc (asOf (ps.take i));omega
  exact ⟨k1.a0,k2.a0,k1.s0,k2.s0,k1.b0,k2.b0,by rw [a1.1,a2.1];omega,by rw [a1.2,a2.2];omega,by omega⟩
 have HC:Hid (∀ w',Below w.heap.size w w'→w'.cell? ⟨t,0,none⟩=some (.int .i64 enc)∧w'.cell? ⟨t,3,none⟩=some (.pointer u)):=fun w' hb=>⟨(hb.cell (p:=⟨t,0,none⟩) htl).trans c0w,(hb.cell (p:=⟨t,3,none⟩) htl).trans c3w⟩
 have hwm:IntKind.i64.wrap ((m:Int) + 1)=(m:Int) + 1:=by rw [IntKind.wrap_i64];omega
 have hwi:IntKind.i64.wrap (i:Int)=(i:Int):=by rw [IntKind.wrap_i64];omega
 have hwn:IntKind.i64.wrap ((m:Int) - (base:Int))=(n:Int):=by rw [IntKind.wrap_i64];omega
 have hm0':¬ (m:Int)≤0:=by omega
 have hm00:¬ m=0:=by omega
 have hml':¬ ((sh enc ps).length:Int)≤(m:Int):=by omega
 clear h h' hfi hig hgx hng eA eT eD eL ha hbl hbs hn c0w c3w htt hz0 hzl
 generalize (sh enc ps).length=ll at *
 go_enter Tryz.func31,Tryz.ntmps31
 go_upto_region 6 with (first
  | (go_at_call 32;refine LN.out.mono ?_;rintro e w1 ⟨rfl,hb1⟩;have HB1:=zh hb1;clear hb1;obtain ⟨c0,c3⟩:=HC.out w1 HB1.out;(try dsimp only))
  | (go_at_call 55;refine (FD.out w1 HB1.out).mono ?_;clear c0 c3;rintro e w2 ⟨rfl,hb2⟩;have HB2:=zh (zxt HB1.out hb2);clear hb2;obtain ⟨c0,c3⟩:=HC.out w2 HB2.out;(try dsimp only)))
 go_upto_region 7 with (go_at_call 56;refine (AT.out w2 HB2.out).mono ?_;clear c0 c3;rintro e w3 ⟨rfl,hb3⟩;have HB3:=zh (zxt HB2.out hb3);clear hb3;obtain ⟨c0,c3⟩:=HC.out w3 HB3.out;(try dsimp only))
 obtain ⟨w4,hw4,k6,hb4⟩:∃ w4,w4=w3.alloc (.cells #[.slice x.p x.n x.c,.int .i64 x.pl,.int .i64 x.sp.a,.int .i64 x.sp.s,.int .i64 x.sp.b,.bool x.sp.lf,.bool x.sp.cr] 111)∧BlkI w4 w3.heap.size x∧Below w3.heap.size w3 w4:=⟨_,rfl,heap_alloc_new _ _,zxa (Below.refl _ _) _⟩
 rw [← hw4]
 clear hw4 c0 c3
 have HK6:=zh k6
 have HB4:=zh (zxt HB3.out hb4)
 clear k6 hb4
 obtain ⟨c0,c3⟩:=HC.out w4 HB4.out
 go_upto_region 8 with (go_at_call 57;refine (UP.out w4 HB4.out).mono ?_;clear c0 c3;rintro e w5 ⟨s,hs,rfl,hb5⟩;have HS:=zh (hs.out.trans HUS.out);have HK65:=zh (HK6.out.ext hb5);have HB5:=zh (zxt HB4.out hb5);clear hb5 hs;(try dsimp only))
 obtain ⟨w6,hw6,k8,hb6⟩:∃ w6,w6=w5.alloc (.cells #[.int .i64 s.a,.int .i64 s.s,.int .i64 s.b,.bool s.lf,.bool s.cr] 109)∧Blk 109 w6 w5.heap.size s∧Below w5.heap.size w5 w6:=⟨_,rfl,heap_alloc_new _ _,zxa (Below.refl _ _) _⟩
 rw [← hw6]
 clear hw6
 have HK8:=zh k8
 have HK66:=zh (HK65.out.ext hb6)
 have HB6:=zh (zxt HB5.out hb6)
 have hwn':IntKind.i64.wrap ((m:Int) - s.a)=(n:Int):=by rw [HS.out,HUA.out];exact hwn
 have HLT:=zh (show w3.heap.size < w6.heap.size∧w5.heap.size < w6.heap.size from ⟨HK66.out.lt,k8.lt⟩)
 clear k8 hb6 hwn HK65 HK6
 have HSF:Hid (∀ w',Below w6.heap.size w6 w'→C7s w' w3.heap.size x∧w'.cell? ⟨t,0,none⟩=some (.int .i64 enc)∧(w'.cell? ⟨w5.heap.size,0,none⟩=some (.int .i64 s.a)∧w'.cell? ⟨w5.heap.size,1,none⟩=some (.int .i64 s.s)∧w'.cell? ⟨w5.heap.size,2,none⟩=some (.int .i64 s.b)∧w'.cell? ⟨w5.heap.size,3,none⟩=some (.bool s.lf)∧w'.cell? ⟨w5.heap.size,4,none⟩=some (.bool s.cr))):=fun w' hb=>⟨(HK66.out.ext hb).cells.1,(HC.out w' (zxt HB6.out hb)).1,(HK8.out.ext hb).cells.1⟩
 go_cut [9,10] from 46 to 58 (fun p q wF=>∃ (b9 b10:Nat) (hd rs:It),p=.pointer (some ⟨b9,0,none⟩)∧q=.pointer (some ⟨b10,0,none⟩)∧Hid (hd.sp=spn enc (gx.take n)∧rs.sp=spn enc (gx.drop n))∧Hid (BlkI wF b9 hd∧BlkI wF b10 rs∧w6.heap.size≤b9∧w6.heap.size≤b10∧Below w6.heap.size w6 wF))
 ·have HBc:=zh (Below.refl w6.heap.size w6)
  obtain ⟨d7,c0,d5⟩:=HSF.out w6 HBc.out
  refine wp_region_held_drew (S:=fun w''=>(w''.cell? ⟨w3.heap.size,0,none⟩=some (.slice x.p x.n x.c)∧w''.cell? ⟨w3.heap.size,1,none⟩=some (.int .i64 x.pl)∧w''.cell? ⟨w3.heap.size,2,none⟩=some (.int .i64 x.sp.a)∧w''.cell? ⟨w3.heap.size,3,none⟩=some (.int .i64 x.sp.s)∧w''.cell? ⟨w3.heap.size,4,none⟩=some (.int .i64 x.sp.b)∧w''.cell? ⟨w3.heap.size,5,none⟩=some (.bool x.sp.lf)∧w''.cell? ⟨w3.heap.size,6,none⟩=some (.bool x.sp.cr))∧w''.cell? ⟨t,0,none⟩=some (.int .i64 enc)∧(w''.cell? ⟨w5.heap.size,0,none⟩=some (.int .i64 s.a)∧w''.cell? ⟨w5.heap.size,1,none⟩=some (.int .i64 s.s)∧w''.cell? ⟨w5.heap.size,2,none⟩=some (.int .i64 s.b)∧w''.cell? ⟨w5.heap.size,3,none⟩=some (.bool s.lf)∧w''.cell? ⟨w5.heap.size,4,none⟩=some (.bool s.cr))) (by kernel_rfl) (⟨d7,c0,d5⟩) (fun _=>?_)
  refine tkH 0 rfl ?_
  refine tkH 1 rfl ?_
  refine tkH 2 rfl ?_
  refine tkH 3 rfl ?_
  refine tkH 4 rfl ?_
  refine tkH 5 rfl ?_
  refine tkH 6 rfl ?_
  refine tkH 7 rfl ?_
  refine tkH 8 rfl ?_
  refine wpAnyH_ready (rs:=[9,13,14]) (by kernel_rfl) (by simp) ?_
  refine (AllReadyH.cons (o:=_) rfl (fun K hK=>?_) (AllReadyH.cons (o:=_) rfl (fun K hK=>?_) (AllReadyH.cons (o:=_) rfl (fun K hK=>?_) AllReadyH.nil)))
  ·skip
   go_simp
   refine (SP.out _ (zxt HB6.out HBc.out).drew).mono ?_;(try clear z9 f9 l9);(try clear z10 f10 l10);rintro e y1 ⟨hd,rs,rfl,HSP,hb⟩;have hst:Below w6.heap.size w6 y1:=zxt (Below.drew (Below.refl _ _)) hb;clear hb;have HBn:=zh (zxt HBc.out hst);clear HBc;have HBc:=HBn;clear HBn;clear d7 c0 d5;obtain ⟨d7,c0,d5⟩:=HSF.out y1 HBc.out;(try clear z9 f9 l9);(try clear z10 f10 l10);have sz1:w6.heap.size≤y1.heap.size:=hst.size;clear hst;try dsimp only
   refine hK.out _ _ ?_ (fun _=>?_)
   ·(try simp only [World.cell?_drew]);exact HSF.out y1 HBc.out
   clear hK K
   try simp only [Act.put,tS]
   refine tkH 10 rfl ?_
   refine tkH 11 rfl ?_
   refine tkH 12 rfl ?_
   refine wpAnyH_ready (rs:=[13,14]) (by kernel_rfl) (by simp) ?_
   refine (AllReadyH.cons (o:=_) rfl (fun K hK=>?_) (AllReadyH.cons (o:=_) rfl (fun K hK=>?_) AllReadyH.nil))
   ·skip
    go_simp
    generalize hwN:World.alloc _ _=y2;have hst:Below y1.heap.size y1 y2:=(by rw [← hwN];exact zxa (Below.refl _ _) _);have lb9:w6.heap.size≤y1.heap.size:=HBc.out.size;have HBn:=zh (zxt HBc.out hst);clear HBc;have HBc:=HBn;clear HBn;have H9:Hid (BlkI y2 y1.heap.size It.zero):=(by unfold Hid;rw [← hwN];exact heap_alloc_new _ _);clear hwN hst;clear d7 c0 d5;obtain ⟨d7,c0,d5⟩:=HSF.out y2 HBc.out;(try clear z9 f9 l9);(try clear z10 f10 l10);obtain ⟨z9,_,f9⟩:=H9.out.cells;have l9:=H9.out.lt;have sz2:y1.heap.size < y2.heap.size:=H9.out.lt
    refine hK.out _ _ ?_ (fun _=>?_)
    ·(try simp only [World.cell?_drew]);exact HSF.out y2 HBc.out
    clear hK K
    try simp only [Act.put,tS]
    refine rdH 14 rfl fun K hK=>?_
    go_simp
    generalize hwN:World.alloc _ _=y3;have hst:Below y2.heap.size y2 y3:=(by rw [← hwN];exact zxa (Below.refl _ _) _);have lb10:w6.heap.size≤y2.heap.size:=HBc.out.size;have HBn:=zh (zxt HBc.out hst);clear HBc;have HBc:=HBn;clear HBn;have Hn:=zh (H9.out.ext hst);clear H9;have H9:=Hn;clear Hn;have H10:Hid (BlkI y3 y2.heap.size It.zero):=(by unfold Hid;rw [← hwN];exact heap_alloc_new _ _);clear hwN hst;clear d7 c0 d5;obtain ⟨d7,c0,d5⟩:=HSF.out y3 HBc.out;(try clear z9 f9 l9);(try clear z10 f10 l10);obtain ⟨z9,_,f9⟩:=H9.out.cells;have l9:=H9.out.lt;obtain ⟨z10,_,f10⟩:=H10.out.cells;have l10:=H10.out.lt;have sz3:y2.heap.size < y3.heap.size:=H10.out.lt
    refine hK.out _ _ ?_ (fun _=>?_)
    ·(try simp only [World.cell?_drew]);exact HSF.out y3 HBc.out
    clear hK K
    try simp only [Act.put,tS]
    refine rdH 15 rfl fun K hK=>?_
    go_simp
    generalize hwN:World.setCell _ _ _=y4;have p2:y3.grownBy y4 (some y1.heap.size):=(by rw [← hwN];exact (H9.out.put hd).2);have p1:BlkI y4 y1.heap.size hd:=(by rw [← hwN];exact (H9.out.put hd).1);(try clear z9 f9 l9);(try clear z10 f10 l10);have Hn:=zh (H10.out.other p2 (by omega));clear H10;have H10:=Hn;clear Hn;clear H9;have H9:=zh p1;have HBn:=zh (zbp HBc.out HBc.out.size p2 lb9);clear HBc;have HBc:=HBn;clear HBn;clear hwN;have sz4:=p2.size;clear p1 p2;clear d7 c0 d5;obtain ⟨d7,c0,d5⟩:=HSF.out y4 HBc.out;(try clear z9 f9 l9);(try clear z10 f10 l10);obtain ⟨z9,_,f9⟩:=H9.out.cells;have l9:=H9.out.lt;obtain ⟨z10,_,f10⟩:=H10.out.cells;have l10:=H10.out.lt;skip
    refine hK.out _ _ ?_ (fun _=>?_)
    ·(try simp only [World.cell?_drew]);exact HSF.out y4 HBc.out
    clear hK K
    try simp only [Act.put,tS]
    refine rdH 16 rfl fun K hK=>?_
    go_simp
    generalize hwN:World.setCell _ _ _=y5;have p2:y4.grownBy y5 (some y2.heap.size):=(by rw [← hwN];exact (H10.out.put rs).2);have p1:BlkI y5 y2.heap.size rs:=(by rw [← hwN];exact (H10.out.put rs).1);(try clear z9 f9 l9);(try clear z10 f10 l10);have Hn:=zh (H9.out.other p2 (by omega));clear H9;have H9:=Hn;clear Hn;clear H10;have H10:=zh p1;have HBn:=zh (zbp HBc.out HBc.out.size p2 lb10);clear HBc;have HBc:=HBn;clear HBn;clear hwN;have sz5:=p2.size;clear p1 p2;clear d7 c0 d5;obtain ⟨d7,c0,d5⟩:=HSF.out y5 HBc.out;(try clear z9 f9 l9);(try clear z10 f10 l10);obtain ⟨z9,_,f9⟩:=H9.out.cells;have l9:=H9.out.lt;obtain ⟨z10,_,f10⟩:=H10.out.cells;have l10:=H10.out.lt;skip
    refine hK.out _ _ ?_ (fun _=>?_)
    ·(try simp only [World.cell?_drew]);exact HSF.out y5 HBc.out
    clear hK K
    try simp only [Act.put,tS]
    refine dnH ?_
    go_wp2_with fail
    go_meet
    case rel=>exact ⟨y1.heap.size,y2.heap.size,hd,rs,rfl,rfl,HSP,H9.out,H10.out,lb9,lb10,HBc.out⟩
   ·skip
    go_simp
    generalize hwN:World.alloc _ _=y2;have hst:Below y1.heap.size y1 y2:=(by rw [← hwN];exact zxa (Below.refl _ _) _);have lb10:w6.heap.size≤y1.heap.size:=HBc.out.size;have HBn:=zh (zxt HBc.out hst);clear HBc;have HBc:=HBn;clear HBn;have H10:Hid (BlkI y2 y1.heap.size It.zero):=(by unfold Hid;rw [← hwN];exact heap_alloc_new _ _);clear hwN hst;clear d7 c0 d5;obtain ⟨d7,c0,d5⟩:=HSF.out y2 HBc.out;(try clear z9 f9 l9);(try clear z10 f10 l10);obtain ⟨z10,_,f10⟩:=H10.out.cells;have l10:=H10.out.lt;have sz2:y1.heap.size < y2.heap.size:=H10.out.lt
    refine hK.out _ _ ?_ (fun _=>?_)
    ·(try simp only [World.cell?_drew]);exact HSF.out y2 HBc.out
    clear hK K
    try simp only [Act.put,tS]
    refine rdH 13 rfl fun K hK=>?_
    go_simp
    generalize hwN:World.alloc _ _=y3;have hst:Below y2.heap.size y2 y3:=(by rw [← hwN];exact zxa (Below.refl _ _) _);have lb9:w6.heap.size≤y2.heap.size:=HBc.out.size;have HBn:=zh (zxt HBc.out hst);clear HBc;have HBc:=HBn;clear HBn;have Hn:=zh (H10.out.ext hst);clear H10;have H10:=Hn;clear Hn;have H9:Hid (BlkI y3 y2.heap.size It.zero):=(by unfold Hid;rw [← hwN];exact heap_alloc_new _ _);clear hwN hst;clear d7 c0 d5;obtain ⟨d7,c0,d5⟩:=HSF.out y3 HBc.out;(try clear z9 f9 l9);(try clear z10 f10 l10);obtain ⟨z9,_,f9⟩:=H9.out.cells;have l9:=H9.out.lt;obtain ⟨z10,_,f10⟩:=H10.out.cells;have l10:=H10.out.lt;have sz3:y2.heap.size < y3.heap.size:=H9.out.lt
    refine hK.out _ _ ?_ (fun _=>?_)
    ·(try simp only [World.cell?_drew]);exact HSF.out y3 HBc.out
    clear hK K
    try simp only [Act.put,tS]
    refine rdH 15 rfl fun K hK=>?_
    go_simp
    generalize hwN:World.setCell _ _ _=y4;have p2:y3.grownBy y4 (some y2.heap.size):=(by rw [← hwN];exact (H9.out.put hd).2);have p1:BlkI y4 y2.heap.size hd:=(by rw [← hwN];exact (H9.out.put hd).1);(try clear z9 f9 l9);(try clear z10 f10 l10);have Hn:=zh (H10.out.other p2 (by omega));clear H10;have H10:=Hn;clear Hn;clear H9;have H9:=zh p1;have HBn:=zh (zbp HBc.out HBc.out.size p2 lb9);clear HBc;have HBc:=HBn;clear HBn;clear hwN;have sz4:=p2.size;clear p1 p2;clear d7 c0 d5;obtain ⟨d7,c0,d5⟩:=HSF.out y4 HBc.out;(try clear z9 f9 l9);(try clear z10 f10 l10);obtain ⟨z9,_,f9⟩:=H9.out.cells;have l9:=H9.out.lt;obtain ⟨z10,_,f10⟩:=H10.out.cells;have l10:=H10.out.lt;skip
    refine hK.out _ _ ?_ (fun _=>?_)
    ·(try simp only [World.cell?_drew]);exact HSF.out y4 HBc.out
    clear hK K
    try simp only [Act.put,tS]
    refine rdH 16 rfl fun K hK=>?_
    go_simp
    generalize hwN:World.setCell _ _ _=y5;have p2:y4.grownBy y5 (some y1.heap.size):=(by rw [← hwN];exact (H10.out.put rs).2);have p1:BlkI y5 y1.heap.size rs:=(by rw [← hwN];exact (H10.out.put rs).1);(try clear z9 f9 l9);(try clear z10 f10 l10);have Hn:=zh (H9.out.other p2 (by omega));clear H9;have H9:=Hn;clear Hn;clear H10;have H10:=zh p1;have HBn:=zh (zbp HBc.out HBc.out.size p2 lb10);clear HBc;have HBc:=HBn;clear HBn;clear hwN;have sz5:=p2.size;clear p1 p2;clear d7 c0 d5;obtain ⟨d7,c0,d5⟩:=HSF.out y5 HBc.out;(try clear z9 f9 l9);(try clear z10 f10 l10);obtain ⟨z9,_,f9⟩:=H9.out.cells;have l9:=H9.out.lt;obtain ⟨z10,_,f10⟩:=H10.out.cells;have l10:=H10.out.lt;skip
    refine hK.out _ _ ?_ (fun _=>?_)
    ·(try simp only [World.cell?_drew]);exact HSF.out y5 HBc.out
    clear hK K
    try simp only [Act.put,tS]
    refine dnH ?_
    go_wp2_with fail
    go_meet
    case rel=>exact ⟨y2.heap.size,y1.heap.size,hd,rs,rfl,rfl,HSP,H9.out,H10.out,lb9,lb10,HBc.out⟩
  ·skip
   go_simp
   generalize hwN:World.alloc _ _=y1;have hst:Below w6.heap.size w6 y1:=(by rw [← hwN];exact zxa (Below.refl _ _) _);have lb9:w6.heap.size≤w6.heap.size:=HBc.out.size;have HBn:=zh (zxt HBc.out hst);clear HBc;have HBc:=HBn;clear HBn;have H9:Hid (BlkI y1 w6.heap.size It.zero):=(by unfold Hid;rw [← hwN];exact heap_alloc_new _ _);clear hwN hst;clear d7 c0 d5;obtain ⟨d7,c0,d5⟩:=HSF.out y1 HBc.out;(try clear z9 f9 l9);(try clear z10 f10 l10);obtain ⟨z9,_,f9⟩:=H9.out.cells;have l9:=H9.out.lt;have sz1:w6.heap.size < y1.heap.size:=H9.out.lt
   refine hK.out _ _ ?_ (fun _=>?_)
   ·(try simp only [World.cell?_drew]);exact HSF.out y1 HBc.out
   clear hK K
   try simp only [Act.put,tS]
   refine wpAnyH_ready (rs:=[9,14]) (by kernel_rfl) (by simp) ?_
   refine (AllReadyH.cons (o:=_) rfl (fun K hK=>?_) (AllReadyH.cons (o:=_) rfl (fun K hK=>?_) AllReadyH.nil))
   ·skip
    go_simp
    refine (SP.out _ (zxt HB6.out HBc.out).drew).mono ?_;(try clear z9 f9 l9);(try clear z10 f10 l10);rintro e y2 ⟨hd,rs,rfl,HSP,hb⟩;have hst:Below y1.heap.size y1 y2:=zxt (Below.drew (Below.refl _ _)) hb;clear hb;have HBn:=zh (zxt HBc.out hst);clear HBc;have HBc:=HBn;clear HBn;have Hn:=zh (H9.out.ext hst);clear H9;have H9:=Hn;clear Hn;clear d7 c0 d5;obtain ⟨d7,c0,d5⟩:=HSF.out y2 HBc.out;(try clear z9 f9 l9);(try clear z10 f10 l10);obtain ⟨z9,_,f9⟩:=H9.out.cells;have l9:=H9.out.lt;have sz2:y1.heap.size≤y2.heap.size:=hst.size;clear hst;try dsimp only
    refine hK.out _ _ ?_ (fun _=>?_)
    ·(try simp only [World.cell?_drew]);exact HSF.out y2 HBc.out
    clear hK K
    try simp only [Act.put,tS]
    refine tkH 10 rfl ?_
    refine tkH 11 rfl ?_
    refine tkH 12 rfl ?_
    refine rdH 14 rfl fun K hK=>?_
    go_simp
    generalize hwN:World.alloc _ _=y3;have hst:Below y2.heap.size y2 y3:=(by rw [← hwN];exact zxa (Below.refl _ _) _);have lb10:w6.heap.size≤y2.heap.size:=HBc.out.size;have HBn:=zh (zxt HBc.out hst);clear HBc;have HBc:=HBn;clear HBn;have Hn:=zh (H9.out.ext hst);clear H9;have H9:=Hn;clear Hn;have H10:Hid (BlkI y3 y2.heap.size It.zero):=(by unfold Hid;rw [← hwN];exact heap_alloc_new _ _);clear hwN hst;clear d7 c0 d5;obtain ⟨d7,c0,d5⟩:=HSF.out y3 HBc.out;(try clear z9 f9 l9);(try clear z10 f10 l10);obtain ⟨z9,_,f9⟩:=H9.out.cells;have l9:=H9.out.lt;obtain ⟨z10,_,f10⟩:=H10.out.cells;have l10:=H10.out.lt;have sz3:y2.heap.size < y3.heap.size:=H10.out.lt
    refine hK.out _ _ ?_ (fun _=>?_)
    ·(try simp only [World.cell?_drew]);exact HSF.out y3 HBc.out
    clear hK K
    try simp only [Act.put,tS]
    refine rdH 15 rfl fun K hK=>?_
    go_simp
    generalize hwN:World.setCell _ _ _=y4;have p2:y3.grownBy y4 (some w6.heap.size):=(by rw [← hwN];exact (H9.out.put hd).2);have p1:BlkI y4 w6.heap.size hd:=(by rw [← hwN];exact (H9.out.put hd).1);(try clear z9 f9 l9);(try clear z10 f10 l10);have Hn:=zh (H10.out.other p2 (by omega));clear H10;have H10:=Hn;clear Hn;clear H9;have H9:=zh p1;have HBn:=zh (zbp HBc.out HBc.out.size p2 lb9);clear HBc;have HBc:=HBn;clear HBn;clear hwN;have sz4:=p2.size;clear p1 p2;clear d7 c0 d5;obtain ⟨d7,c0,d5⟩:=HSF.out y4 HBc.out;(try clear z9 f9 l9);(try clear z10 f10 l10);obtain ⟨z9,_,f9⟩:=H9.out.cells;have l9:=H9.out.lt;obtain ⟨z10,_,f10⟩:=H10.out.cells;have l10:=H10.out.lt;skip
    refine hK.out _ _ ?_ (fun _=>?_)
    ·(try simp only [World.cell?_drew]);exact HSF.out y4 HBc.out
    clear hK K
    try simp only [Act.put,tS]
    refine rdH 16 rfl fun K hK=>?_
    go_simp
    generalize hwN:World.setCell _ _ _=y5;have p2:y4.grownBy y5 (some y2.heap.size):=(by rw [← hwN];exact (H10.out.put rs).2);have p1:BlkI y5 y2.heap.size rs:=(by rw [← hwN];exact (H10.out.put rs).1);(try clear z9 f9 l9);(try clear z10 f10 l10);have Hn:=zh (H9.out.other p2 (by omega));clear H9;have H9:=Hn;clear Hn;clear H10;have H10:=zh p1;have HBn:=zh (zbp HBc.out HBc.out.size p2 lb10);clear HBc;have HBc:=HBn;clear HBn;clear hwN;have sz5:=p2.size;clear p1 p2;clear d7 c0 d5;obtain ⟨d7,c0,d5⟩:=HSF.out y5 HBc.out;(try clear z9 f9 l9);(try clear z10 f10 l10);obtain ⟨z9,_,f9⟩:=H9.out.cells;have l9:=H9.out.lt;obtain ⟨z10,_,f10⟩:=H10.out.cells;have l10:=H10.out.lt;skip
    refine hK.out _ _ ?_ (fun _=>?_)
    ·(try simp only [World.cell?_drew]);exact HSF.out y5 HBc.out
    clear hK K
    try simp only [Act.put,tS]
    refine dnH ?_
    go_wp2_with fail
    go_meet
    case rel=>exact ⟨w6.heap.size,y2.heap.size,hd,rs,rfl,rfl,HSP,H9.out,H10.out,lb9,lb10,HBc.out⟩
   ·skip
    go_simp
    generalize hwN:World.alloc _ _=y2;have hst:Below y1.heap.size y1 y2:=(by rw [← hwN];exact zxa (Below.refl _ _) _);have lb10:w6.heap.size≤y1.heap.size:=HBc.out.size;have HBn:=zh (zxt HBc.out hst);clear HBc;have HBc:=HBn;clear HBn;have Hn:=zh (H9.out.ext hst);clear H9;have H9:=Hn;clear Hn;have H10:Hid (BlkI y2 y1.heap.size It.zero):=(by unfold Hid;rw [← hwN];exact heap_alloc_new _ _);clear hwN hst;clear d7 c0 d5;obtain ⟨d7,c0,d5⟩:=HSF.out y2 HBc.out;(try clear z9 f9 l9);(try clear z10 f10 l10);obtain ⟨z9,_,f9⟩:=H9.out.cells;have l9:=H9.out.lt;obtain ⟨z10,_,f10⟩:=H10.out.cells;have l10:=H10.out.lt;have sz2:y1.heap.size < y2.heap.size:=H10.out.lt
    refine hK.out _ _ ?_ (fun _=>?_)
    ·(try simp only [World.cell?_drew]);exact HSF.out y2 HBc.out
    clear hK K
    try simp only [Act.put,tS]
    refine rdH 9 rfl fun K hK=>?_
    go_simp
    refine (SP.out _ (zxt HB6.out HBc.out).drew).mono ?_;(try clear z9 f9 l9);(try clear z10 f10 l10);rintro e y3 ⟨hd,rs,rfl,HSP,hb⟩;have hst:Below y2.heap.size y2 y3:=zxt (Below.drew (Below.refl _ _)) hb;clear hb;have HBn:=zh (zxt HBc.out hst);clear HBc;have HBc:=HBn;clear HBn;have Hn:=zh (H9.out.ext hst);clear H9;have H9:=Hn;clear Hn;have Hn:=zh (H10.out.ext hst);clear H10;have H10:=Hn;clear Hn;clear d7 c0 d5;obtain ⟨d7,c0,d5⟩:=HSF.out y3 HBc.out;(try clear z9 f9 l9);(try clear z10 f10 l10);obtain ⟨z9,_,f9⟩:=H9.out.cells;have l9:=H9.out.lt;obtain ⟨z10,_,f10⟩:=H10.out.cells;have l10:=H10.out.lt;have sz3:y2.heap.size≤y3.heap.size:=hst.size;clear hst;try dsimp only
    refine hK.out _ _ ?_ (fun _=>?_)
    ·(try simp only [World.cell?_drew]);exact HSF.out y3 HBc.out
    clear hK K
    try simp only [Act.put,tS]
    refine tkH 10 rfl ?_
    refine tkH 11 rfl ?_
    refine tkH 12 rfl ?_
    refine rdH 15 rfl fun K hK=>?_
    go_simp
    generalize hwN:World.setCell _ _ _=y4;have p2:y3.grownBy y4 (some w6.heap.size):=(by rw [← hwN];exact (H9.out.put hd).2);have p1:BlkI y4 w6.heap.size hd:=(by rw [← hwN];exact (H9.out.put hd).1);(try clear z9 f9 l9);(try clear z10 f10 l10);have Hn:=zh (H10.out.other p2 (by omega));clear H10;have H10:=Hn;clear Hn;clear H9;have H9:=zh p1;have HBn:=zh (zbp HBc.out HBc.out.size p2 lb9);clear HBc;have HBc:=HBn;clear HBn;clear hwN;have sz4:=p2.size;clear p1 p2;clear d7 c0 d5;obtain ⟨d7,c0,d5⟩:=HSF.out y4 HBc.out;(try clear z9 f9 l9);(try clear z10 f10 l10);obtain ⟨z9,_,f9⟩:=H9.out.cells;have l9:=H9.out.lt;obtain ⟨z10,_,f10⟩:=H10.out.cells;have l10:=H10.out.lt;skip
    refine hK.out _ _ ?_ (fun _=>?_)
    ·(try simp only [World.cell?_drew]);exact HSF.out y4 HBc.out
    clear hK K
    try simp only [Act.put,tS]
    refine rdH 16 rfl fun K hK=>?_
    go_simp
    generalize hwN:World.setCell _ _ _=y5;have p2:y4.grownBy y5 (some y1.heap.size):=(by rw [← hwN];exact (H10.out.put rs).2);have p1:BlkI y5 y1.heap.size rs:=(by rw [← hwN];exact (H10.out.put rs).1);(try clear z9 f9 l9);(try clear z10 f10 l10);have Hn:=zh (H9.out.other p2 (by omega));clear H9;have H9:=Hn;clear Hn;clear H10;have H10:=zh p1;have HBn:=zh (zbp HBc.out HBc.out.size p2 lb10);clear HBc;have HBc:=HBn;clear HBn;clear hwN;have sz5:=p2.size;clear p1 p2;clear d7 c0 d5;obtain ⟨d7,c0,d5⟩:=HSF.out y5 HBc.out;(try clear z9 f9 l9);(try clear z10 f10 l10);obtain ⟨z9,_,f9⟩:=H9.out.cells;have l9:=H9.out.lt;obtain ⟨z10,_,f10⟩:=H10.out.cells;have l10:=H10.out.lt;skip
    refine hK.out _ _ ?_ (fun _=>?_)
    ·(try simp only [World.cell?_drew]);exact HSF.out y5 HBc.out
    clear hK K
    try simp only [Act.put,tS]
    refine dnH ?_
    go_wp2_with fail
    go_meet
    case rel=>exact ⟨w6.heap.size,y1.heap.size,hd,rs,rfl,rfl,HSP,H9.out,H10.out,lb9,lb10,HBc.out⟩
  ·skip
   go_simp
   generalize hwN:World.alloc _ _=y1;have hst:Below w6.heap.size w6 y1:=(by rw [← hwN];exact zxa (Below.refl _ _) _);have lb10:w6.heap.size≤w6.heap.size:=HBc.out.size;have HBn:=zh (zxt HBc.out hst);clear HBc;have HBc:=HBn;clear HBn;have H10:Hid (BlkI y1 w6.heap.size It.zero):=(by unfold Hid;rw [← hwN];exact heap_alloc_new _ _);clear hwN hst;clear d7 c0 d5;obtain ⟨d7,c0,d5⟩:=HSF.out y1 HBc.out;(try clear z9 f9 l9);(try clear z10 f10 l10);obtain ⟨z10,_,f10⟩:=H10.out.cells;have l10:=H10.out.lt;have sz1:w6.heap.size < y1.heap.size:=H10.out.lt
   refine hK.out _ _ ?_ (fun _=>?_)
   ·(try simp only [World.cell?_drew]);exact HSF.out y1 HBc.out
   clear hK K
   try simp only [Act.put,tS]
   refine wpAnyH_ready (rs:=[9,13]) (by kernel_rfl) (by simp) ?_
   refine (AllReadyH.cons (o:=_) rfl (fun K hK=>?_) (AllReadyH.cons (o:=_) rfl (fun K hK=>?_) AllReadyH.nil))
   ·skip
    go_simp
    refine (SP.out _ (zxt HB6.out HBc.out).drew).mono ?_;(try clear z9 f9 l9);(try clear z10 f10 l10);rintro e y2 ⟨hd,rs,rfl,HSP,hb⟩;have hst:Below y1.heap.size y1 y2:=zxt (Below.drew (Below.refl _ _)) hb;clear hb;have HBn:=zh (zxt HBc.out hst);clear HBc;have HBc:=HBn;clear HBn;have Hn:=zh (H10.out.ext hst);clear H10;have H10:=Hn;clear Hn;clear d7 c0 d5;obtain ⟨d7,c0,d5⟩:=HSF.out y2 HBc.out;(try clear z9 f9 l9);(try clear z10 f10 l10);obtain ⟨z10,_,f10⟩:=H10.out.cells;have l10:=H10.out.lt;have sz2:y1.heap.size≤y2.heap.size:=hst.size;clear hst;try dsimp only
    refine hK.out _ _ ?_ (fun _=>?_)
    ·(try simp only [World.cell?_drew]);exact HSF.out y2 HBc.out
    clear hK K
    try simp only [Act.put,tS]
    refine tkH 10 rfl ?_
    refine tkH 11 rfl ?_
    refine tkH 12 rfl ?_
    refine rdH 13 rfl fun K hK=>?_
    go_simp
    generalize hwN:World.alloc _ _=y3;have hst:Below y2.heap.size y2 y3:=(by rw [← hwN];exact zxa (Below.refl _ _) _);have lb9:w6.heap.size≤y2.heap.size:=HBc.out.size;have HBn:=zh (zxt HBc.out hst);clear HBc;have HBc:=HBn;clear HBn;have Hn:=zh (H10.out.ext hst);clear H10;have H10:=Hn;clear Hn;have H9:Hid (BlkI y3 y2.heap.size It.zero):=(by unfold Hid;rw [← hwN];exact heap_alloc_new _ _);clear hwN hst;clear d7 c0 d5;obtain ⟨d7,c0,d5⟩:=HSF.out y3 HBc.out;(try clear z9 f9 l9);(try clear z10 f10 l10);obtain ⟨z9,_,f9⟩:=H9.out.cells;have l9:=H9.out.lt;obtain ⟨z10,_,f10⟩:=H10.out.cells;have l10:=H10.out.lt;have sz3:y2.heap.size < y3.heap.size:=H9.out.lt
    refine hK.out _ _ ?_ (fun _=>?_)
    ·(try simp only [World.cell?_drew]);exact HSF.out y3 HBc.out
    clear hK K
    try simp only [Act.put,tS]
    refine rdH 15 rfl fun K hK=>?_
    go_simp
    generalize hwN:World.setCell _ _ _=y4;have p2:y3.grownBy y4 (some y2.heap.size):=(by rw [← hwN];exact (H9.out.put hd).2);have p1:BlkI y4 y2.heap.size hd:=(by rw [← hwN];exact (H9.out.put hd).1);(try clear z9 f9 l9);(try clear z10 f10 l10);have Hn:=zh (H10.out.other p2 (by omega));clear H10;have H10:=Hn;clear Hn;clear H9;have H9:=zh p1;have HBn:=zh (zbp HBc.out HBc.out.size p2 lb9);clear HBc;have HBc:=HBn;clear HBn;clear hwN;have sz4:=p2.size;clear p1 p2;clear d7 c0 d5;obtain ⟨d7,c0,d5⟩:=HSF.out y4 HBc.out;(try clear z9 f9 l9);(try clear z10 f10 l10);obtain ⟨z9,_,f9⟩:=H9.out.cells;have l9:=H9.out.lt;obtain ⟨z10,_,f10⟩:=H10.out.cells;have l10:=H10.out.lt;skip
    refine hK.out _ _ ?_ (fun _=>?_)
    ·(try simp only [World.cell?_drew]);exact HSF.out y4 HBc.out
    clear hK K
    try simp only [Act.put,tS]
    refine rdH 16 rfl fun K hK=>?_
    go_simp
    generalize hwN:World.setCell _ _ _=y5;have p2:y4.grownBy y5 (some w6.heap.size):=(by rw [← hwN];exact (H10.out.put rs).2);have p1:BlkI y5 w6.heap.size rs:=(by rw [← hwN];exact (H10.out.put rs).1);(try clear z9 f9 l9);(try clear z10 f10 l10);have Hn:=zh (H9.out.other p2 (by omega));clear H9;have H9:=Hn;clear Hn;clear H10;have H10:=zh p1;have HBn:=zh (zbp HBc.out HBc.out.size p2 lb10);clear HBc;have HBc:=HBn;clear HBn;clear hwN;have sz5:=p2.size;clear p1 p2;clear d7 c0 d5;obtain ⟨d7,c0,d5⟩:=HSF.out y5 HBc.out;(try clear z9 f9 l9);(try clear z10 f10 l10);obtain ⟨z9,_,f9⟩:=H9.out.cells;have l9:=H9.out.lt;obtain ⟨z10,_,f10⟩:=H10.out.cells;have l10:=H10.out.lt;skip
    refine hK.out _ _ ?_ (fun _=>?_)
    ·(try simp only [World.cell?_drew]);exact HSF.out y5 HBc.out
    clear hK K
    try simp only [Act.put,tS]
    refine dnH ?_
    go_wp2_with fail
    go_meet
    case rel=>exact ⟨y2.heap.size,w6.heap.size,hd,rs,rfl,rfl,HSP,H9.out,H10.out,lb9,lb10,HBc.out⟩
   ·skip
    go_simp
    generalize hwN:World.alloc _ _=y2;have hst:Below y1.heap.size y1 y2:=(by rw [← hwN];exact zxa (Below.refl _ _) _);have lb9:w6.heap.size≤y1.heap.size:=HBc.out.size;have HBn:=zh (zxt HBc.out hst);clear HBc;have HBc:=HBn;clear HBn;have Hn:=zh (H10.out.ext hst);clear H10;have H10:=Hn;clear Hn;have H9:Hid (BlkI y2 y1.heap.size It.zero):=(by unfold Hid;rw [← hwN];exact heap_alloc_new _ _);clear hwN hst;clear d7 c0 d5;obtain ⟨d7,c0,d5⟩:=HSF.out y2 HBc.out;(try clear z9 f9 l9);(try clear z10 f10 l10);obtain ⟨z9,_,f9⟩:=H9.out.cells;have l9:=H9.out.lt;obtain ⟨z10,_,f10⟩:=H10.out.cells;have l10:=H10.out.lt;have sz2:y1.heap.size < y2.heap.size:=H9.out.lt
    refine hK.out _ _ ?_ (fun _=>?_)
    ·(try simp only [World.cell?_drew]);exact HSF.out y2 HBc.out
    clear hK K
    try simp only [Act.put,tS]
    refine rdH 9 rfl fun K hK=>?_
    go_simp
    refine (SP.out _ (zxt HB6.out HBc.out).drew).mono ?_;(try clear z9 f9 l9);(try clear z10 f10 l10);rintro e y3 ⟨hd,rs,rfl,HSP,hb⟩;have hst:Below y2.heap.size y2 y3:=zxt (Below.drew (Below.refl _ _)) hb;clear hb;have HBn:=zh (zxt HBc.out hst);clear HBc;have HBc:=HBn;clear HBn;have Hn:=zh (H9.out.ext hst);clear H9;have H9:=Hn;clear Hn;have Hn:=zh (H10.out.ext hst);clear H10;have H10:=Hn;clear Hn;clear d7 c0 d5;obtain ⟨d7,c0,d5⟩:=HSF.out y3 HBc.out;(try clear z9 f9 l9);(try clear z10 f10 l10);obtain ⟨z9,_,f9⟩:=H9.out.cells;have l9:=H9.out.lt;obtain ⟨z10,_,f10⟩:=H10.out.cells;have l10:=H10.out.lt;have sz3:y2.heap.size≤y3.heap.size:=hst.size;clear hst;try dsimp only
    refine hK.out _ _ ?_ (fun _=>?_)
    ·(try simp only [World.cell?_drew]);exact HSF.out y3 HBc.out
    clear hK K
    try simp only [Act.put,tS]
    refine tkH 10 rfl ?_
    refine tkH 11 rfl ?_
    refine tkH 12 rfl ?_
    refine rdH 15 rfl fun K hK=>?_
    go_simp
    generalize hwN:World.setCell _ _ _=y4;have p2:y3.grownBy y4 (some y1.heap.size):=(by rw [← hwN];exact (H9.out.put hd).2);have p1:BlkI y4 y1.heap.size hd:=(by rw [← hwN];exact (H9.out.put hd).1);(try clear z9 f9 l9);(try clear z10 f10 l10);have Hn:=zh (H10.out.other p2 (by omega));clear H10;have H10:=Hn;clear Hn;clear H9;have H9:=zh p1;have HBn:=zh (zbp HBc.out HBc.out.size p2 lb9);clear HBc;have HBc:=HBn;clear HBn;clear hwN;have sz4:=p2.size;clear p1 p2;clear d7 c0 d5;obtain ⟨d7,c0,d5⟩:=HSF.out y4 HBc.out;(try clear z9 f9 l9);(try clear z10 f10 l10);obtain ⟨z9,_,f9⟩:=H9.out.cells;have l9:=H9.out.lt;obtain ⟨z10,_,f10⟩:=H10.out.cells;have l10:=H10.out.lt;skip
    refine hK.out _ _ ?_ (fun _=>?_)
    ·(try simp only [World.cell?_drew]);exact HSF.out y4 HBc.out
    clear hK K
    try simp only [Act.put,tS]
    refine rdH 16 rfl fun K hK=>?_
    go_simp
    generalize hwN:World.setCell _ _ _=y5;have p2:y4.grownBy y5 (some w6.heap.size):=(by rw [← hwN];exact (H10.out.put rs).2);have p1:BlkI y5 w6.heap.size rs:=(by rw [← hwN];exact (H10.out.put rs).1);(try clear z9 f9 l9);(try clear z10 f10 l10);have Hn:=zh (H9.out.other p2 (by omega));clear H9;have H9:=Hn;clear Hn;clear H10;have H10:=zh p1;have HBn:=zh (zbp HBc.out HBc.out.size p2 lb10);clear HBc;have HBc:=HBn;clear HBn;clear hwN;have sz5:=p2.size;clear p1 p2;clear d7 c0 d5;obtain ⟨d7,c0,d5⟩:=HSF.out y5 HBc.out;(try clear z9 f9 l9);(try clear z10 f10 l10);obtain ⟨z9,_,f9⟩:=H9.out.cells;have l9:=H9.out.lt;obtain ⟨z10,_,f10⟩:=H10.out.cells;have l10:=H10.out.lt;skip
    refine hK.out _ _ ?_ (fun _=>?_)
    ·(try simp only [World.cell?_drew]);exact HSF.out y5 HBc.out
    clear hK K
    try simp only [Act.put,tS]
    refine dnH ?_
    go_wp2_with fail
    go_meet
    case rel=>exact ⟨y1.heap.size,w6.heap.size,hd,rs,rfl,rfl,HSP,H9.out,H10.out,lb9,lb10,HBc.out⟩
 obtain ⟨b9,b10,hd,rs,rfl,rfl,HSP,HX⟩:=hcut
 obtain ⟨v1,rfl⟩:∃ v1,v1=wc:=⟨_,rfl⟩
 have HB7:=zh (zxt HB6.out HX.out.2.2.2.2)
 have HK87:=zh (HK8.out.ext HX.out.2.2.2.2)
 obtain ⟨d5,_,_,_,f5⟩:=HK87.out.cells
 have l5:=HK87.out.lt
 obtain ⟨d9,_,_⟩:=HX.out.1.cells
 have AD:Hid (∀ w',Calls Tryz.prog 59 #[.agg #[.int .i64 s.a,.int .i64 s.s,.int .i64 s.b,.bool s.lf,.bool s.cr],.agg #[.int .i64 hd.sp.a,.int .i64 hd.sp.s,.int .i64 hd.sp.b,.bool hd.sp.lf,.bool hd.sp.cr]] w' fun e w''=>∃ q,Hid (q=Rs.add s hd.sp)∧e=.returned (.agg #[.int .i64 q.a,.int .i64 q.s,.int .i64 q.b,.bool q.lf,.bool q.cr])∧Below w'.heap.size w' w''):=fun w'=>by
  obtain ⟨q1,q2,q3,q4,q5,q6,q7,q8,q9⟩:=HBN.out s hd.sp HS.out HSP.out.1
  exact Add_any s hd.sp w' q1 q2 q3 q4 q5 q6 q7 q8 q9
 have MT:Hid (∀ (q:Rs) (w':World),Calls Tryz.prog 60 #[.agg #[.int .i64 q.a,.int .i64 q.s,.int .i64 q.b,.bool q.lf,.bool q.cr],.agg #[.int .i64 rs.sp.a,.int .i64 rs.sp.s,.int .i64 rs.sp.b,.bool rs.sp.lf,.bool rs.sp.cr]] w' fun e w''=>e=.returned (.bool (q.cr && rs.sp.lf))∧Below w'.heap.size w' w''):=fun q w'=>melt_any q rs.sp w'
 have hne:w5.heap.size≠b9∧w5.heap.size≠b10:=by have:=HX.out.2.2.1;have:=HX.out.2.2.2.1;have:=HLT.out;omega
 go_upto_region 10 with (go_at_call 59;refine (AD.out v1).mono ?_;clear d5 f5 l5 d9;rintro e v2 ⟨q,hq,rfl,hb⟩;have HQ:=zh hq.out;have HBv:=zh hb;clear hq hb;obtain ⟨d5,_,_,_,f5⟩:=(HK87.out.ext HBv.out).cells;have l5:=(HK87.out.ext HBv.out).lt;(try dsimp only))
 generalize hwN:World.setCell _ _ _=v3
 have p2:v2.grownBy v3 (some w5.heap.size):=by rw [← hwN];exact ((HK87.out.ext HBv.out).put q).2
 have p1:Blk 109 v3 w5.heap.size q:=by rw [← hwN];exact ((HK87.out.ext HBv.out).put q).1
 have HP1:=zh p1
 have HB8:=zh (zbp (zxt HB7.out HBv.out) (zxt HB7.out HBv.out).size p2 HB5.out.size)
 have HX10:=zh ((HX.out.2.1.ext HBv.out).other p2 (Ne.symm hne.2))
 clear hwN p1 p2 d5 f5 l5
 obtain ⟨d5,_,_,_,_⟩:=HP1.out.cells
 obtain ⟨d10,_,_⟩:=HX10.out.cells
 have HE:Hid (brk enc (asOf ps) m=q.b - (if (q.cr && rs.sp.lf)=true then 1 else 0)):=by unfold Hid;rw [HAN.out,HQ.out,HS.out,HSP.out.1,HSP.out.2]
 have hqb:q.b≤9223372036854775807∧0≤q.b:=by
  obtain ⟨q1,q2,q3,q4,q5,q6,q7,q8,q9⟩:=HBN.out s hd.sp HS.out HSP.out.1
  rw [HQ.out]
  have k1:=spn_ok enc (asOf (ps.take i))
  have k2:=spn_ok enc (gx.take n)
  rw [← HS.out] at k1
  rw [← HSP.out.1] at k2
  unfold Rs.add
  split
  ·omega
  ·split
   ·omega
   ·have:=Rs.mlt_range s hd.sp
    have:=Rs.mlt_le (x:=s) k2
    simp only
    omega
 by_cases hme:(q.cr && rs.sp.lf)=true
 ·have HE2:=zh (show brk enc (asOf ps) m=q.b - 1 by rw [HE.out,if_pos hme])
  have MT2:Hid (∀ w':World,Calls Tryz.prog 60 #[.agg #[.int .i64 q.a,.int .i64 q.s,.int .i64 q.b,.bool q.lf,.bool q.cr],.agg #[.int .i64 rs.sp.a,.int .i64 rs.sp.s,.int .i64 rs.sp.b,.bool rs.sp.lf,.bool rs.sp.cr]] w' fun e w''=>e=.returned (.bool true)∧Below w'.heap.size w' w''):=fun w'=>by have h:=MT.out q w';rwa [hme] at h
  clear hme
  have hwq:IntKind.i64.wrap (q.b - 1)=q.b - 1:=by rw [IntKind.wrap_i64];omega
  have HCB:Hid (∀ w',Below v3.heap.size v3 w'→w'.cell? ⟨w5.heap.size,2,none⟩=some (.int .i64 q.b)):=fun w' hb=>(HP1.out.ext hb).cells.1.2.2.1
  go_wp2_with (go_at_call 60;refine (MT2.out v3).mono ?_;clear d5 d10;rintro e v4 ⟨rfl,hb⟩;have HB9:=zh (zxt HB8.out hb);have d2:=HCB.out v4 hb;clear hb;(try dsimp only))
  go_ret
  exact ⟨ret_int HE2.out.symm,HB9.out⟩
 ·have hme':(q.cr && rs.sp.lf)=false:=by simpa using hme
  have HE2:=zh (show brk enc (asOf ps) m=q.b by rw [HE.out,if_neg hme];omega)
  have HCB:Hid (∀ w',Below v3.heap.size v3 w'→w'.cell? ⟨w5.heap.size,2,none⟩=some (.int .i64 q.b)):=fun w' hb=>(HP1.out.ext hb).cells.1.2.2.1
  have MT2:Hid (∀ w':World,Calls Tryz.prog 60 #[.agg #[.int .i64 q.a,.int .i64 q.s,.int .i64 q.b,.bool q.lf,.bool q.cr],.agg #[.int .i64 rs.sp.a,.int .i64 rs.sp.s,.int .i64 rs.sp.b,.bool rs.sp.lf,.bool rs.sp.cr]] w' fun e w''=>e=.returned (.bool false)∧Below w'.heap.size w' w''):=fun w'=>by have h:=MT.out q w';rwa [hme'] at h
  clear hme hme'
  go_wp2_with (go_at_call 60;refine (MT2.out v3).mono ?_;clear d5 d10;rintro e v4 ⟨rfl,hb⟩;have HB9:=zh (zxt HB8.out hb);have d2:=HCB.out v4 hb;clear hb;(try dsimp only))
  go_ret
  exact ⟨ret_int HE2.out.symm,HB9.out⟩
end Go.Proofs.YtgfdfajblidleaaGreat.P
