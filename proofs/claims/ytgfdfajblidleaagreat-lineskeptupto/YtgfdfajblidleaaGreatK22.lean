import Derived.Test.YtgfdfajblidleaaGreatK21
import Derived.Deep.RegionHeld3
import Derived.Sort.CutIn
set_option maxRecDepth 100000
namespace Go.Proofs.YtgfdfajblidleaaGreat.P
open Go.RowKit Go.Shelf
attribute [local go_sem] Oper.semAt_some
structure SkI (enc:Int) (A:List Int) (k:Int) (ans bs bc:Nat) (hold:Nat→Prop) (V:World) (m:Nat) (W:World):Prop where
 sb:Blk 109 W bs (spn enc (A.take m))
 cb:W.heap[bc]?=some (.cells #[.int .i64 0] 3 (0,0))
 an:ans=m + skL k (spn enc (A.take m)).b (spn enc (A.take m)).cr (A.drop m)
 hd:∀ j,hold j→W.heap[j]?=V.heap[j]?
def skO (bs bc:Nat) (_:Unit) (k:Nat):Prop:=k=bs∨k=bc
section
variable {enc:Int} {A:List Int} {k:Int} {ans bs bc:Nat} {hold:Nat→Prop} {V:World} {m:Nat} {W:World}
theorem SkI.same {W':World} (h:SkI enc A k ans bs bc hold V m W) (hk:∀ j,skO bs bc () j∨hold j→W'.heap[j]?=W.heap[j]?):SkI enc A k ans bs bc hold V m W' :=
 ⟨by unfold Blk;rw [hk bs (.inl (.inl rfl))];exact h.sb,by rw [hk bc (.inl (.inr rfl))];exact h.cb,h.an,fun j hj=>(hk j (.inr hj)).trans (h.hd j hj)⟩
theorem SkI.lives (h:SkI enc A k ans bs bc hold V m W) (j:Nat) (hk:skO bs bc () j):j < W.heap.size:=by
 rcases hk with rfl | rfl
 ·exact h.sb.lt
 ·exact (Array.getElem?_eq_some_iff.1 h.cb).1
theorem SkI.ext {W':World} (h:SkI enc A k ans bs bc hold V m W) (hb:Below W.heap.size W W') (hl:∀ j,hold j→j < W.heap.size):SkI enc A k ans bs bc hold V m W' :=
 h.same fun j hj=>hb.block j (hj.elim (h.lives j) (hl j))
theorem SkI.step {W':World} {a:Int} (h:SkI enc A k ans bs bc hold V m W) (ha:A[m]?=some a) (hne:(spn enc (A.take m)).b≠k) (q:Rs) (hq:q=Rs.add (spn enc (A.take m)) (sg a (Cx.size enc a))) (h1:Blk 109 W' bs q) (h2:W.grownBy W' (some bs)) (hd:bs≠bc∧¬ hold bs) (hl:∀ j,hold j→j < W.heap.size) :
  SkI enc A k ans bs bc hold V (m + 1) W':=by
 have e:A.take (m + 1)=A.take m ++ [a]:=by rw [List.take_add_one,ha];rfl
 have hs:spn enc (A.take (m + 1))=q:=by rw [e,spn_snoc,hq]
 refine ⟨by rw [hs];exact h1,(h2.block bc (Array.getElem?_eq_some_iff.1 h.cb).1 (fun e=>hd.1 (Option.some.inj e).symm)).trans h.cb,?_,fun j hj=>(h2.block j (hl j hj) (fun e=>hd.2 (by rw [← Option.some.inj e];exact hj))).trans (h.hd j hj)⟩
 have han:=h.an
 rw [drop_of ha,skL,if_neg hne] at han
 obtain ⟨e1,e2⟩:=spn_nb enc (A.take m) a
 rw [e,e1,e2,han]
 omega
end
structure SkB (enc:Int) (A:List Int) (k:Int) (ans bs bc:Nat) (hold:Nat→Prop) (V V1:World) (g5:Nat) (x:It) (m:Nat) (W:World):Prop where
 i:SkI enc A k ans bs bc hold V m W
 bx:BlkI W g5 x
 kp:Kps (skO bs bc ()) V1 W
section
variable {enc:Int} {A:List Int} {k:Int} {ans bs bc:Nat} {hold:Nat→Prop} {V V1:World} {g5:Nat} {x:It} {m:Nat} {W:World}
theorem SkB.ext {W':World} (h:SkB enc A k ans bs bc hold V V1 g5 x m W) (hb:Below W.heap.size W W') (hl:∀ j,hold j→j < V1.heap.size):SkB enc A k ans bs bc hold V V1 g5 x m W' :=
 ⟨h.i.ext hb (fun j hj=>Nat.lt_of_lt_of_le (hl j hj) h.kp.size),h.bx.ext hb,h.kp.trans (Kps.of_below _ hb) (fun _ _ e=>e)⟩
theorem SkB.step {W':World} {a:Int} (h:SkB enc A k ans bs bc hold V V1 g5 x m W) (ha:A[m]?=some a) (hne:(spn enc (A.take m)).b≠k) (q:Rs) (hq:q=Rs.add (spn enc (A.take m)) (sg a (Cx.size enc a))) (h1:Blk 109 W' bs q) (h2:W.grownBy W' (some bs)) (hd:bs≠bc∧¬ hold bs∧bs≠g5) (hl:∀ j,hold j→j < V1.heap.size) :
  SkB enc A k ans bs bc hold V V1 g5 x (m + 1) W' :=
 ⟨h.i.step ha hne q hq h1 h2 ⟨hd.1,hd.2.1⟩ (fun j hj=>Nat.lt_of_lt_of_le (hl j hj) h.kp.size),h.bx.other h2 (fun e=>hd.2.2 e.symm),h.kp.trans (Kps.grown h2 (fun _ e _=>.inl (Option.some.inj e).symm)) (fun _ _ e=>e)⟩
theorem SkB.fin {W W':World} {v:Value} (h:Kps (skO bs bc ()) V1 W) (hc:W.heap[bc]?=some (.cells #[v] 3 (0,0))) (z:Int) (hw:W'=W.setCell ⟨bc,0,none⟩ (.int .i64 z)):W'.heap[bc]?=some (.cells #[.int .i64 z] 3 (0,0))∧Kps (skO bs bc ()) V1 W':=by
 rw [hw]
 obtain ⟨p1,p2⟩:=set1 hc 0 (.int .i64 z)
 exact ⟨p1,h.trans (Kps.grown p2 (fun j e _=>.inr (Option.some.inj e).symm)) (fun _ _ e=>e)⟩
end
theorem find_brk {enc:Int} {L:List Int} {w:World} {ps:List PG} (h:Pcs enc L w ps) (k:Int) (h0:0 < k) (hk:k≤(spn enc (asOf ps)).b) :
  ∃ i,rA.fnd 1 k Rs.zero (xsOf ps)=i + 1∧i < ps.length∧(spn enc (asOf (ps.take i))).b < k:=by
 have l2:=rA.fnd_le 1 k (xsOf ps) Rs.zero
 rw [xsOf_len] at l2
 have key:∀ j,rA.key (rA.add Rs.zero (rA.su ((xsOf ps).take j))) 1=(spn enc (asOf (ps.take j))).b:=fun j=>by
  have h':Pcs enc L w (ps.take j):=fun q hq=>h q (List.mem_of_mem_take hq)
  rw [show (xsOf ps).take j=xsOf (ps.take j) by simp [xsOf,List.map_take],h'.su]
  show Rs.key (Rs.add Rs.zero _) 1=_
  rw [Rs.zadd]
  rfl
 have hne:rA.fnd 1 k Rs.zero (xsOf ps)≠0:=by
  intro e
  have:=rA.fnd_hit 1 k (xsOf ps) Rs.zero Rs.ok_zero (by rw [e];exact Nat.zero_le _)
  rw [e,key 0,List.take_zero] at this
  simp [asOf,spn_nil,Rs.zero] at this
  omega
 obtain ⟨i,hi⟩:∃ i,rA.fnd 1 k Rs.zero (xsOf ps)=i + 1:=⟨_,(Nat.succ_pred_eq_of_ne_zero hne).symm⟩
 have hls:∀ j,j < i + 1→(spn enc (asOf (ps.take j))).b < k:=fun j hj=>by
  have:=rA.fnd_less 1 k (xsOf ps) Rs.zero j Rs.ok_zero (by omega)
  rw [key j] at this
  exact this
 refine ⟨i,hi,?_,hls i (by omega)⟩
 rcases Nat.lt_or_ge i ps.length with h1 | h1
 ·exact h1
 ·have:=hls i (by omega)
  rw [List.take_of_length_le h1] at this
  omega
set_option maxHeartbeats 8000000 in
theorem Seek_any (enc lim:Int) (L:List Int) (w:World) (t:Nat) (ps:List PG) (k:Int) (h:Tx enc lim L w t ps):Calls Tryz.prog 40 #[.pointer (some ⟨t,0,none⟩),.int .i64 k] w fun e w'=>e=.returned (.int .i64 (skA enc (asOf ps) k))∧Below w.heap.size w w':=by
 have hsl:=h.sum.2.2
 have HT:=zh h
 obtain ⟨w0,hw0⟩:∃ w0,w0=((w.alloc (.cells #[.pointer (some ⟨t,0,none⟩)] 26)).alloc (.cells #[.int .i64 k] 3)).alloc (.cells #[.int .i64 0] 3):=⟨_,rfl⟩
 have HW0:Hid (w0.heap[w.heap.size]?=some (.cells #[.pointer (some ⟨t,0,none⟩)] 26 (0,0))∧w0.heap[w.heap.size + 1]?=some (.cells #[.int .i64 k] 3 (0,0))∧w0.heap[w.heap.size + 1 + 1]?=some (.cells #[.int .i64 0] 3 (0,0))∧Below w.heap.size w w0∧w0.heap.size=w.heap.size + 3):=by
  unfold Hid
  rw [hw0]
  refine ⟨?_,?_,?_,zxa (zxa (zxa (Below.refl _ _) _) _) _,by simp⟩
  ·exact (Below.heap_alloc _ _ _ (by simp;omega)).trans ((Below.heap_alloc _ _ _ (by simp)).trans (heap_alloc_new _ _))
  ·have e:w.heap.size + 1=(w.alloc (.cells #[.pointer (some ⟨t,0,none⟩)] 26)).heap.size:=by simp
   rw [e]
   exact (Below.heap_alloc _ _ _ (by simp)).trans (heap_alloc_new _ _)
  ·have e:w.heap.size + 1 + 1=((w.alloc (.cells #[.pointer (some ⟨t,0,none⟩)] 26)).alloc (.cells #[.int .i64 k] 3)).heap.size:=by simp
   rw [e]
   exact heap_alloc_new _ _
 have HB0:=zh HW0.out.2.2.2.1
 have HZ0:=zh HW0.out.2.2.2.2
 obtain ⟨lv,u,⟨e0w,_,_,c3w⟩,_,htt,htl⟩:=h.cells
 have HC:Hid (∀ w',Below w0.heap.size w0 w'→w'.cell? ⟨w.heap.size,0,none⟩=some (.pointer (some ⟨t,0,none⟩))∧w'.cell? ⟨w.heap.size + 1,0,none⟩=some (.int .i64 k)∧w'.cell? ⟨t,3,none⟩=some (.pointer u)):=fun w' hb=>by
  have z0:=HZ0.out
  refine ⟨?_,?_,((zxt HB0.out hb).cell (p:=⟨t,3,none⟩) htl).trans c3w⟩
  ·rw [cell_of_row w' _ _ _ _ _ ((hb.block _ (by omega)).trans HW0.out.1)];rfl
  ·rw [cell_of_row w' _ _ _ _ _ ((hb.block _ (by omega)).trans HW0.out.2.1)];rfl
 have HRES:Hid (∀ w' z,Below w0.heap.size w0 w'→(w'.setCell ⟨w.heap.size + 1 + 1,0,none⟩ (.int .i64 z)).cell? ⟨w.heap.size + 1 + 1,0,none⟩=some (.int .i64 z)∧Below w.heap.size w (w'.setCell ⟨w.heap.size + 1 + 1,0,none⟩ (.int .i64 z))):=fun w' z hb=>by
  have z0:=HZ0.out
  obtain ⟨p1,p2⟩:=set1 ((hb.block _ (by omega)).trans HW0.out.2.2.1) 0 (.int .i64 z)
  exact ⟨by rw [cell_of_row _ _ _ _ _ _ p1];rfl,zbp (zxt HB0.out hb) (zxt HB0.out hb).size p2 (by omega)⟩
 have HFZ:Hid (∀ w',Below w0.heap.size w0 w'→w'.cell? ⟨w.heap.size + 1 + 1,0,none⟩=some (.int .i64 0)∧∀ i,w'.frozen? ⟨w.heap.size + 1 + 1,i,none⟩=false):=fun w' hb=>by
  have e:=(hb.block _ (by have z0:=HZ0.out;omega)).trans HW0.out.2.2.1
  exact ⟨by rw [cell_of_row _ _ _ _ _ _ e];rfl,fun i=>by simp [World.frozen?,e]⟩
 have hkk:k=0∨(k≠0∧(k < 0∨(spn enc (asOf ps)).b < k))∨(0 < k∧k≤(spn enc (asOf ps)).b):=by omega
 have SU:Hid (∀ w',Below w0.heap.size w0 w'→Calls Tryz.prog 54 #[.agg #[.pointer u]] w' fun e w''=>∃ s:Rs,Hid (s.b=(spn enc (asOf ps)).b)∧e=.returned (.agg #[.int .i64 s.a,.int .i64 s.s,.int .i64 s.b,.bool s.lf,.bool s.cr])∧Below w'.heap.size w' w''):=fun w' hb=>by
  refine (Sum_any u (xsOf ps) w' (htt.ext (zxt HB0.out hb))).mono ?_
  rintro e w'' ⟨s,hs,rfl,hb'⟩
  exact ⟨s,by unfold Hid;rw [hs.out,h.pc.su],rfl,hb'⟩
 have fb:=field_breaks
 rcases hkk with hk0 | ⟨hk0,hbad⟩ | ⟨hk0,hkb⟩
 ·subst hk0
  obtain ⟨d0,d1,_⟩:=HC.out w0 (Below.refl _ _)
  obtain ⟨d4,f4⟩:=HFZ.out w0 (Below.refl _ _)
  have HA:=zh (show skA enc (asOf ps) 0=0 by unfold skA;rw [if_pos rfl])
  have HR:=zh (HRES.out w0 0 (Below.refl _ _))
  clear h htt SU fb HC HRES htl hsl c3w e0w
  refine (callsIn_wide (n:=9)).1 ?_
  refine callsIn_of_wp_marks Tryz.func40 rfl trivial ?_ rfl
  simp only [Tryz.ntmps40,List.size_toArray,List.length_cons,List.length_nil,Nat.reduceAdd,Nat.reduceSub,Array.replicate_succ,Array.replicate_zero,List.push_toArray,List.append_toArray,List.nil_append,List.cons_append]
  refine wpIn_mono (Q:=calm _) ?_ (fun _ _ _ h=>calm_imp h)
  refine wpIn_wide.2 ?_
  go_upto_region 1 with fail
  rw [← hw0]
  clear hw0
  go_wp2_with fail
  refine ⟨.int .i64 0,by simp [results,Tryz.results40,go_sem,HR.out.1],?_⟩
  exact ⟨ret_int HA.out.symm,HR.out.2⟩
 ·have HA:=zh (show skA enc (asOf ps) k=-1 by unfold skA;rw [if_neg hk0,if_pos hbad])
  obtain ⟨d0,d1,d3⟩:=HC.out w0 (Below.refl _ _)
  obtain ⟨d4,f4⟩:=HFZ.out w0 (Below.refl _ _)
  clear h htt htl hsl c3w e0w
  refine (callsIn_wide (n:=9)).1 ?_
  refine callsIn_of_wp_marks Tryz.func40 rfl trivial ?_ rfl
  simp only [Tryz.ntmps40,List.size_toArray,List.length_cons,List.length_nil,Nat.reduceAdd,Nat.reduceSub,Array.replicate_succ,Array.replicate_zero,List.push_toArray,List.append_toArray,List.nil_append,List.cons_append]
  refine wpIn_mono (Q:=calm _) ?_ (fun _ _ _ h=>calm_imp h)
  refine wpIn_wide.2 ?_
  go_upto_region 1 with fail
  rw [← hw0]
  clear hw0
  by_cases hk1:k < 0
  ·have HR:=zh (HRES.out w0 (-1) (Below.refl _ _))
   go_upto_region 3 with fail
   refine wp_region_held_drew (S:=fun w''=>w''.cell? ⟨w.heap.size,0,none⟩=some (.pointer (some ⟨t,0,none⟩))∧w''.cell? ⟨w.heap.size + 1,0,none⟩=some (.int .i64 k)∧w''.cell? ⟨t,3,none⟩=some (.pointer u)) (by kernel_rfl) (⟨d0,d1,d3⟩) (fun _=>?_)
   refine tkH 0 rfl ?_
   refine tkH 1 rfl ?_
   refine tkH 2 rfl ?_
   refine tuH 3 rfl ?_
   refine tuH 4 rfl ?_
   refine tuH 5 rfl ?_
   refine tuH 6 rfl ?_
   refine tuH 7 rfl ?_
   refine tuH 8 rfl ?_
   refine tuH 9 rfl ?_
   refine tuH 10 rfl ?_
   refine tkH 11 rfl ?_
   refine dnH ?_
   go_wp2_with fail
   refine ⟨.int .i64 (-1),by simp [results,Tryz.results40,go_sem,HR.out.1],?_⟩
   exact ⟨ret_int HA.out.symm,HR.out.2.drew⟩
  ·have hbb:(spn enc (asOf ps)).b < k:=by omega
   go_upto_region 3 with fail
   refine wp_region_held_drew (S:=fun w''=>w''.cell? ⟨w.heap.size,0,none⟩=some (.pointer (some ⟨t,0,none⟩))∧w''.cell? ⟨w.heap.size + 1,0,none⟩=some (.int .i64 k)∧w''.cell? ⟨t,3,none⟩=some (.pointer u)) (by kernel_rfl) (⟨d0,d1,d3⟩) (fun _=>?_)
   refine tkH 0 rfl ?_
   refine tkH 1 rfl ?_
   refine tkH 2 rfl ?_
   refine tkH 3 rfl ?_
   refine tkH 4 rfl ?_
   refine tkH 5 rfl ?_
   refine tkH 6 rfl ?_
   refine tkH 7 rfl ?_
   refine rdH 8 rfl fun K hK=>?_
   go_simp
   refine (SU.out _ (Below.drew (Below.refl _ _))).mono ?_;clear d0 d1 d3;rintro e v1 ⟨⟨sa,ss,sb,sf,sr⟩,hs,rfl,hb⟩;obtain rfl:sb=(spn enc (asOf ps)).b:=hs.out;have HV1:=zh (zxt (Below.drew (Below.refl w0.heap.size w0)) hb);clear hb;obtain ⟨d0,d1,d3⟩:=HC.out v1 HV1.out;try dsimp only
   refine hK.out _ _ ?_ (fun _=>?_)
   ·(try simp only [World.cell?_drew]);exact ⟨d0,d1,d3⟩
   clear hK K
   try simp only [Act.put,tS]
   refine tkH 9 rfl ?_
   refine tkH 10 rfl ?_
   refine tkH 11 rfl ?_
   refine dnH ?_
   clear d4 f4
   obtain ⟨d4,f4⟩:=HFZ.out v1 HV1.out
   have HR:=zh (HRES.out v1 (-1) HV1.out)
   go_wp2_with fail
   refine ⟨.int .i64 (-1),by simp [results,Tryz.results40,go_sem,HR.out.1],?_⟩
   exact ⟨ret_int HA.out.symm,HR.out.2⟩
 ·have hk1:¬ k < 0:=by omega
  have hk2:¬ k=0:=by omega
  have hk3:¬ (spn enc (asOf ps)).b < k:=by omega
  obtain ⟨i,hfi,hil,hib⟩:=find_brk h.pc k hk0 hkb
  have h':Pcs enc L w (ps.take i):=fun q hq=>h.pc q (List.mem_of_mem_take hq)
  have hwt:wt (xsOf ps)≤4611686018427387904:=by have:=h.pc.wt;have:=h.sz;omega
  have hpl:ps.length≤65536:=by have:=h.pc.len;have:=ln_ge enc (asOf ps);have:=h.sz;omega
  have HFIT:=zh h.pc.fit
  obtain ⟨A,hA⟩:∃ A,A=asOf ps:=⟨_,rfl⟩
  have HTK:Hid (∀ j,A.take (asOf (ps.take j)).length=asOf (ps.take j)∧A.drop (asOf (ps.take j)).length=asOf (ps.drop j)):=fun j=>by
   have e:A=asOf (ps.take j) ++ asOf (ps.drop j):=by rw [hA,← asOf_app,List.take_append_drop]
   rw [e]
   exact ⟨List.take_left' rfl,List.drop_left' rfl⟩
  have FD:Hid (∀ w',Below w0.heap.size w0 w'→Calls Tryz.prog 55 #[.agg #[.pointer u],.int .i64 1,.int .i64 k] w' fun e w''=>e=.returned (.int .i64 ((i + 1:Nat):Int))∧Below w'.heap.size w' w''):=fun w' hb=>by rw [← hfi];exact Find_any u (xsOf ps) 1 k w' (htt.ext (zxt HB0.out hb)) hwt
  have HUP:Hid (rA.su ((xsOf ps).take i)=spn enc (A.take (asOf (ps.take i)).length)):=by
   unfold Hid
   rw [show (xsOf ps).take i=xsOf (ps.take i) by simp [xsOf,List.map_take],h'.su,(HTK.out i).1]
  have UP:Hid (∀ w',Below w0.heap.size w0 w'→Calls Tryz.prog 57 #[.agg #[.pointer u],.int .i64 (i:Nat)] w' fun e w''=>∃ s,Hid (s=spn enc (A.take (asOf (ps.take i)).length))∧e=.returned (.agg #[.int .i64 s.a,.int .i64 s.s,.int .i64 s.b,.bool s.lf,.bool s.cr])∧Below w'.heap.size w' w''):=fun w' hb=>by
   have:=Upto_any u (xsOf ps) (i:Nat) w' (htt.ext (zxt HB0.out hb)) hwt (by omega)
   rw [Int.toNat_natCast,HUP.out] at this
   exact this
  obtain ⟨ans,hans⟩:∃ ans,ans=(asOf (ps.take i)).length + skL k (spn enc (A.take (asOf (ps.take i)).length)).b (spn enc (A.take (asOf (ps.take i)).length)).cr (A.drop (asOf (ps.take i)).length):=⟨_,rfl⟩
  have HANS:Hid (skA enc (asOf ps) k=(ans:Nat)):=by
   unfold Hid skA
   rw [if_neg hk2,if_neg (by omega),hans,(HTK.out i).1,(HTK.out i).2]
   conv=>lhs;rw [← List.take_append_drop i ps,asOf_app]
   rw [skL_skip enc k _ _ _ rfl hib]
  have HAN:=zh hans
  have HALN:Hid (A.length=(sh enc ps).length):=by unfold Hid;rw [hA,sh_len]
  obtain ⟨d0,d1,d3⟩:=HC.out w0 (Below.refl _ _)
  have hwi:IntKind.i64.wrap (((i + 1:Nat):Int) - 1)=(i:Nat):=by rw [IntKind.wrap_i64];omega
  have hwi':IntKind.i64.wrap (i:Int)=(i:Int):=by rw [IntKind.wrap_i64];omega
  have HAA:=zh hA
  have HTT:=zh htt
  clear hans hA
  clear h h' htt hfi hib hwt hkb
  refine (callsIn_wide (n:=9)).1 ?_
  refine callsIn_of_wp_marks Tryz.func40 rfl trivial ?_ rfl
  simp only [Tryz.ntmps40,List.size_toArray,List.length_cons,List.length_nil,Nat.reduceAdd,Nat.reduceSub,Array.replicate_succ,Array.replicate_zero,List.push_toArray,List.append_toArray,List.nil_append,List.cons_append]
  refine wpIn_mono (Q:=calm _) ?_ (fun _ _ _ h=>calm_imp h)
  refine wpIn_wide.2 ?_
  go_upto_region 1 with fail
  rw [← hw0]
  clear hw0
  go_upto_region 3 with fail
  refine wp_region_held_drew (S:=fun w''=>w''.cell? ⟨w.heap.size,0,none⟩=some (.pointer (some ⟨t,0,none⟩))∧w''.cell? ⟨w.heap.size + 1,0,none⟩=some (.int .i64 k)∧w''.cell? ⟨t,3,none⟩=some (.pointer u)) (by kernel_rfl) (⟨d0,d1,d3⟩) (fun _=>?_)
  refine tkH 0 rfl ?_
  refine tkH 1 rfl ?_
  refine tkH 2 rfl ?_
  refine tkH 3 rfl ?_
  refine tkH 4 rfl ?_
  refine tkH 5 rfl ?_
  refine tkH 6 rfl ?_
  refine tkH 7 rfl ?_
  refine rdH 8 rfl fun K hK=>?_
  go_simp
  refine (SU.out _ (Below.drew (Below.refl _ _))).mono ?_;clear d0 d1 d3;rintro e v1 ⟨⟨sa,ss,sb,sf,sr⟩,hs,rfl,hb⟩;obtain rfl:sb=(spn enc (asOf ps)).b:=hs.out;have HV1:=zh (zxt (Below.drew (Below.refl w0.heap.size w0)) hb);clear hb;obtain ⟨d0,d1,d3⟩:=HC.out v1 HV1.out;try dsimp only
  refine hK.out _ _ ?_ (fun _=>?_)
  ·(try simp only [World.cell?_drew]);exact ⟨d0,d1,d3⟩
  clear hK K
  try simp only [Act.put,tS]
  refine tkH 9 rfl ?_
  refine tkH 10 rfl ?_
  refine tkH 11 rfl ?_
  refine dnH ?_
  skip
  go_upto_region 5 with fail
  refine wp_region_held_drew (S:=fun w''=>w''.cell? ⟨w.heap.size,0,none⟩=some (.pointer (some ⟨t,0,none⟩))∧w''.cell? ⟨w.heap.size + 1,0,none⟩=some (.int .i64 k)∧w''.cell? ⟨t,3,none⟩=some (.pointer u)) (by kernel_rfl) (⟨d0,d1,d3⟩) (fun _=>?_)
  refine tkH 0 rfl ?_
  refine tkH 1 rfl ?_
  refine tkH 2 rfl ?_
  refine tkH 3 rfl ?_
  refine tkH 4 rfl ?_
  refine rdH 5 rfl fun K hK=>?_
  go_simp
  refine (FD.out _ HV1.out.drew).mono ?_;clear d0 d1 d3;rintro e v2 ⟨rfl,hb⟩;have HV2:=zh (zxt HV1.out.drew hb);clear hb;obtain ⟨d0,d1,d3⟩:=HC.out v2 HV2.out;try dsimp only
  refine hK.out _ _ ?_ (fun _=>?_)
  ·(try simp only [World.cell?_drew]);exact ⟨d0,d1,d3⟩
  clear hK K
  try simp only [Act.put,tS]
  refine tkH 6 rfl ?_
  refine tkH 7 rfl ?_
  refine dnH ?_
  skip
  go_upto_region 7 with (go_at_call 57;refine (UP.out _ HV2.out).mono ?_;clear d0 d1 d3;rintro e v3 ⟨s,hs,rfl,hb⟩;have HS3:=zh hs.out;have HV3:=zh (zxt HV2.out hb);clear hb hs;obtain ⟨d0,d1,d3⟩:=HC.out v3 HV3.out;(try dsimp only))
  obtain ⟨v4,hv4,kb4,hb4⟩:∃ v4,v4=v3.alloc (.cells #[.int .i64 s.a,.int .i64 s.s,.int .i64 s.b,.bool s.lf,.bool s.cr] 109)∧Blk 109 v4 v3.heap.size s∧Below v3.heap.size v3 v4:=⟨_,rfl,heap_alloc_new _ _,zxa (Below.refl _ _) _⟩
  rw [← hv4]
  clear hv4 d0 d1 d3
  have HV4:=zh (zxt HV3.out hb4)
  obtain ⟨d0,d1,d3⟩:=HC.out v4 HV4.out
  have IT:=zh (Items_any u i i v4 (by omega))
  have HKB4:=zh kb4
  have z34:v3.heap.size < v4.heap.size:=kb4.lt
  have z03:w.heap.size + 3≤v3.heap.size:=by have:=HV3.out.size;have:=HZ0.out;omega
  clear kb4 hb4
  go_upto_block 0 with (go_at_call 62;refine IT.out.mono ?_;rintro e v5 ⟨rfl,hv5⟩;have HV5:=zh hv5;clear hv5;(try dsimp only))
  clear d0 d1 d3 IT FD UP SU HUP
  have hs5:v5.heap.size=v4.heap.size + 2:=by rw [HV5.out];simp
  have HB5:Hid (Below v4.heap.size v4 v5):=by unfold Hid;rw [HV5.out];exact zxa (zxa (Below.refl _ _) _) _
  have hA5:v5.heap[v4.heap.size]?=some (.cells #[.pointer u] 106 (0,0)):=by
   rw [HV5.out]
   exact (Below.heap_alloc _ _ _ (by simp)).trans (heap_alloc_new _ _)
  have hB5:v5.heap[v4.heap.size + 1]?=some (.cells #[.int .i64 (i:Nat)] 3 (0,0)):=by
   rw [HV5.out]
   have e:v4.heap.size + 1=(v4.alloc (.cells #[.pointer u] 106)).heap.size:=by simp
   rw [e]
   exact heap_alloc_new _ _
  have HB05:=zh (zxt HV4.out HB5.out)
  have HBw5:=zh (zxt HB0.out HB05.out)
  obtain ⟨u',tr,hu,htin,hlst,_⟩:=HTT.out
  simp only [Value.agg.injEq,Array.mk.injEq,List.cons.injEq,Value.pointer.injEq,and_true] at hu
  subst hu
  have HTI:=zh htin
  have HLS:=zh hlst
  clear htin hlst
  have zw5:=HBw5.out.size
  have SQ:=zh (items_stops 8 tr u i v5 v4.heap.size (v4.heap.size + 1) w.heap.size HBw5.out.size (by omega) (by omega) w rfl HBw5.out HTI.out (by rw [HLS.out,xsOf_len];omega) (by omega) hA5 hB5)
  obtain ⟨hold,hhold⟩:∃ hold:Nat→Prop,hold=fun j=>j < w.heap.size + 1 + 1:=⟨_,rfl⟩
  have HHO:Hid (∀ j,hold j ↔ j < w.heap.size + 1 + 1):=fun j=>by rw [hhold]
  have hhl:∀ j,hold j→j < v5.heap.size:=fun j hj=>by have:=(HHO.out j).1 hj;omega
  clear hhold
  have HI5:Hid (SkI enc A k ans v3.heap.size (w.heap.size + 1 + 1) hold v5 (asOf (ps.take i)).length v5):=by
   refine ⟨by rw [← HS3.out];exact HKB4.out.ext HB5.out,?_,HAN.out,fun _ _=>rfl⟩
   exact (HB05.out.block _ (by have:=HZ0.out;omega)).trans HW0.out.2.2.1
  have hnr:∀ j,skO v3.heap.size (w.heap.size + 1 + 1) () j→w.heap.size + 1 + 1≤j∧j < v4.heap.size:=fun j hj=>by rcases hj with rfl | rfl <;> omega
  have FIN:Hid (∀ W2:World,W2.heap[w.heap.size + 1 + 1]?=some (.cells #[.int .i64 (ans:Nat)] 3 (0,0))→Kps (skO v3.heap.size (w.heap.size + 1 + 1) ()) v5 W2→∀ o:Obj,(W2.putObj v5.heap.size o).cell? ⟨w.heap.size + 1 + 1,0,none⟩=some (.int .i64 (ans:Nat))∧Below w.heap.size w (W2.putObj v5.heap.size o)):=fun W2 h1 h2 o=>by
   refine ⟨?_,?_⟩
   ·rw [cell_of_row _ _ _ _ _ _ ((World.putObj_heap_other (by omega)).trans h1)];rfl
   ·refine HBw5.out.trans (Kps.below (o:=fun k=>w.heap.size≤k) ?_ HBw5.out.size (fun k hk=>hk))
    refine Kps.trans (h2.mono fun i _ hi=>?_) (Kps.put (o:=fun k=>w.heap.size≤k) _ HBw5.out.size) (fun _ _ e=>e)
    rcases hi with rfl | rfl <;> omega
  clear HKB4 HV5 hA5 hB5
  refine (wpIn_wide (n:=9)).1 ?_
  gi_wp2_with fail
  refine range_x (σ:=Unit) rfl (by omega) (gf:=81) (lb:=#[.pointer (some ⟨v4.heap.size,0,none⟩),.pointer (some ⟨v4.heap.size + 1,0,none⟩)]) rfl trivial (enters_of Tryz.func81 (by kernel_rfl) rfl) SQ.out (Kps.refl _ _) (fun _=>rfl)
   (skO v3.heap.size (w.heap.size + 1 + 1)) (fun _ pre V1=>pre=xsOf ((ps.drop i).take pre.length)∧i + pre.length≤ps.length∧SkI enc A k ans v3.heap.size (w.heap.size + 1 + 1) hold v5 (asOf (ps.take (i + pre.length))).length V1) (fun c _ _ V1=>c=.ret∧V1.heap[w.heap.size + 1 + 1]?=some (.cells #[.int .i64 (ans:Nat)] 3 (0,0))) () ?rel hold ?hln (fun _ _ _ _ h _ hk=>⟨h.1,h.2.1,h.2.2.same hk⟩) (fun _ _ _ _ _ h _ hk=>⟨h.1,(hk _ (.inl (.inr rfl))).trans h.2⟩) (fun _ _ _ h=>h.2.2.lives) ?h0
   (fun x a' V1=>∃ g5,v5.heap.size + 2≤g5∧BlkI V1 g5 x∧a'={ tmps:=#[.pointer (some ⟨t,0,none⟩),.int .i64 k,.pointer (some ⟨w.heap.size,0,none⟩),.pointer (some ⟨w.heap.size + 1,0,none⟩),.pointer (some ⟨w.heap.size + 1 + 1,0,none⟩),.int .i64 i,.pointer (some ⟨v3.heap.size,0,none⟩),.pointer (some ⟨g5,0,none⟩),undef,undef,undef,undef,.int .i64 k,.bool false,.int .i64 k,.bool false,.bool false,.int .i64 k,.pointer (some ⟨t,0,none⟩),.pointer (some ⟨t,0,none⟩),.pointer (some ⟨t,3,none⟩),.agg #[.pointer u],.agg #[.int .i64 sa,.int .i64 ss,.int .i64 (spn enc (asOf ps)).b,.bool sf,.bool sr],.int .i64 (spn enc (asOf ps)).b,.bool false,.bool false,.pointer (some ⟨t,0,none⟩),.pointer (some ⟨t,0,none⟩),.pointer (some ⟨t,3,none⟩),.agg #[.pointer u],.int .i64 k,.int .i64 (i + 1),.int .i64 i,.pointer (some ⟨t,0,none⟩),.pointer (some ⟨t,0,none⟩),.pointer (some ⟨t,3,none⟩),.agg #[.pointer u],.int .i64 i,.agg #[.int .i64 s.a,.int .i64 s.s,.int .i64 s.b,.bool s.lf,.bool s.cr],.pointer (some ⟨t,0,none⟩),.pointer (some ⟨t,0,none⟩),.pointer (some ⟨t,3,none⟩),.agg #[.pointer u],.int .i64 i,.func (.func 81) #[] #[.pointer (some ⟨v4.heap.size,0,none⟩),.pointer (some ⟨v4.heap.size + 1,0,none⟩)],.agg #[.slice x.p x.n x.c,.int .i64 x.pl,.int .i64 x.sp.a,.int .i64 x.sp.s,.int .i64 x.sp.b,.bool x.sp.lf,.bool x.sp.cr],undef,undef,undef,undef,undef,undef,undef,undef,undef,undef,undef,undef,undef,undef,undef,undef,undef,undef,undef,undef,undef,undef,undef,undef,undef,undef,undef,undef,undef,undef,undef,undef,undef,undef,undef,undef,undef,undef,undef],defers:=[] }) ?hAx ?assign ?body ?done ?stop
  case rel =>
   intro j hj
   rcases hj with hj | rfl | rfl
   ·exact ⟨by omega,fun h=>by have:=hnr j h;omega⟩
   ·exact ⟨by omega,fun h=>by have:=hnr _ h;omega⟩
   ·exact ⟨by omega,fun h=>by have:=hnr _ h;omega⟩
  case hln=>exact hhl
  case h0=>exact ⟨by simp [xsOf],by simp;omega,by simpa using HI5.out⟩
  case hAx =>
   rintro x a' V1 V2 ⟨g5,h1,h2,h4⟩ hz hk
   exact ⟨g5,h1,h2.same9 (hk g5 h1 h2.lt),h4⟩
  case assign =>
   intro l' x V1 K hz hK
   gi_wp2_with fail
   exact hK _ _ (zxa (Below.refl _ _) _) ⟨V1.heap.size,hz,heap_alloc_new _ _,rfl⟩
  case body =>
   rintro l' ⟨⟩ pre x a' V1 ⟨hpr,hple,hI⟩ ⟨g5,hg5,hx5,rfl⟩ hSp hzW
   refine wpIn_block ?_
   obtain ⟨z,hz⟩:=hSp
   rw [HLS.out] at hz
   obtain ⟨k0,hk0⟩:∃ k0,k0=i + pre.length:=⟨_,rfl⟩
   have hxj:∃ gx,ps[k0]?=some (x,gx):=by
    have e:=congrArg (fun q=>q[pre.length]?) hz
    rw [List.append_assoc,List.getElem?_append_right (Nat.le_refl _),Nat.sub_self] at e
    simp only [List.cons_append,List.getElem?_cons_zero,xsOf,List.getElem?_drop,List.getElem?_map] at e
    rw [← hk0] at e
    cases hp:ps[k0]? with
    | none=>rw [hp] at e;cases e
    | some q=>rw [hp] at e;simp only [Option.map_some,Option.some.injEq] at e;exact ⟨q.2,by rw [e]⟩
   obtain ⟨gx,hgx⟩:=hxj
   obtain ⟨pos,hpos⟩:∃ pos,pos=(asOf (ps.take k0)).length:=⟨_,rfl⟩
   have hAe:A=asOf (ps.take k0) ++ (gx ++ asOf (ps.drop (k0 + 1))):=by
    rw [HAA.out]
    conv=>lhs;rw [← List.take_append_drop k0 ps,drop_of hgx]
    rw [asOf_app];simp [asOf]
   have HAG:Hid (∀ m,m < gx.length→A[pos + m]?=gx[m]?):=fun m hm=>by
    rw [hAe,hpos,List.getElem?_append_right (by omega),Nat.add_sub_cancel_left,List.getElem?_append_left hm]
   have HPN:Hid ((asOf (ps.take (k0 + 1))).length=pos + gx.length):=by
    unfold Hid
    rw [List.take_add_one,hgx,Option.toList_some,asOf_app,List.length_append,← hpos];simp [asOf]
   have hpA:pos + gx.length≤65536:=by
    have e:=congrArg List.length hAe
    rw [List.length_append,List.length_append,← hpos,HALN.out] at e
    omega
   have hgl:ln enc gx≤65536:=by
    have h1:=HT.out.sz
    rw [← HAA.out,hAe,ln_app,ln_app] at h1
    omega
   have HLA:Hid (ln enc A≤65536):=by unfold Hid;rw [HAA.out];have:=HT.out.sz;omega
   have HFA:Hid (∀ a ∈ A,Cx.fits enc a=true):=by unfold Hid;rw [HAA.out];exact HFIT.out
   have hhV:∀ j,hold j→j < V1.heap.size:=fun j hj=>by have:=hhl j hj;omega
   have HHV:=zh hhV
   have HPC:Hid (∀ Wx:World,(∀ j,hold j→Wx.heap[j]?=v5.heap[j]?)→Pc enc L Wx x gx):=fun Wx h=>(HT.out.pc (x,gx) (List.mem_of_getElem? hgx)).same (fun b hb=>(h b ((HHO.out b).2 (by have:=hb.lt;omega))).trans (HBw5.out.block b hb.lt))
   have HCH:Hid (∀ Wx:World,(∀ j,hold j→Wx.heap[j]?=v5.heap[j]?)→Wx.cell? ⟨w.heap.size,0,none⟩=some (.pointer (some ⟨t,0,none⟩))∧Wx.cell? ⟨t,0,none⟩=some (.int .i64 enc)∧Wx.cell? ⟨w.heap.size + 1,0,none⟩=some (.int .i64 k)):=fun Wx h=>by
    obtain ⟨c0,c1,_⟩:=HC.out v5 HB05.out
    refine ⟨?_,?_,?_⟩
    ·rw [cell_same (h w.heap.size ((HHO.out _).2 (by omega)))];exact c0
    ·obtain ⟨_,_,⟨e0,_⟩,_,_,htl9⟩:=HT.out.cells
     rw [cell_same (h t ((HHO.out t).2 (by omega)))]
     exact (HBw5.out.cell (p:=⟨t,0,none⟩) htl9).trans e0
    ·rw [cell_same (h (w.heap.size + 1) ((HHO.out _).2 (by omega)))];exact c1
   have HL0:Hid (SkB enc A k ans v3.heap.size (w.heap.size + 1 + 1) hold v5 V1 g5 x (pos + 0) V1):=⟨by rw [Nat.add_zero,hpos,hk0];exact hI,hx5,Kps.refl _ _⟩
   have HDD:Hid (v3.heap.size≠w.heap.size + 1 + 1∧¬ hold v3.heap.size∧v3.heap.size≠g5):=⟨by omega,fun h=>by have:=(HHO.out _).1 h;omega,by omega⟩
   have HNX:Hid (pre ++ [x]=xsOf ((ps.drop i).take (pre ++ [x]).length)∧i + (pre ++ [x]).length=k0 + 1∧k0 + 1≤ps.length):=by
    have e1:(pre ++ [x]).length=pre.length + 1:=by simp
    refine ⟨?_,by rw [e1];omega,by have:=(List.getElem?_eq_some_iff.1 hgx).1;omega⟩
    rw [e1,List.take_add_one,List.getElem?_drop,← hk0,hgx,Option.toList_some,xsOf_app,← hpr]
    rfl
   have HGX:=zh hgx
   have hgx2:gx.length≤ln enc gx:=ln_ge enc gx
   obtain ⟨N,hN⟩:∃ N,N=ln enc gx:=⟨_,rfl⟩
   have HN:=zh hN
   have hNl:N≤65536:=by rw [hN];exact hgl
   have HNG:Hid (gx.length≤N):=by unfold Hid;rw [hN];exact hgx2
   clear hN hgx2 hAe hI hpr hple hgx hpos hk0 hz hhV hgl
   gi_wp2_with fail
   gi_loopw [8] (fun v wr=>∃ m:Nat,v=.int .i64 (ln enc (gx.take m):Nat)∧m≤gx.length∧Hid (SkB enc A k ans v3.heap.size (w.heap.size + 1 + 1) hold v5 V1 g5 x (pos + m) wr)) (fun v _=>btMu N v)
   case atStart=>exact ⟨0,rfl,Nat.zero_le _,HL0.out⟩
   case round =>
    obtain ⟨m,rfl,hm,HL⟩:=hrel
    have cx:=HL.out.bx.cells.1
    have xnc:x.n=N∧x.c=N:=by have h:=HPC.out wr HL.out.i.hd;exact ⟨h.xn.trans HN.out.symm,h.xc.trans HN.out.symm⟩
    rw [xnc.1,xnc.2] at cx
    obtain ⟨q1,q2,q3⟩:=HCH.out wr HL.out.i.hd
    obtain ⟨off,hoff⟩:∃ o,o=ln enc (gx.take m):=⟨_,rfl⟩
    rw [← hoff]
    by_cases hmg:m < gx.length
    ·obtain ⟨a,ha⟩:∃ a,gx[m]?=some a:=⟨_,List.getElem?_eq_getElem hmg⟩
     have hst:off < N:=by
      have e:=ln_take_drop enc gx m
      rw [drop_of ha,ln_cons,← hoff,← HN.out] at e
      have:=(Cx.put_len enc a).1
      omega
     have hlt:(off:Int) < (N:Int):=by omega
     obtain ⟨sz,hsz⟩:∃ sz,sz=ln enc [a]:=⟨_,rfl⟩
     have hnx:ln enc (gx.take (m + 1))=off + sz:=by rw [List.take_add_one,ha,Option.toList_some,ln_app,← hoff,hsz]
     have hsz1:1≤sz∧sz≤4:=by rw [hsz,ln_one];exact Cx.put_len enc a
     have HAA1:Hid (A[pos + m]?=some a):=(HAG.out m hmg).trans ha
     have HSZ:Hid ((sz:Int)=Cx.size enc a):=by
      unfold Hid
      rw [hsz,ln_one]
      unfold Cx.size
      rw [if_pos (HFA.out a (List.mem_of_getElem? HAA1.out))]
     have NX:Hid (∀ Wx,Below wr.heap.size wr Wx→Calls Tryz.prog 64 #[.int .i64 enc,.slice x.p N N,.int .i64 off] Wx fun e w'=>e=.returned (.tuple #[.int .i64 a,.int .i64 sz])∧Below Wx.heap.size Wx w'):=fun Wx hb=>by
      have hp:=(HPC.out wr HL.out.i.hd).ext hb
      have hrd:=hp.rd (by rw [← HN.out];omega)
      rw [xnc.1,xnc.2] at hrd
      have hzl:(Cx.encB enc gx).length=N:=HN.out.symm
      have h:=Next_any enc HT.out.en (.slice x.p N N) (Cx.encB enc gx) off Wx hrd hp.gr.byt (by rw [hzl];exact hst)
      obtain ⟨_,a',s',e1,e2,e3,_⟩:=off_step enc HT.out.en (Cx.encB enc gx) hp.gr.byt m (by rw [hp.gr.dec];exact hmg)
      rw [off_gr hp.gr,← hoff] at e1
      rw [off_gr hp.gr,off_gr hp.gr,hnx,← hoff] at e3
      rw [hp.gr.dec,ha] at e2
      cases e2
      rw [e1] at h
      obtain rfl:s'=sz:=by omega
      exact h
     have HNXT:=zh hnx
     have hwo:IntKind.i64.wrap ((off:Int) + (sz:Int))=((off + sz:Nat):Int):=by
      have e:=ln_take_drop enc gx (m + 1)
      rw [hnx,← HN.out] at e
      rw [IntKind.wrap_i64]
      omega
     clear hnx ha hoff hsz
     gi_wp2_with fail
     refine wpIn_heldC (S:=fun w''=>w''.cell? ⟨g5,0,none⟩=some (.slice x.p N N)∧w''.cell? ⟨w.heap.size,0,none⟩=some (.pointer (some ⟨t,0,none⟩))∧w''.cell? ⟨t,0,none⟩=some (.int .i64 enc)) ?nd (fun ⟨a,w,h⟩=>h) (by kernel_rfl) (by simp only [World.cell?_drew];exact ⟨cx.1,q1,q2⟩) (fun _=>?_)
     case nd =>
      intro i o h
      rcases i with _ | _ | _ | _ | _ | _ | _ | _ | _ | _ | _ | _ | _ | i
      all_goals first | (obtain rfl:=Option.some.inj h;intro c hc;cases hc) | (simp at h)
     refine tkH 0 rfl ?_
     refine tkH 1 rfl ?_
     refine tkH 2 rfl ?_
     refine tkH 3 rfl ?_
     refine tkH 4 rfl ?_
     refine tkH 5 rfl ?_
     refine tkH 6 rfl ?_
     refine rdH 7 rfl fun K hK=>?_
     go_simp
     refine (NX.out _ (Below.drew (Below.refl _ _))).mono ?_;clear q1 q2 q3 cx;rintro e V3 ⟨rfl,hb⟩;have HL3:=zh (HL.out.ext (zxt (Below.drew (Below.refl wr.heap.size wr)) hb) HHV.out);clear hb;obtain ⟨q1,q2,q3⟩:=HCH.out V3 HL3.out.i.hd;have cx:=HL3.out.bx.cells.1;rw [xnc.1,xnc.2] at cx;try dsimp only
     refine hK.out _ _ ?_ (fun _=>?_)
     ·(try simp only [World.cell?_drew]);exact ⟨cx.1,q1,q2⟩
     clear hK K
     try simp only [Act.put,tS]
     refine tkH 8 rfl ?_
     refine tkH 9 rfl ?_
     refine tkH 10 rfl ?_
     refine tkH 11 rfl ?_
     refine tkH 12 rfl ?_
     refine dnH ?_
     skip
     clear q1 q2 q3 cx
     have SGL:Hid (∀ w',Calls Tryz.prog 66 #[.int .i64 a,.int .i64 sz] w' fun e w''=>∃ q:Rs,Hid (q=sg a sz)∧e=.returned (.agg #[.int .i64 q.a,.int .i64 q.s,.int .i64 q.b,.bool q.lf,.bool q.cr])∧Below w'.heap.size w' w''):=fun w'=>(single_any a sz w').mono fun e w'' h=>⟨_,rfl,h.1,h.2⟩
     gi_upto_region 13 with (refine ⟨trivial,?_⟩;gi_at_call 66;refine (callsIn_wide (n:=6)).2 ((SGL.out _).mono ?_);rintro e V4 ⟨q,hq,rfl,hb⟩;have HQ:=zh hq.out;have HL4:=zh (HL3.out.ext hb HHV.out);clear hb hq;(try dsimp only))
     obtain ⟨V5,hV5,kb5,hb5⟩:∃ V5,V5=V4.alloc (.cells #[.int .i64 q.a,.int .i64 q.s,.int .i64 q.b,.bool q.lf,.bool q.cr] 109)∧Blk 109 V5 V4.heap.size q∧Below V4.heap.size V4 V5:=⟨_,rfl,heap_alloc_new _ _,zxa (Below.refl _ _) _⟩
     rw [← hV5]
     clear hV5
     have HL5:=zh (HL4.out.ext hb5 HHV.out)
     have HKB5:=zh kb5
     clear kb5 hb5
     obtain ⟨s1,hs1⟩:∃ s1,s1=spn enc (A.take (pos + m)):=⟨_,rfl⟩
     have HS1:=zh hs1
     clear hs1
     have HCS:Hid (∀ W',Below V5.heap.size V5 W'→(W'.cell? ⟨v3.heap.size,0,none⟩=some (.int .i64 s1.a)∧W'.cell? ⟨v3.heap.size,1,none⟩=some (.int .i64 s1.s)∧W'.cell? ⟨v3.heap.size,2,none⟩=some (.int .i64 s1.b)∧W'.cell? ⟨v3.heap.size,3,none⟩=some (.bool s1.lf)∧W'.cell? ⟨v3.heap.size,4,none⟩=some (.bool s1.cr))∧(W'.cell? ⟨V4.heap.size,0,none⟩=some (.int .i64 q.a)∧W'.cell? ⟨V4.heap.size,1,none⟩=some (.int .i64 q.s)∧W'.cell? ⟨V4.heap.size,2,none⟩=some (.int .i64 q.b)∧W'.cell? ⟨V4.heap.size,3,none⟩=some (.bool q.lf)∧W'.cell? ⟨V4.heap.size,4,none⟩=some (.bool q.cr))∧(∀ i,W'.frozen? ⟨v3.heap.size,i,none⟩=false)∧W'.cell? ⟨w.heap.size + 1 + 1,0,none⟩=some (.int .i64 0)∧(∀ i,W'.frozen? ⟨w.heap.size + 1 + 1,i,none⟩=false)∧W'.cell? ⟨w.heap.size + 1,0,none⟩=some (.int .i64 k)∧Blk 109 W' v3.heap.size s1):=fun W' hb=>by
      have h6:=HL5.out.ext hb HHV.out
      have b1:=h6.i.sb
      rw [← HS1.out] at b1
      have e:=h6.i.cb
      exact ⟨b1.cells.1,(HKB5.out.ext hb).cells.1,b1.cells.2.2.2.2,by rw [cell_of_row W' _ _ _ _ _ e];rfl,fun i=>by simp [World.frozen?,e],(HCH.out W' h6.i.hd).2.2,b1⟩
     have HSA:Hid (s1.a=(pos + m:Nat)∧0≤s1.s∧s1.s≤65536∧0≤s1.b∧s1.b≤65536∧Rs.Ok s1):=by
      have hl9:(A.take (pos + m)).length=pos + m:=by rw [List.length_take];have:=(List.getElem?_eq_some_iff.1 HAA1.out).1;omega
      have a1:=spn_a enc (A.take (pos + m)) (fun a ha=>HFA.out a (List.mem_of_mem_take ha))
      have b1:=spn_b enc (A.take (pos + m))
      have l5:=ln_app enc (A.take (pos + m)) (A.drop (pos + m))
      rw [List.take_append_drop] at l5
      have l6:=HLA.out
      have ok:=spn_ok enc (A.take (pos + m))
      rw [← HS1.out] at a1 b1 ok
      have o1:=ok.s0
      have o2:=ok.b0
      rw [hl9] at a1 b1
      exact ⟨a1.1,o1,by rw [a1.2];omega,o2,by omega,ok⟩
     have HQA:Hid (q.a=1∧q.s=sz∧0≤q.b∧q.b≤1∧q.lf=decide (a=10)∧Rs.Ok q):=by
      have ok:=sg_ok a (sz:Int) (by omega)
      rw [← HQ.out] at ok
      refine ⟨by rw [HQ.out];rfl,by rw [HQ.out];rfl,ok.b0,?_,by rw [HQ.out];rfl,ok⟩
      rw [HQ.out];unfold sg;simp only;split <;> omega
     have ADD:Hid (∀ w',Calls Tryz.prog 59 #[.agg #[.int .i64 s1.a,.int .i64 s1.s,.int .i64 s1.b,.bool s1.lf,.bool s1.cr],.agg #[.int .i64 q.a,.int .i64 q.s,.int .i64 q.b,.bool q.lf,.bool q.cr]] w' fun e w''=>∃ z,Hid (z=Rs.add s1 q)∧e=.returned (.agg #[.int .i64 z.a,.int .i64 z.s,.int .i64 z.b,.bool z.lf,.bool z.cr])∧Below w'.heap.size w' w''):=fun w'=>by
      obtain ⟨e1,e2,e3,e4,e5,e6⟩:=HSA.out
      obtain ⟨g1,g2,g3,g4,_,g6⟩:=HQA.out
      exact Add_any s1 q w' e6.a0 g6.a0 e6.s0 g6.s0 e6.b0 g6.b0 (by omega) (by omega) (by omega)
     obtain ⟨d5,dq,f5,d4,f4,ck,_⟩:=HCS.out V5 (Below.refl _ _)
     clear SGL NX
     by_cases hbk:s1.b=k
     ·have hbb:(s1.b == k)=true:=by simpa using hbk
      have HBK:=zh hbk
      clear hbk
      obtain ⟨mb,hmb⟩:∃ mb,mb=(s1.cr && q.lf):=⟨_,rfl⟩
      have MT:Hid (∀ w',Calls Tryz.prog 60 #[.agg #[.int .i64 s1.a,.int .i64 s1.s,.int .i64 s1.b,.bool s1.lf,.bool s1.cr],.agg #[.int .i64 q.a,.int .i64 q.s,.int .i64 q.b,.bool q.lf,.bool q.cr]] w' fun e w''=>e=.returned (.bool mb)∧Below w'.heap.size w' w''):=fun w'=>by rw [hmb];exact melt_any s1 q w'
      have HANS2:Hid ((ans:Int)=s1.a + (if mb=true then 1 else 0)):=by
       have h1:=HL5.out.i.an
       rw [← HS1.out,drop_of HAA1.out,skL,if_pos HBK.out] at h1
       rw [hmb,HQA.out.2.2.2.2.1]
       unfold Hid
       rw [h1,HSA.out.1]
       cases s1.cr <;> by_cases h10:a=10 <;> simp [h10]
      clear hmb
      cases mb with
      | false =>
        clear ADD
        gi_wp2_with (refine ⟨trivial,?_⟩;gi_at_call 60;refine (callsIn_wide (n:=6)).2 ((MT.out _).mono ?_);clear d5 dq f5 d4 f4 ck;rintro e V6 ⟨rfl,hb⟩;have HL6:=zh (HL5.out.ext hb HHV.out);obtain ⟨d5,dq,f5,d4,f4,ck,_⟩:=HCS.out V6 hb;clear hb;(try dsimp only))
        have p9:=SkB.fin HL6.out.kp HL6.out.i.cb s1.a rfl
        have e9:=HANS2.out
        simp only [Bool.false_eq_true,if_false,Int.add_zero] at e9
        refine ⟨(),⟨rfl,?_⟩,p9.2,fun k h=>.inl h⟩
        rw [e9]
        exact p9.1
      | true =>
        gi_upto_region 16 with (refine ⟨trivial,?_⟩;first
         | (gi_at_call 60;refine (callsIn_wide (n:=6)).2 ((MT.out _).mono ?_);clear d5 dq f5 d4 f4 ck;rintro e V6 ⟨rfl,hb⟩;have HBV6:=zh hb;obtain ⟨d5,dq,f5,d4,f4,ck,_⟩:=HCS.out V6 hb;clear hb;(try dsimp only))
         | (gi_at_call 59;refine (callsIn_wide (n:=6)).2 ((ADD.out _).mono ?_);clear d5 dq f5 d4 f4 ck;rintro e V7 ⟨z,hz,rfl,hb⟩;have HZZ:=zh hz.out;have HBV7:=zh (zxt HBV6.out hb);obtain ⟨d5,dq,f5,d4,f4,ck,_⟩:=HCS.out V7 HBV7.out;clear hb hz;(try dsimp only)))
        generalize hwN:World.setCell _ _ _=X3
        have hp:Blk 109 X3 v3.heap.size z∧V7.grownBy X3 (some v3.heap.size):=by rw [← hwN];exact (HCS.out V7 HBV7.out).2.2.2.2.2.2.put z
        have HL7:=zh (HL5.out.ext HBV7.out HHV.out)
        have HP3:=zh hp
        clear hp hwN d5 dq f5 d4 f4 ck
        have HKX:Hid (Kps (skO v3.heap.size (w.heap.size + 1 + 1) ()) V1 X3∧X3.heap[w.heap.size + 1 + 1]?=some (.cells #[.int .i64 0] 3 (0,0))):=⟨HL7.out.kp.trans (Kps.grown HP3.out.2 (fun j e _=>.inl (Option.some.inj e).symm)) (fun _ _ e=>e),(HP3.out.2.block _ (Array.getElem?_eq_some_iff.1 HL7.out.i.cb).1 (fun e=>HDD.out.1 (Option.some.inj e).symm)).trans HL7.out.i.cb⟩
        have d5:=HP3.out.1.cells.1
        have d4:X3.cell? ⟨w.heap.size + 1 + 1,0,none⟩=some (.int .i64 0):=by rw [cell_of_row X3 _ _ _ _ _ HKX.out.2];rfl
        have f4:∀ i,X3.frozen? ⟨w.heap.size + 1 + 1,i,none⟩=false:=fun i=>by simp [World.frozen?,HKX.out.2]
        have e9:(ans:Int)=z.a:=by
         have e8:=HANS2.out
         simp only [if_true] at e8
         rw [HZZ.out,(add_as s1 q HSA.out.2.2.2.2.2 HQA.out.2.2.2.2.2).1,HQA.out.1]
         exact e8
        have HE9:=zh e9
        clear e9
        gi_wp2_with fail
        have p9:=SkB.fin HKX.out.1 HKX.out.2 z.a rfl
        refine ⟨(),⟨rfl,?_⟩,p9.2,fun k h=>.inl h⟩
        rw [HE9.out]
        exact p9.1
     ·have hbb:(s1.b == k)=false:=by simpa using hbk
      have HBK:=zh hbk
      clear hbk
      gi_upto_region 18 with (refine ⟨trivial,?_⟩;gi_at_call 59;refine (callsIn_wide (n:=6)).2 ((ADD.out _).mono ?_);clear d5 dq f5 d4 f4 ck;rintro e V7 ⟨z,hz,rfl,hb⟩;have HZZ:=zh hz.out;have HBV7:=zh hb;obtain ⟨d5,dq,f5,d4,f4,ck,_⟩:=HCS.out V7 HBV7.out;clear hb hz;(try dsimp only))
      generalize hwN:World.setCell _ _ _=X3
      have hp:Blk 109 X3 v3.heap.size z∧V7.grownBy X3 (some v3.heap.size):=by rw [← hwN];exact (HCS.out V7 HBV7.out).2.2.2.2.2.2.put z
      have HL7:=zh (HL5.out.ext HBV7.out HHV.out)
      have HP3:=zh hp
      clear hp hwN d5 dq f5 d4 f4 ck
      have HL8:=zh (HL7.out.step HAA1.out (by rw [← HS1.out];exact HBK.out) z (by rw [HZZ.out,HQ.out,HSZ.out,HS1.out]) HP3.out.1 HP3.out.2 HDD.out HHV.out)
      gi_wp2_with fail
      go_roundw
      ·rw [xnc.1,xnc.2]
       (repeat apply Exists.intro)
       refine ⟨?rl,rfl⟩
       case rl=>exact ⟨m + 1,by rw [HNXT.out];go_num,hmg,HL8.out⟩
      ·change btMu N (.int .i64 ((off:Int) + (sz:Int))) < btMu N (.int .i64 (off:Int))
       simp only [btMu]
       omega
    ·obtain rfl:m=gx.length:=by omega
     have hlt:¬ (off:Int) < (N:Int):=by rw [hoff,List.take_length,← HN.out];omega
     clear hoff
     have HBI:Hid (pre ++ [x]=xsOf ((ps.drop i).take (pre ++ [x]).length)∧i + (pre ++ [x]).length≤ps.length∧SkI enc A k ans v3.heap.size (w.heap.size + 1 + 1) hold v5 (asOf (ps.take (i + (pre ++ [x]).length))).length wr):=by
      refine ⟨HNX.out.1,by rw [HNX.out.2.1];exact HNX.out.2.2,?_⟩
      rw [HNX.out.2.1,HPN.out]
      exact HL.out.i
     gi_wp2_with fail
     exact ⟨(),HBI.out,HL.out.kp,fun k h=>.inl h⟩
  case done =>
   intro s' xs W' hk hnw hS hI hdf hno
   have hxl:xs.length=ps.length - i:=by rw [hS,HLS.out,List.length_drop,xsOf_len]
   have hI2:=hI.2.2
   rw [hxl,Nat.add_sub_cancel' (Nat.le_of_lt hil),List.take_length,← HAA.out] at hI2
   have hA2:ans=A.length:=by
    have h1:=hI2.an
    rw [List.drop_length] at h1
    exact h1
   have h3:=hI2.sb
   rw [List.take_length] at h3
   have hsa:(spn enc A).a=(ans:Nat):=by rw [hA2];exact (spn_a enc A (by rw [HAA.out];exact HFIT.out)).1
   generalize spn enc A=s9 at h3 hsa
   obtain ⟨c9,_⟩:=h3.cells
   rw [hsa] at c9
   have d4:W'.cell? ⟨w.heap.size + 1 + 1,0,none⟩=some (.int .i64 0):=by rw [cell_of_row W' _ _ _ _ _ hI2.cb];rfl
   have f4:∀ i,W'.frozen? ⟨w.heap.size + 1 + 1,i,none⟩=false:=fun i=>by simp [World.frozen?,hI2.cb]
   obtain ⟨W2,hW2⟩:∃ W2,W2=W'.setCell ⟨w.heap.size + 1 + 1,0,none⟩ (.int .i64 (ans:Nat)):=⟨_,rfl⟩
   have P9:=zh (SkB.fin hk hI2.cb (ans:Nat) hW2)
   have HDF:Hid (W2.heap[v5.heap.size]?=some (.deferred (some []))):=by
    obtain ⟨p1,p2⟩:=set1 hI2.cb 0 (.int .i64 (ans:Nat))
    rw [← hW2] at p2
    exact (p2.block _ (Array.getElem?_eq_some_iff.1 hdf).1 (fun e=>by have:=Option.some.inj e;omega)).trans hdf
   have HEND:=FIN.out W2 P9.out.1 P9.out.2
   clear hA2 hk hI hI2 hnw hno hsa hdf
   gi_wp2
   go_wp2_with fail
   rw [← hW2]
   refine ⟨by simp,.inl ⟨_,_,rfl,run_takeDeferred HDF.out,?_⟩⟩
   have g1:=fun o=>(HEND o).1
   refine ⟨.int .i64 (ans:Nat),by simp [results,Tryz.results40,go_sem,g1],?_⟩
   exact ⟨ret_int HANS.out.symm,(HEND _).2⟩
  case stop =>
   rintro c s' pre W' hk hnw hSp ⟨rfl,hX⟩ hdf hno
   have HEND:=FIN.out W' hX hk
   clear hnw hno hX hSp
   refine wpIn_ret ?_
   refine ⟨by simp,.inl ⟨_,_,rfl,run_takeDeferred hdf,?_⟩⟩
   have g1:=fun o=>(HEND o).1
   refine ⟨.int .i64 (ans:Nat),by simp [results,Tryz.results40,go_sem,g1],?_⟩
   exact ⟨ret_int HANS.out.symm,(HEND _).2⟩
end Go.Proofs.YtgfdfajblidleaaGreat.P
