import Derived.Test.YtdhciadajendnaaGreatK03
set_option maxRecDepth 100000
namespace Go.Proofs.YtdhciadajendnaaGreat.P
open Go.RowKit
theorem Tin.put {w w':World} {A:Nat} {cs:Array Value} {T:TypeId} {fr:Nat × Nat} (hA:w.heap[A]?=some (.cells cs T fr)) (hT:T≠163) (hb:w.grownBy w' (some A)):∀ {t:Tr It} {u:Option Addr},Tin w t u→Tin w' t u
 | ⟨none⟩,_,h=>h
 | ⟨some (l,x,r)⟩,_,⟨g,lv,rv,hu,hg,hl,hr⟩=>⟨g,lv,rv,hu,by
   rw [hb.block g (Array.getElem?_eq_some_iff.1 hg).1 (by rintro e;cases e;rw [hA] at hg;simp at hg;exact hT hg.2.1)]
   exact hg,Tin.put hA hT hb hl,Tin.put hA hT hb hr⟩
def BlkI (w:World) (g:Nat) (x:It):Prop:=w.heap[g]?=some (.cells #[.slice x.p x.n x.c,.int .i64 x.pl,.int .i64 x.sp.a,.int .i64 x.sp.s,.int .i64 x.sp.b,.bool x.sp.lf,.bool x.sp.cr] 97 (0,0))
theorem BlkI.lt {w:World} {g:Nat} {x:It} (h:BlkI w g x):g < w.heap.size:=(Array.getElem?_eq_some_iff.1 h).1
theorem BlkI.ext {w w':World} {g:Nat} {x:It} (h:BlkI w g x) (hb:Below w.heap.size w w'):BlkI w' g x:=by unfold BlkI;rw [hb.block g h.lt];exact h
theorem BlkI.cells {w:World} {g:Nat} {x:It} (h:BlkI w g x):(w.cell? ⟨g,0,none⟩=some (.slice x.p x.n x.c)∧w.cell? ⟨g,1,none⟩=some (.int .i64 x.pl)∧w.cell? ⟨g,2,none⟩=some (.int .i64 x.sp.a)∧w.cell? ⟨g,3,none⟩=some (.int .i64 x.sp.s)∧w.cell? ⟨g,4,none⟩=some (.int .i64 x.sp.b)∧w.cell? ⟨g,5,none⟩=some (.bool x.sp.lf)∧w.cell? ⟨g,6,none⟩=some (.bool x.sp.cr))∧True∧(∀ i,w.frozen? ⟨g,i,none⟩=false):=by
 refine ⟨?_,?_,?_⟩
 ·first | trivial | (refine ⟨?_,?_,?_,?_,?_,?_,?_⟩ <;> (rw [cell_of_row w g _ _ _ _ h];rfl)) | (refine ⟨?_,?_,?_,?_,?_⟩ <;> (rw [cell_of_row w g _ _ _ _ h];rfl)) | (rw [cell_of_row w g _ _ _ _ h];rfl)
 ·first | trivial | (refine ⟨?_,?_,?_,?_,?_,?_,?_⟩ <;> (rw [cell_of_row w g _ _ _ _ h];rfl)) | (refine ⟨?_,?_,?_,?_,?_⟩ <;> (rw [cell_of_row w g _ _ _ _ h];rfl)) | (rw [cell_of_row w g _ _ _ _ h];rfl)
 ·intro i;unfold BlkI at h;simp [World.frozen?,h]
theorem BlkI.put {w:World} {g:Nat} {x:It} (h:BlkI w g x) (q:It):BlkI (((((((w.setCell ⟨g,0,none⟩ (.slice q.p q.n q.c)).setCell ⟨g,1,none⟩ (.int .i64 q.pl)).setCell ⟨g,2,none⟩ (.int .i64 q.sp.a)).setCell ⟨g,3,none⟩ (.int .i64 q.sp.s)).setCell ⟨g,4,none⟩ (.int .i64 q.sp.b)).setCell ⟨g,5,none⟩ (.bool q.sp.lf)).setCell ⟨g,6,none⟩ (.bool q.sp.cr)) g q∧w.grownBy (((((((w.setCell ⟨g,0,none⟩ (.slice q.p q.n q.c)).setCell ⟨g,1,none⟩ (.int .i64 q.pl)).setCell ⟨g,2,none⟩ (.int .i64 q.sp.a)).setCell ⟨g,3,none⟩ (.int .i64 q.sp.s)).setCell ⟨g,4,none⟩ (.int .i64 q.sp.b)).setCell ⟨g,5,none⟩ (.bool q.sp.lf)).setCell ⟨g,6,none⟩ (.bool q.sp.cr)) (some g):=by
 obtain ⟨h1,g1⟩:=set1 h 0 (.slice q.p q.n q.c)
 simp only [List.setIfInBounds_toArray,List.set_cons_zero] at h1
 obtain ⟨h2,g2⟩:=set1 h1 1 (.int .i64 q.pl)
 simp only [List.setIfInBounds_toArray,List.set_cons_zero,List.set_cons_succ] at h2
 obtain ⟨h3,g3⟩:=set1 h2 2 (.int .i64 q.sp.a)
 simp only [List.setIfInBounds_toArray,List.set_cons_zero,List.set_cons_succ] at h3
 obtain ⟨h4,g4⟩:=set1 h3 3 (.int .i64 q.sp.s)
 simp only [List.setIfInBounds_toArray,List.set_cons_zero,List.set_cons_succ] at h4
 obtain ⟨h5,g5⟩:=set1 h4 4 (.int .i64 q.sp.b)
 simp only [List.setIfInBounds_toArray,List.set_cons_zero,List.set_cons_succ] at h5
 obtain ⟨h6,g6⟩:=set1 h5 5 (.bool q.sp.lf)
 simp only [List.setIfInBounds_toArray,List.set_cons_zero,List.set_cons_succ] at h6
 obtain ⟨h7,g7⟩:=set1 h6 6 (.bool q.sp.cr)
 simp only [List.setIfInBounds_toArray,List.set_cons_zero,List.set_cons_succ] at h7
 exact ⟨h7,zgt (zgt (zgt (zgt (zgt (zgt g1 g2) g3) g4) g5) g6) g7⟩
theorem zcs {g A:Nat} (h:¬ g=A) (w:World) (i j:Nat) (v:Value):(w.setCell ⟨A,j,none⟩ v).cell? ⟨g,i,none⟩=w.cell? ⟨g,i,none⟩ :=
 by apply World.cell?_setCell_other;intro e;cases e;exact h rfl
set_option maxHeartbeats 2000000 in
theorem first_nil (r:Tr It) (x:It) (u:Option Addr) (w:World) (h:Tin w (.node .nil x r) u) :
  Calls Tryz.prog 137 #[.pointer u] w fun e w'=>∃ x' v t,e=.returned (.tuple #[.agg #[.slice x'.p x'.n x'.c,.int .i64 x'.pl,.int .i64 x'.sp.a,.int .i64 x'.sp.s,.int .i64 x'.sp.b,.bool x'.sp.lf,.bool x'.sp.cr],.pointer v])∧Tin w' t v∧Rest t x' (.node .nil x r)∧Below w.heap.size w w':=by
 obtain ⟨g,lu,ru,rfl,hgl,h2,h3,c0,c1,c2,c3⟩:=h.lt
 simp only [Tin] at h2
 subst h2
 have HT:Hid (Tin w r ru):=h3
 have hne:¬ g=w.heap.size:=by omega
 clear h h3
 go_enter Tryz.func137,Tryz.ntmps137
 go_wp2_with fail
 go_region_held3 (fun w'=>(w'.cell? ⟨g,0,none⟩=some (.slice x.p x.n x.c)∧w'.cell? ⟨g,1,none⟩=some (.int .i64 x.pl)∧w'.cell? ⟨g,2,none⟩=some (.int .i64 x.sp.a)∧w'.cell? ⟨g,3,none⟩=some (.int .i64 x.sp.s)∧w'.cell? ⟨g,4,none⟩=some (.int .i64 x.sp.b)∧w'.cell? ⟨g,5,none⟩=some (.bool x.sp.lf)∧w'.cell? ⟨g,6,none⟩=some (.bool x.sp.cr))∧True∧w'.cell? ⟨g,8,none⟩=some (.pointer ru)) (go_keep) (fail)
 all_goals
  go_wp2_with fail
  refine bodyPost_ret (v:=.tuple #[.agg #[.slice x.p x.n x.c,.int .i64 x.pl,.int .i64 x.sp.a,.int .i64 x.sp.s,.int .i64 x.sp.b,.bool x.sp.lf,.bool x.sp.cr],.pointer ru]) (by simp [results,Tryz.results137,go_sem]) rfl ⟨x,ru,r,rfl,HT.out.ext ?_,Rest.here,?_⟩ <;> (repeat (first | exact Below.refl _ _ | refine zxa ?_ _ | apply Below.drew))
set_option maxHeartbeats 2000000 in
theorem first_node (l r:Tr It) (y:It) (u:Option Addr) (w:World) (h:Tin w (.node l y r) u) (hl0:0 < l.ht) (hw:wt (l.list ++ y :: r.list)≤4611686018427387904)
  (ih:∀ (u:Option Addr) (w:World),Tin w l u→Calls Tryz.prog 137 #[.pointer u] w fun e w'=>∃ x' v t,e=.returned (.tuple #[.agg #[.slice x'.p x'.n x'.c,.int .i64 x'.pl,.int .i64 x'.sp.a,.int .i64 x'.sp.s,.int .i64 x'.sp.b,.bool x'.sp.lf,.bool x'.sp.cr],.pointer v])∧Tin w' t v∧Rest t x' l∧Below w.heap.size w w') :
  Calls Tryz.prog 137 #[.pointer u] w fun e w'=>∃ x' v t,e=.returned (.tuple #[.agg #[.slice x'.p x'.n x'.c,.int .i64 x'.pl,.int .i64 x'.sp.a,.int .i64 x'.sp.s,.int .i64 x'.sp.b,.bool x'.sp.lf,.bool x'.sp.cr],.pointer v])∧Tin w' t v∧Rest t x' (.node l y r)∧Below w.heap.size w w':=by
 obtain ⟨g,lu,ru,rfl,hgl,h2,h3,c0,c1,c2,c3⟩:=h.lt
 obtain ⟨lb,rfl⟩:∃ lb,lu=some ⟨lb,0,none⟩:=by
  obtain ⟨a,b,c,rfl⟩:=Tr.ht_pos hl0
  obtain ⟨q,_,_,e,_⟩:=h2
  exact ⟨q,e⟩
 obtain ⟨wA,hwA⟩:∃ wA,wA=w.alloc (.cells #[.slice none 0 0,.int .i64 0,.int .i64 0,.int .i64 0,.int .i64 0,.bool false,.bool false] 97):=⟨_,rfl⟩
 have hbA:Below w.heap.size w wA:=by rw [hwA];exact zxa (Below.refl _ _) _
 have hAA:BlkI wA w.heap.size It.zero:=by rw [hwA];exact heap_alloc_new _ _
 have hgA:g < wA.heap.size:=by have:=hbA.size;omega
 have hne:¬ g=w.heap.size:=by omega
 have C:Hid (∀ w',Below wA.heap.size wA w'→C7s w' g y∧True∧w'.cell? ⟨g,7,none⟩=some (.pointer (some ⟨lb,0,none⟩))∧w'.cell? ⟨g,8,none⟩=some (.pointer ru)):=fun w' hb =>
  ⟨(by first | trivial | exact C7.ext (hbA.trans (hb.mono hbA.size)) hgl c0 | exact C5.ext (hbA.trans (hb.mono hbA.size)) hgl c0 | exact ((hbA.trans (hb.mono hbA.size)).cell (p:=⟨g,0,none⟩) hgl).trans c0 | exact ((hbA.trans (hb.mono hbA.size)).cell (p:=⟨g,0,none⟩) hgl).trans c0),(by first | trivial | exact C7.ext (hbA.trans (hb.mono hbA.size)) hgl c1 | exact C5.ext (hbA.trans (hb.mono hbA.size)) hgl c1 | exact ((hbA.trans (hb.mono hbA.size)).cell (p:=⟨g,1,none⟩) hgl).trans c1 | exact ((hbA.trans (hb.mono hbA.size)).cell (p:=⟨g,1,none⟩) hgl).trans c1),(by first | trivial | exact C7.ext (hbA.trans (hb.mono hbA.size)) hgl c2 | exact C5.ext (hbA.trans (hb.mono hbA.size)) hgl c2 | exact ((hbA.trans (hb.mono hbA.size)).cell (p:=⟨g,7,none⟩) hgl).trans c2 | exact ((hbA.trans (hb.mono hbA.size)).cell (p:=⟨g,2,none⟩) hgl).trans c2),(by first | trivial | exact C7.ext (hbA.trans (hb.mono hbA.size)) hgl c3 | exact C5.ext (hbA.trans (hb.mono hbA.size)) hgl c3 | exact ((hbA.trans (hb.mono hbA.size)).cell (p:=⟨g,8,none⟩) hgl).trans c3 | exact ((hbA.trans (hb.mono hbA.size)).cell (p:=⟨g,3,none⟩) hgl).trans c3)⟩
 have F:Hid (Calls Tryz.prog 137 #[.pointer (some ⟨lb,0,none⟩)] wA fun e w'=>∃ x' v,e=.returned (.tuple #[.agg #[.slice x'.p x'.n x'.c,.int .i64 x'.pl,.int .i64 x'.sp.a,.int .i64 x'.sp.s,.int .i64 x'.sp.b,.bool x'.sp.lf,.bool x'.sp.cr],.pointer v])∧Hid (∃ t,Tin w' t v∧Rest t x' l)∧Below wA.heap.size wA w'):=(ih _ wA (h2.ext hbA)).mono fun _ _ ⟨x',v,t,k1,k2,k3,k4⟩=>⟨x',v,k1,⟨t,k2,k3⟩,k4⟩
 have L:Hid (∀ x' v w1 w2,Hid (∃ t,Tin w1 t v∧Rest t x' l)→Below wA.heap.size wA w1→Below w1.heap.size w1 w2→Calls Tryz.prog 140 #[.pointer v,.agg #[.slice y.p y.n y.c,.int .i64 y.pl,.int .i64 y.sp.a,.int .i64 y.sp.s,.int .i64 y.sp.b,.bool y.sp.lf,.bool y.sp.cr],.pointer ru] w2 fun e w'=>∃ v',e=.returned (.pointer v')∧Hid (∃ t,Tin w' t v'∧Rest t x' (.node l y r))∧Below w2.heap.size w2 w'):=fun x' v w1 w2 ht hb hb'=>by
  obtain ⟨t,k1,k2⟩:=ht.out
  refine (level_any t r y v ru w2 (k1.ext hb') (((h3.ext hbA).ext hb).ext hb') ?_).mono fun _ _ ⟨v',t',q1,q2,q3,q4⟩=>⟨v',q1,⟨t',q2,Rest.down k2 q3⟩,q4⟩
  have:=k2.list
  rw [this] at hw
  simp only [List.cons_append,wt_app,wt_cons] at hw ⊢
  omega
 have HBA:Hid (Below w.heap.size w wA):=hbA
 obtain ⟨d0,d1,d2,d3⟩:=C.out wA (Below.refl _ _)
 have hlw:w.heap.size < wA.heap.size:=hAA.lt
 clear h h2 h3 hw ih hbA
 go_enter Tryz.func137,Tryz.ntmps137
 go_wp2_with fail
 rw [← hwA]
 clear hwA
 go_wp2_with (go_at_call 137;refine F.out.mono ?_;rintro e w1 ⟨x',v,rfl,T1,hb1⟩;have HB1:Hid _:=hb1;have HS:=hb1.size;obtain ⟨e0,e1,e2,e3⟩:=C.out w1 hb1;obtain ⟨f0,f1,ff⟩:=(hAA.ext hb1).cells;clear hb1)
 obtain ⟨w2,hw2⟩:∃ w2,w2=w1.alloc (.cells #[.slice x'.p x'.n x'.c,.int .i64 x'.pl,.int .i64 x'.sp.a,.int .i64 x'.sp.s,.int .i64 x'.sp.b,.bool x'.sp.lf,.bool x'.sp.cr] 97):=⟨_,rfl⟩
 have hb2:Below w1.heap.size w1 w2:=by rw [hw2];exact zxa (Below.refl _ _) _
 have hX:BlkI w2 w1.heap.size x':=by rw [hw2];exact heap_alloc_new _ _
 have HB2:Hid (Below wA.heap.size wA w2):=zxt HB1.out hb2
 have HB3:Hid (Below w1.heap.size w1 w2):=hb2
 have HX:Hid (BlkI w2 w1.heap.size x'):=hX
 obtain ⟨x0,x1,_⟩:=hX.cells
 have D:Hid (∀ w',Below w2.heap.size w2 w'→(C7s w' w1.heap.size x'∧True∧C7s w' g y∧True∧w'.cell? ⟨g,8,none⟩=some (.pointer ru))∧BlkI w' w.heap.size It.zero):=fun w' hb=>by
  obtain ⟨p0,p1,p2,p3⟩:=C.out w' (zxt HB2.out hb)
  obtain ⟨q0,q1,_⟩:=(HX.out.ext hb).cells
  exact ⟨⟨q0,q1,p0,p1,p3⟩,(hAA.ext HB2.out).ext hb⟩
 obtain ⟨⟨q0,q1,p0,p1,p3⟩,hZ⟩:=D.out w2 (Below.refl _ _)
 obtain ⟨z0,z1,zf⟩:=hZ.cells
 have hne2:¬ w1.heap.size=w.heap.size:=by omega
 clear hb2 hX d0 d1 d2 d3 e0 e1 e2 e3 f0 f1 ff x0 x1
 rw [← hw2]
 clear hw2
 go_region_held3 (fun w'=>(w'.cell? ⟨w1.heap.size,0,none⟩=some (.slice x'.p x'.n x'.c)∧w'.cell? ⟨w1.heap.size,1,none⟩=some (.int .i64 x'.pl)∧w'.cell? ⟨w1.heap.size,2,none⟩=some (.int .i64 x'.sp.a)∧w'.cell? ⟨w1.heap.size,3,none⟩=some (.int .i64 x'.sp.s)∧w'.cell? ⟨w1.heap.size,4,none⟩=some (.int .i64 x'.sp.b)∧w'.cell? ⟨w1.heap.size,5,none⟩=some (.bool x'.sp.lf)∧w'.cell? ⟨w1.heap.size,6,none⟩=some (.bool x'.sp.cr))∧True∧(w'.cell? ⟨g,0,none⟩=some (.slice y.p y.n y.c)∧w'.cell? ⟨g,1,none⟩=some (.int .i64 y.pl)∧w'.cell? ⟨g,2,none⟩=some (.int .i64 y.sp.a)∧w'.cell? ⟨g,3,none⟩=some (.int .i64 y.sp.s)∧w'.cell? ⟨g,4,none⟩=some (.int .i64 y.sp.b)∧w'.cell? ⟨g,5,none⟩=some (.bool y.sp.lf)∧w'.cell? ⟨g,6,none⟩=some (.bool y.sp.cr))∧True∧w'.cell? ⟨g,8,none⟩=some (.pointer ru)) (first | (simp only [zcs hne,zcs hne2];exact ⟨q0,q1,p0,p1,p3⟩) | exact ⟨q0,q1,p0,p1,p3⟩ | go_keep) (first
  | (go_at_call 140;refine (L.out x' v w1 _ T1 HB1.out (by repeat (first | exact HB3.out | apply Below.drew))).mono ?_;rintro e w3 ⟨v',rfl,T2,hb3⟩;have HB4:Hid (Below w2.heap.size w2 w3):=zxt (by repeat (first | exact Below.refl _ _ | apply Below.drew)) hb3;clear q0 q1 p0 p1 p3 z0 z1 zf hZ hb3;obtain ⟨⟨q0,q1,p0,p1,p3⟩,hZ⟩:=D.out w3 HB4.out;obtain ⟨z0,z1,zf⟩:=hZ.cells))
 all_goals
  go_wp2_with fail
  obtain ⟨t,k1,k2⟩:=T2.out
  obtain ⟨_,hp⟩:=hZ.put x'
  exact bodyPost_ret (v:=.tuple #[.agg #[.slice x'.p x'.n x'.c,.int .i64 x'.pl,.int .i64 x'.sp.a,.int .i64 x'.sp.s,.int .i64 x'.sp.b,.bool x'.sp.lf,.bool x'.sp.cr],.pointer v']) (by simp [results,Tryz.results137,go_sem,z0]) rfl ⟨x',v',t,rfl,k1.put hZ (by decide) hp,k2,zbp (zxt HBA.out (zxt HB2.out HB4.out)) (by have:=HB4.out.size;have:=HB2.out.size;omega) hp (Nat.le_refl _)⟩
theorem first_any (n:Tr It):∀ (u:Option Addr) (w:World),Tin w n u→0 < n.ht→wt n.list≤4611686018427387904 →
  Calls Tryz.prog 137 #[.pointer u] w fun e w'=>∃ x' v t,e=.returned (.tuple #[.agg #[.slice x'.p x'.n x'.c,.int .i64 x'.pl,.int .i64 x'.sp.a,.int .i64 x'.sp.s,.int .i64 x'.sp.b,.bool x'.sp.lf,.bool x'.sp.cr],.pointer v])∧Tin w' t v∧Rest t x' n∧Below w.heap.size w w':=by
 induction n using Tr.ind with
 | nil=>intro u w h hp;simp [Tr.ht] at hp
 | node l y r ihl ihr =>
   intro u w h _ hw
   by_cases hl:0 < l.ht
   ·refine first_node l r y u w h hl hw (fun u w h=>ihl u w h hl ?_)
    simp only [Tr.list,wt_app] at hw
    omega
   ·cases l using Tr.ind with
    | nil=>exact first_nil r y u w h
    | node a b c=>simp [Tr.ht] at hl
set_option maxHeartbeats 2000000 in
theorem concat_any (l r:Tr It) (lu ru:Option Addr) (w:World) (hl:Tin w l lu) (hr:Tin w r ru) (hw:wt (l.list ++ r.list)≤4611686018427387904) :
  Calls Tryz.prog 128 #[.pointer lu,.pointer ru] w fun e w'=>∃ u t,e=.returned (.pointer u)∧Tin w' t u∧(t.list=l.list ++ r.list∧(l.Bal→r.Bal→t.Bal))∧Below w.heap.size w w':=by
 cases hlc:l using Tr.ind with
 | nil =>
   subst hlc
   simp only [Tin] at hl
   subst hl
   have HT:Hid (Tin w r ru):=hr
   clear hr
   go_enter Tryz.func128,Tryz.ntmps128
   go_wp2_with fail
   go_ret
   exact ⟨_,_,rfl,HT.out,⟨rfl,fun _ h=>h⟩,Below.refl _ _⟩
 | node l1 a l2 =>
   cases hrc:r using Tr.ind with
   | nil =>
     subst hrc hlc
     simp only [Tin] at hr
     subst hr
     have HT:Hid (Tin w (.node l1 a l2) lu):=hl
     obtain ⟨g,_,_,rfl,_⟩:=hl
     go_enter Tryz.func128,Tryz.ntmps128
     go_wp2_with fail
     go_ret
     exact ⟨_,_,rfl,HT.out,⟨by simp [Tr.list],fun h _=>h⟩,Below.refl _ _⟩
   | node r1 b r2 =>
     rw [← hlc,← hrc]
     have hp:0 < r.ht:=by rw [hrc];simp [Tr.ht]
     obtain ⟨gl,rfl⟩:∃ q,lu=some ⟨q,0,none⟩:=by rw [hlc] at hl;obtain ⟨q,_,_,e,_⟩:=hl;exact ⟨q,e⟩
     obtain ⟨gr,rfl⟩:∃ q,ru=some ⟨q,0,none⟩:=by rw [hrc] at hr;obtain ⟨q,_,_,e,_⟩:=hr;exact ⟨q,e⟩
     have hw1:=hw
     rw [wt_app] at hw1
     have F:Hid (Calls Tryz.prog 137 #[.pointer (some ⟨gr,0,none⟩)] w fun e w'=>∃ x' v,e=.returned (.tuple #[.agg #[.slice x'.p x'.n x'.c,.int .i64 x'.pl,.int .i64 x'.sp.a,.int .i64 x'.sp.s,.int .i64 x'.sp.b,.bool x'.sp.lf,.bool x'.sp.cr],.pointer v])∧Hid (∃ t,Tin w' t v∧Rest t x' r)∧Below w.heap.size w w'):=(first_any r _ w hr hp (by omega)).mono fun _ _ ⟨x',v,t,k1,k2,k3,k4⟩=>⟨x',v,k1,⟨t,k2,k3⟩,k4⟩
     have J:Hid (∀ x' v w1 w2,Hid (∃ t,Tin w1 t v∧Rest t x' r)→Below w.heap.size w w1→Below w1.heap.size w1 w2→Calls Tryz.prog 136 #[.pointer (some ⟨gl,0,none⟩),.agg #[.slice x'.p x'.n x'.c,.int .i64 x'.pl,.int .i64 x'.sp.a,.int .i64 x'.sp.s,.int .i64 x'.sp.b,.bool x'.sp.lf,.bool x'.sp.cr],.pointer v] w2 fun e w'=>∃ u,e=.returned (.pointer u)∧Hid (∃ t,Tin w' t u∧(t.list=l.list ++ r.list∧(l.Bal→r.Bal→t.Bal))∧Below w.heap.size w w')):=fun x' v w1 w2 ht hb hb'=>by
      obtain ⟨t,k1,k2⟩:=ht.out
      refine (join_any _ l t x' _ v w2 (Nat.le_refl _) ((hl.ext hb).ext hb') (k1.ext hb') (by rw [← k2.list];exact hw)).mono fun _ _ ⟨u,t',q1,q2,q3,q4⟩=>⟨u,q1,t',q2,⟨by rw [q3.list,k2.list],fun h1 h2=>(q3.bal h1 (k2.bal h2).1).1⟩,zxt hb (zxt hb' q4)⟩
     clear hl hr hw hw1 hp hlc hrc
     go_enter Tryz.func128,Tryz.ntmps128
     go_wp2_with (first
      | (go_at_call 137;refine F.out.mono ?_;rintro e w1 ⟨x',v,rfl,T1,hb1⟩;have HB1:Hid _:=hb1;clear hb1)
      | (go_at_call 136;refine (J.out _ _ _ _ T1 HB1.out (by repeat (first | exact Below.refl _ _ | refine zxa ?_ _))).mono ?_;rintro e w2 ⟨u,rfl,T2⟩))
     go_ret
     obtain ⟨t,k1,k2,k3⟩:=T2.out
     exact ⟨_,t,rfl,k1,k2,k3⟩
end Go.Proofs.YtdhciadajendnaaGreat.P
