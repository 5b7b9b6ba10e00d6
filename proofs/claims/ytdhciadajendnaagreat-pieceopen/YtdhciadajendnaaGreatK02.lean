import Derived.Test.YtdhciadajendnaaGreatK01
set_option maxRecDepth 100000
namespace Go.Proofs.YtdhciadajendnaaGreat.P
open Go.RowKit
theorem Tin.lt {w:World} {l r:Tr It} {x:It} {u:Option Addr} (h:Tin w (.node l x r) u):∃ g lv rv,u=some ⟨g,0,none⟩∧g < w.heap.size∧Tin w l lv∧Tin w r rv ∧
  (w.cell? ⟨g,0,none⟩=some (.slice x.p x.n x.c)∧w.cell? ⟨g,1,none⟩=some (.int .i64 x.pl)∧w.cell? ⟨g,2,none⟩=some (.int .i64 x.sp.a)∧w.cell? ⟨g,3,none⟩=some (.int .i64 x.sp.s)∧w.cell? ⟨g,4,none⟩=some (.int .i64 x.sp.b)∧w.cell? ⟨g,5,none⟩=some (.bool x.sp.lf)∧w.cell? ⟨g,6,none⟩=some (.bool x.sp.cr))∧True∧w.cell? ⟨g,7,none⟩=some (.pointer lv)∧w.cell? ⟨g,8,none⟩=some (.pointer rv):=by
 obtain ⟨g,lv,rv,hu,hg,hl,hr⟩:=h
 refine ⟨g,lv,rv,hu,(Array.getElem?_eq_some_iff.1 hg).1,hl,hr,?_,?_,?_,?_⟩
 ·first | trivial | (refine ⟨?_,?_,?_,?_,?_,?_,?_⟩ <;> (rw [cell_of_row w g _ _ _ _ hg];rfl)) | (refine ⟨?_,?_,?_,?_,?_⟩ <;> (rw [cell_of_row w g _ _ _ _ hg];rfl)) | (rw [cell_of_row w g _ _ _ _ hg];rfl)
 ·first | trivial | (refine ⟨?_,?_,?_,?_,?_,?_,?_⟩ <;> (rw [cell_of_row w g _ _ _ _ hg];rfl)) | (refine ⟨?_,?_,?_,?_,?_⟩ <;> (rw [cell_of_row w g _ _ _ _ hg];rfl)) | (rw [cell_of_row w g _ _ _ _ hg];rfl)
 ·first | trivial | (refine ⟨?_,?_,?_,?_,?_,?_,?_⟩ <;> (rw [cell_of_row w g _ _ _ _ hg];rfl)) | (refine ⟨?_,?_,?_,?_,?_⟩ <;> (rw [cell_of_row w g _ _ _ _ hg];rfl)) | (rw [cell_of_row w g _ _ _ _ hg];rfl)
 ·first | trivial | (refine ⟨?_,?_,?_,?_,?_,?_,?_⟩ <;> (rw [cell_of_row w g _ _ _ _ hg];rfl)) | (refine ⟨?_,?_,?_,?_,?_⟩ <;> (rw [cell_of_row w g _ _ _ _ hg];rfl)) | (rw [cell_of_row w g _ _ _ _ hg];rfl)
theorem br_at {w0 w':World} {l r:Tr It} {x:It} {lu ru:Option Addr} (hb:Below w0.heap.size w0 w') (hl:Tin w' l lu) (hr:Tin w' r ru) (hw:wt (l.list ++ x :: r.list)≤4611686018427387904) :
  Calls Tryz.prog 110 #[.pointer lu,.agg #[.slice x.p x.n x.c,.int .i64 x.pl,.int .i64 x.sp.a,.int .i64 x.sp.s,.int .i64 x.sp.b,.bool x.sp.lf,.bool x.sp.cr],.pointer ru] w' fun e w''=>∃ u,e=.returned (.pointer u)∧Hid (Tin w'' (.node l x r) u)∧Below w0.heap.size w0 w'' :=
 (branch_any l r x lu ru w' hl hr hw).mono fun _ _ ⟨u,h1,h2,h3⟩=>⟨u,h1,h2,zxt hb h3⟩
set_option maxHeartbeats 2000000 in
theorem turn_right1 (l1 l2:Tr It) (y:It) (o:Tr It) (x:It) (gu ou:Option Addr) (w:World) (hg:Tin w (.node l1 y l2) gu) (ho:Tin w o ou) (hw:wt ((l1.list ++ y :: l2.list) ++ x :: o.list)≤4611686018427387904) (h0:o.ht + 1 < (Tr.node l1 y l2).ht) (h1:l2.ht≤l1.ht) :
  Calls Tryz.prog 141 #[.pointer gu,.agg #[.slice x.p x.n x.c,.int .i64 x.pl,.int .i64 x.sp.a,.int .i64 x.sp.s,.int .i64 x.sp.b,.bool x.sp.lf,.bool x.sp.cr],.pointer ou] w fun e w'=>∃ u t,e=.returned (.pointer u)∧Tin w' t u∧Made t (.node l1 y l2) x o∧Below w.heap.size w w':=by
 have HM:=Made.right1 (x:=x) h0 h1
 have HM:Hid _:=HM
 obtain ⟨g,lu,ru,rfl,hgl,h2,h3,c0,c1,c2,c3⟩:=hg.lt
 obtain ⟨w0,hw0⟩:∃ w0,w0=w.alloc (.cells #[.slice x.p x.n x.c,.int .i64 x.pl,.int .i64 x.sp.a,.int .i64 x.sp.s,.int .i64 x.sp.b,.bool x.sp.lf,.bool x.sp.cr] 97):=⟨_,rfl⟩
 have hb0:Below w.heap.size w w0:=by rw [hw0];exact zxa (Below.refl _ _) _
 have HB0:Hid (Below w.heap.size w w0):=hb0
 have hsz:w.heap.size < w0.heap.size:=by first | trivial | (rw [hw0];simp)
 have hq0:(w0.cell? ⟨w.heap.size,0,none⟩=some (.slice x.p x.n x.c)∧w0.cell? ⟨w.heap.size,1,none⟩=some (.int .i64 x.pl)∧w0.cell? ⟨w.heap.size,2,none⟩=some (.int .i64 x.sp.a)∧w0.cell? ⟨w.heap.size,3,none⟩=some (.int .i64 x.sp.s)∧w0.cell? ⟨w.heap.size,4,none⟩=some (.int .i64 x.sp.b)∧w0.cell? ⟨w.heap.size,5,none⟩=some (.bool x.sp.lf)∧w0.cell? ⟨w.heap.size,6,none⟩=some (.bool x.sp.cr)):=by first | trivial | (rw [hw0];simp)
 have hq1:True:=by first | trivial | (rw [hw0];simp)
 have hq2:(w0.cell? ⟨g,0,none⟩=some (.slice y.p y.n y.c)∧w0.cell? ⟨g,1,none⟩=some (.int .i64 y.pl)∧w0.cell? ⟨g,2,none⟩=some (.int .i64 y.sp.a)∧w0.cell? ⟨g,3,none⟩=some (.int .i64 y.sp.s)∧w0.cell? ⟨g,4,none⟩=some (.int .i64 y.sp.b)∧w0.cell? ⟨g,5,none⟩=some (.bool y.sp.lf)∧w0.cell? ⟨g,6,none⟩=some (.bool y.sp.cr)):=C7.ext hb0 hgl c0
 have hq3:True:=trivial
 have hq4:w0.cell? ⟨g,7,none⟩=some (.pointer lu):=(hb0.cell (p:=⟨g,7,none⟩) hgl).trans c2
 have hq5:w0.cell? ⟨g,8,none⟩=some (.pointer ru):=(hb0.cell (p:=⟨g,8,none⟩) hgl).trans c3
 have HC:Hid (∀ w',Below w0.heap.size w0 w'→C7s w' w.heap.size x∧True∧C7s w' g y∧True∧w'.cell? ⟨g,7,none⟩=some (.pointer lu)∧w'.cell? ⟨g,8,none⟩=some (.pointer ru)):=fun w' h=>⟨(by first | trivial | exact C7.ext h hsz hq0 | exact C5.ext h hsz hq0 | exact (h.cell (p:=⟨w.heap.size,0,none⟩) hsz).trans hq0 | exact (h.cell (p:=⟨w.heap.size,0,none⟩) hsz).trans hq0),(by first | trivial | exact C7.ext h hsz hq1 | exact C5.ext h hsz hq1 | exact (h.cell (p:=⟨w.heap.size,1,none⟩) hsz).trans hq1 | exact (h.cell (p:=⟨w.heap.size,1,none⟩) hsz).trans hq1),(by first | trivial | exact C7.ext h (Nat.lt_trans hgl hsz) hq2 | exact C5.ext h (Nat.lt_trans hgl hsz) hq2 | exact (h.cell (p:=⟨g,0,none⟩) (Nat.lt_trans hgl hsz)).trans hq2 | exact (h.cell (p:=⟨g,0,none⟩) (Nat.lt_trans hgl hsz)).trans hq2),(by first | trivial | exact C7.ext h (Nat.lt_trans hgl hsz) hq3 | exact C5.ext h (Nat.lt_trans hgl hsz) hq3 | exact (h.cell (p:=⟨g,1,none⟩) (Nat.lt_trans hgl hsz)).trans hq3 | exact (h.cell (p:=⟨g,1,none⟩) (Nat.lt_trans hgl hsz)).trans hq3),(by first | trivial | exact C7.ext h (Nat.lt_trans hgl hsz) hq4 | exact C5.ext h (Nat.lt_trans hgl hsz) hq4 | exact (h.cell (p:=⟨g,7,none⟩) (Nat.lt_trans hgl hsz)).trans hq4 | exact (h.cell (p:=⟨g,2,none⟩) (Nat.lt_trans hgl hsz)).trans hq4),(by first | trivial | exact C7.ext h (Nat.lt_trans hgl hsz) hq5 | exact C5.ext h (Nat.lt_trans hgl hsz) hq5 | exact (h.cell (p:=⟨g,8,none⟩) (Nat.lt_trans hgl hsz)).trans hq5 | exact (h.cell (p:=⟨g,3,none⟩) (Nat.lt_trans hgl hsz)).trans hq5)⟩
 have b3:=l1.ht_le
 have b4:=l2.ht_le
 have b5:=wt_len l1.list
 have b6:=wt_len l2.list
 simp only [wt_app,wt_cons] at hw
 have VL:Hid (∀ w',Below w.heap.size w w'→Calls Tryz.prog 132 #[.pointer lu] w' fun e w''=>e=.returned (.int .i64 l1.ht)∧w''=w'):=fun w' h=>levels_any l1 lu w' (h2.ext h)
 have VR:Hid (∀ w',Below w.heap.size w w'→Calls Tryz.prog 132 #[.pointer ru] w' fun e w''=>e=.returned (.int .i64 l2.ht)∧w''=w'):=fun w' h=>levels_any l2 ru w' (h3.ext h)
 have B1:Hid (∀ w',Below w0.heap.size w0 w'→Calls Tryz.prog 110 #[.pointer ru,.agg #[.slice x.p x.n x.c,.int .i64 x.pl,.int .i64 x.sp.a,.int .i64 x.sp.s,.int .i64 x.sp.b,.bool x.sp.lf,.bool x.sp.cr],.pointer ou] w' fun e w''=>∃ u,e=.returned (.pointer u)∧Hid (Tin w'' (.node l2 x o) u)∧Below w0.heap.size w0 w''):=fun w' h=>br_at h ((h3.ext hb0).ext h) ((ho.ext hb0).ext h) (by simp only [wt_app,wt_cons];omega)
 have B2:Hid (∀ u w',Hid (Tin w' (.node l2 x o) u)→Below w0.heap.size w0 w'→Calls Tryz.prog 110 #[.pointer lu,.agg #[.slice y.p y.n y.c,.int .i64 y.pl,.int .i64 y.sp.a,.int .i64 y.sp.s,.int .i64 y.sp.b,.bool y.sp.lf,.bool y.sp.cr],.pointer u] w' fun e w''=>∃ u,e=.returned (.pointer u)∧Hid (Tin w'' (.node l1 y (.node l2 x o)) u)∧Below w0.heap.size w0 w''):=fun u w' ht h=>br_at h ((h2.ext hb0).ext h) ht.out (by simp only [Tr.list,wt_app,wt_cons];omega)
 have hle:(l2.ht:Int)≤(l1.ht:Int):=by omega
 clear hg ho hw h0 h1 h2 h3 b3 b4 b5 b6 hb0
 generalize l1.ht=m1 at *
 generalize l2.ht=m2 at *
 go_enter Tryz.func141,Tryz.ntmps141
 go_wp2_with (first | (go_at_call_of 132 lu;refine (VL.out _ (by repeat (first | exact Below.refl _ _ | refine zxa ?_ _ | apply Below.drew))).mono ?_;rintro e w1 ⟨rfl,rfl⟩) | (go_at_call_of 132 ru;refine (VR.out _ (by repeat (first | exact Below.refl _ _ | refine zxa ?_ _ | apply Below.drew))).mono ?_;rintro e w1 ⟨rfl,rfl⟩))
 rw [← hw0]
 clear hw0
 have HB:Hid (Below w0.heap.size w0 w0):=Below.refl _ _
 go_region_held3 (fun w'=>(w'.cell? ⟨w.heap.size,0,none⟩=some (.slice x.p x.n x.c)∧w'.cell? ⟨w.heap.size,1,none⟩=some (.int .i64 x.pl)∧w'.cell? ⟨w.heap.size,2,none⟩=some (.int .i64 x.sp.a)∧w'.cell? ⟨w.heap.size,3,none⟩=some (.int .i64 x.sp.s)∧w'.cell? ⟨w.heap.size,4,none⟩=some (.int .i64 x.sp.b)∧w'.cell? ⟨w.heap.size,5,none⟩=some (.bool x.sp.lf)∧w'.cell? ⟨w.heap.size,6,none⟩=some (.bool x.sp.cr))∧True∧(w'.cell? ⟨g,0,none⟩=some (.slice y.p y.n y.c)∧w'.cell? ⟨g,1,none⟩=some (.int .i64 y.pl)∧w'.cell? ⟨g,2,none⟩=some (.int .i64 y.sp.a)∧w'.cell? ⟨g,3,none⟩=some (.int .i64 y.sp.s)∧w'.cell? ⟨g,4,none⟩=some (.int .i64 y.sp.b)∧w'.cell? ⟨g,5,none⟩=some (.bool y.sp.lf)∧w'.cell? ⟨g,6,none⟩=some (.bool y.sp.cr))∧True∧w'.cell? ⟨g,7,none⟩=some (.pointer lu)∧w'.cell? ⟨g,8,none⟩=some (.pointer ru)) (go_keep) (first
  | (go_at_call_of 110 ou;refine (B1.out _ (by repeat (first | exact HB.out | apply Below.drew))).mono ?_;rintro e w1 ⟨u1,rfl,T1,hb1⟩;clear hq0 hq1 hq2 hq3 hq4 hq5 HB;have HB:Hid (Below w0.heap.size w0 w1):=hb1;obtain ⟨hq0,hq1,hq2,hq3,hq4,hq5⟩:=HC.out w1 hb1;clear hb1)
  | (go_at_call_of 110 lu;refine (B2.out _ _ T1 (by repeat (first | exact HB.out | apply Below.drew))).mono ?_;rintro e w1 ⟨u2,rfl,T2,hb1⟩;clear hq0 hq1 hq2 hq3 hq4 hq5 HB;have HB:Hid (Below w0.heap.size w0 w1):=hb1;obtain ⟨hq0,hq1,hq2,hq3,hq4,hq5⟩:=HC.out w1 hb1;clear hb1))
 go_wp2_with fail
 go_ret
 exact ⟨_,_,rfl,T2.out,HM.out,zxt HB0.out HB.out⟩
set_option maxHeartbeats 2000000 in
theorem turn_right2 (l1:Tr It) (a b:Tr It) (z:It) (y:It) (o:Tr It) (x:It) (gu ou:Option Addr) (w:World) (hg:Tin w (.node l1 y (.node a z b)) gu) (ho:Tin w o ou) (hw:wt ((l1.list ++ y :: (a.list ++ z :: b.list)) ++ x :: o.list)≤4611686018427387904) (h0:o.ht + 1 < (Tr.node l1 y (.node a z b)).ht) (h1:l1.ht < (Tr.node a z b).ht) :
  Calls Tryz.prog 141 #[.pointer gu,.agg #[.slice x.p x.n x.c,.int .i64 x.pl,.int .i64 x.sp.a,.int .i64 x.sp.s,.int .i64 x.sp.b,.bool x.sp.lf,.bool x.sp.cr],.pointer ou] w fun e w'=>∃ u t,e=.returned (.pointer u)∧Tin w' t u∧Made t (.node l1 y (.node a z b)) x o∧Below w.heap.size w w':=by
 have HM:=Made.right2 (x:=x) h0 h1
 have HM:Hid _:=HM
 obtain ⟨g,lu,ru,rfl,hgl,h2,h3,c0,c1,c2,c3⟩:=hg.lt
 have h3':=h3
 obtain ⟨g2,au,bu,rfl,hgl2,h4,h5,d0,d1,d2,d3⟩:=h3.lt
 obtain ⟨w0,hw0⟩:∃ w0,w0=w.alloc (.cells #[.slice x.p x.n x.c,.int .i64 x.pl,.int .i64 x.sp.a,.int .i64 x.sp.s,.int .i64 x.sp.b,.bool x.sp.lf,.bool x.sp.cr] 97):=⟨_,rfl⟩
 have hb0:Below w.heap.size w w0:=by rw [hw0];exact zxa (Below.refl _ _) _
 have HB0:Hid (Below w.heap.size w w0):=hb0
 have hsz:w.heap.size < w0.heap.size:=by first | trivial | (rw [hw0];simp)
 have hq0:(w0.cell? ⟨w.heap.size,0,none⟩=some (.slice x.p x.n x.c)∧w0.cell? ⟨w.heap.size,1,none⟩=some (.int .i64 x.pl)∧w0.cell? ⟨w.heap.size,2,none⟩=some (.int .i64 x.sp.a)∧w0.cell? ⟨w.heap.size,3,none⟩=some (.int .i64 x.sp.s)∧w0.cell? ⟨w.heap.size,4,none⟩=some (.int .i64 x.sp.b)∧w0.cell? ⟨w.heap.size,5,none⟩=some (.bool x.sp.lf)∧w0.cell? ⟨w.heap.size,6,none⟩=some (.bool x.sp.cr)):=by first | trivial | (rw [hw0];simp)
 have hq1:True:=by first | trivial | (rw [hw0];simp)
 have hq2:(w0.cell? ⟨g,0,none⟩=some (.slice y.p y.n y.c)∧w0.cell? ⟨g,1,none⟩=some (.int .i64 y.pl)∧w0.cell? ⟨g,2,none⟩=some (.int .i64 y.sp.a)∧w0.cell? ⟨g,3,none⟩=some (.int .i64 y.sp.s)∧w0.cell? ⟨g,4,none⟩=some (.int .i64 y.sp.b)∧w0.cell? ⟨g,5,none⟩=some (.bool y.sp.lf)∧w0.cell? ⟨g,6,none⟩=some (.bool y.sp.cr)):=C7.ext hb0 hgl c0
 have hq3:True:=trivial
 have hq4:w0.cell? ⟨g,7,none⟩=some (.pointer lu):=(hb0.cell (p:=⟨g,7,none⟩) hgl).trans c2
 have hq5:w0.cell? ⟨g,8,none⟩=some (.pointer (some ⟨g2,0,none⟩)):=(hb0.cell (p:=⟨g,8,none⟩) hgl).trans c3
 have hq6:(w0.cell? ⟨g2,0,none⟩=some (.slice z.p z.n z.c)∧w0.cell? ⟨g2,1,none⟩=some (.int .i64 z.pl)∧w0.cell? ⟨g2,2,none⟩=some (.int .i64 z.sp.a)∧w0.cell? ⟨g2,3,none⟩=some (.int .i64 z.sp.s)∧w0.cell? ⟨g2,4,none⟩=some (.int .i64 z.sp.b)∧w0.cell? ⟨g2,5,none⟩=some (.bool z.sp.lf)∧w0.cell? ⟨g2,6,none⟩=some (.bool z.sp.cr)):=C7.ext hb0 hgl2 d0
 have hq7:True:=trivial
 have hq8:w0.cell? ⟨g2,7,none⟩=some (.pointer au):=(hb0.cell (p:=⟨g2,7,none⟩) hgl2).trans d2
 have hq9:w0.cell? ⟨g2,8,none⟩=some (.pointer bu):=(hb0.cell (p:=⟨g2,8,none⟩) hgl2).trans d3
 have HC:Hid (∀ w',Below w0.heap.size w0 w'→C7s w' w.heap.size x∧True∧C7s w' g y∧True∧w'.cell? ⟨g,7,none⟩=some (.pointer lu)∧w'.cell? ⟨g,8,none⟩=some (.pointer (some ⟨g2,0,none⟩))∧C7s w' g2 z∧True∧w'.cell? ⟨g2,7,none⟩=some (.pointer au)∧w'.cell? ⟨g2,8,none⟩=some (.pointer bu)):=fun w' h=>⟨(by first | trivial | exact C7.ext h hsz hq0 | exact C5.ext h hsz hq0 | exact (h.cell (p:=⟨w.heap.size,0,none⟩) hsz).trans hq0 | exact (h.cell (p:=⟨w.heap.size,0,none⟩) hsz).trans hq0),(by first | trivial | exact C7.ext h hsz hq1 | exact C5.ext h hsz hq1 | exact (h.cell (p:=⟨w.heap.size,1,none⟩) hsz).trans hq1 | exact (h.cell (p:=⟨w.heap.size,1,none⟩) hsz).trans hq1),(by first | trivial | exact C7.ext h (Nat.lt_trans hgl hsz) hq2 | exact C5.ext h (Nat.lt_trans hgl hsz) hq2 | exact (h.cell (p:=⟨g,0,none⟩) (Nat.lt_trans hgl hsz)).trans hq2 | exact (h.cell (p:=⟨g,0,none⟩) (Nat.lt_trans hgl hsz)).trans hq2),(by first | trivial | exact C7.ext h (Nat.lt_trans hgl hsz) hq3 | exact C5.ext h (Nat.lt_trans hgl hsz) hq3 | exact (h.cell (p:=⟨g,1,none⟩) (Nat.lt_trans hgl hsz)).trans hq3 | exact (h.cell (p:=⟨g,1,none⟩) (Nat.lt_trans hgl hsz)).trans hq3),(by first | trivial | exact C7.ext h (Nat.lt_trans hgl hsz) hq4 | exact C5.ext h (Nat.lt_trans hgl hsz) hq4 | exact (h.cell (p:=⟨g,7,none⟩) (Nat.lt_trans hgl hsz)).trans hq4 | exact (h.cell (p:=⟨g,2,none⟩) (Nat.lt_trans hgl hsz)).trans hq4),(by first | trivial | exact C7.ext h (Nat.lt_trans hgl hsz) hq5 | exact C5.ext h (Nat.lt_trans hgl hsz) hq5 | exact (h.cell (p:=⟨g,8,none⟩) (Nat.lt_trans hgl hsz)).trans hq5 | exact (h.cell (p:=⟨g,3,none⟩) (Nat.lt_trans hgl hsz)).trans hq5),(by first | trivial | exact C7.ext h (Nat.lt_trans hgl2 hsz) hq6 | exact C5.ext h (Nat.lt_trans hgl2 hsz) hq6 | exact (h.cell (p:=⟨g2,0,none⟩) (Nat.lt_trans hgl2 hsz)).trans hq6 | exact (h.cell (p:=⟨g2,0,none⟩) (Nat.lt_trans hgl2 hsz)).trans hq6),(by first | trivial | exact C7.ext h (Nat.lt_trans hgl2 hsz) hq7 | exact C5.ext h (Nat.lt_trans hgl2 hsz) hq7 | exact (h.cell (p:=⟨g2,1,none⟩) (Nat.lt_trans hgl2 hsz)).trans hq7 | exact (h.cell (p:=⟨g2,1,none⟩) (Nat.lt_trans hgl2 hsz)).trans hq7),(by first | trivial | exact C7.ext h (Nat.lt_trans hgl2 hsz) hq8 | exact C5.ext h (Nat.lt_trans hgl2 hsz) hq8 | exact (h.cell (p:=⟨g2,7,none⟩) (Nat.lt_trans hgl2 hsz)).trans hq8 | exact (h.cell (p:=⟨g2,2,none⟩) (Nat.lt_trans hgl2 hsz)).trans hq8),(by first | trivial | exact C7.ext h (Nat.lt_trans hgl2 hsz) hq9 | exact C5.ext h (Nat.lt_trans hgl2 hsz) hq9 | exact (h.cell (p:=⟨g2,8,none⟩) (Nat.lt_trans hgl2 hsz)).trans hq9 | exact (h.cell (p:=⟨g2,3,none⟩) (Nat.lt_trans hgl2 hsz)).trans hq9)⟩
 have b3:=l1.ht_le
 have b4:=(Tr.node a z b).ht_le
 have b5:=wt_len l1.list
 have b6:=wt_len (Tr.node a z b).list
 simp only [Tr.list] at b4 b6
 simp only [wt_app,wt_cons] at hw b6
 have VL:Hid (∀ w',Below w.heap.size w w'→Calls Tryz.prog 132 #[.pointer lu] w' fun e w''=>e=.returned (.int .i64 l1.ht)∧w''=w'):=fun w' h=>levels_any l1 lu w' (h2.ext h)
 have VR:Hid (∀ w',Below w.heap.size w w'→Calls Tryz.prog 132 #[.pointer (some ⟨g2,0,none⟩)] w' fun e w''=>e=.returned (.int .i64 (Tr.node a z b).ht)∧w''=w'):=fun w' h=>levels_any (Tr.node a z b) _ w' (h3'.ext h)
 have B1:Hid (∀ w',Below w0.heap.size w0 w'→Calls Tryz.prog 110 #[.pointer lu,.agg #[.slice y.p y.n y.c,.int .i64 y.pl,.int .i64 y.sp.a,.int .i64 y.sp.s,.int .i64 y.sp.b,.bool y.sp.lf,.bool y.sp.cr],.pointer au] w' fun e w''=>∃ u,e=.returned (.pointer u)∧Hid (Tin w'' (.node l1 y a) u)∧Below w0.heap.size w0 w''):=fun w' h=>br_at h ((h2.ext hb0).ext h) ((h4.ext hb0).ext h) (by simp only [wt_app,wt_cons];omega)
 have B2:Hid (∀ u w',Hid (Tin w' (.node l1 y a) u)→Below w0.heap.size w0 w'→Calls Tryz.prog 110 #[.pointer bu,.agg #[.slice x.p x.n x.c,.int .i64 x.pl,.int .i64 x.sp.a,.int .i64 x.sp.s,.int .i64 x.sp.b,.bool x.sp.lf,.bool x.sp.cr],.pointer ou] w' fun e w''=>∃ v,e=.returned (.pointer v)∧Hid (Tin w'' (.node b x o) v∧Tin w'' (.node l1 y a) u)∧Below w0.heap.size w0 w''):=fun u w' ht h=>(branch_any b o x bu ou w' ((h5.ext hb0).ext h) ((ho.ext hb0).ext h) (by simp only [wt_app,wt_cons];omega)).mono fun _ _ ⟨v,k1,k2,k3⟩=>⟨v,k1,⟨k2,ht.out.ext k3⟩,zxt h k3⟩
 have B3:Hid (∀ u v w',Hid (Tin w' (.node b x o) v∧Tin w' (.node l1 y a) u)→Below w0.heap.size w0 w'→Calls Tryz.prog 110 #[.pointer u,.agg #[.slice z.p z.n z.c,.int .i64 z.pl,.int .i64 z.sp.a,.int .i64 z.sp.s,.int .i64 z.sp.b,.bool z.sp.lf,.bool z.sp.cr],.pointer v] w' fun e w''=>∃ u,e=.returned (.pointer u)∧Hid (Tin w'' (.node (.node l1 y a) z (.node b x o)) u)∧Below w0.heap.size w0 w''):=fun u v w' ht h=>br_at h ht.out.2 ht.out.1 (by simp only [Tr.list,wt_app,wt_cons];omega)
 have hlt:(l1.ht:Int) < ((Tr.node a z b).ht:Int):=by omega
 have hge:¬ ((Tr.node a z b).ht:Int)≤(l1.ht:Int):=by omega
 clear hg ho hw h0 h1 h2 h3 h3' h4 h5 b3 b4 b5 b6 hb0
 generalize l1.ht=m1 at *
 generalize (Tr.node a z b).ht=m2 at *
 go_enter Tryz.func141,Tryz.ntmps141
 go_wp2_with (first | (go_at_call_of 132 lu;refine (VL.out _ (by repeat (first | exact Below.refl _ _ | refine zxa ?_ _ | apply Below.drew))).mono ?_;rintro e w1 ⟨rfl,rfl⟩) | (go_at_call_of 132 g2;refine (VR.out _ (by repeat (first | exact Below.refl _ _ | refine zxa ?_ _ | apply Below.drew))).mono ?_;rintro e w1 ⟨rfl,rfl⟩))
 rw [← hw0]
 clear hw0
 have HB:Hid (Below w0.heap.size w0 w0):=Below.refl _ _
 go_region_held3 (fun w'=>(w'.cell? ⟨w.heap.size,0,none⟩=some (.slice x.p x.n x.c)∧w'.cell? ⟨w.heap.size,1,none⟩=some (.int .i64 x.pl)∧w'.cell? ⟨w.heap.size,2,none⟩=some (.int .i64 x.sp.a)∧w'.cell? ⟨w.heap.size,3,none⟩=some (.int .i64 x.sp.s)∧w'.cell? ⟨w.heap.size,4,none⟩=some (.int .i64 x.sp.b)∧w'.cell? ⟨w.heap.size,5,none⟩=some (.bool x.sp.lf)∧w'.cell? ⟨w.heap.size,6,none⟩=some (.bool x.sp.cr))∧True∧(w'.cell? ⟨g,0,none⟩=some (.slice y.p y.n y.c)∧w'.cell? ⟨g,1,none⟩=some (.int .i64 y.pl)∧w'.cell? ⟨g,2,none⟩=some (.int .i64 y.sp.a)∧w'.cell? ⟨g,3,none⟩=some (.int .i64 y.sp.s)∧w'.cell? ⟨g,4,none⟩=some (.int .i64 y.sp.b)∧w'.cell? ⟨g,5,none⟩=some (.bool y.sp.lf)∧w'.cell? ⟨g,6,none⟩=some (.bool y.sp.cr))∧True∧w'.cell? ⟨g,7,none⟩=some (.pointer lu)∧w'.cell? ⟨g,8,none⟩=some (.pointer (some ⟨g2,0,none⟩))∧(w'.cell? ⟨g2,0,none⟩=some (.slice z.p z.n z.c)∧w'.cell? ⟨g2,1,none⟩=some (.int .i64 z.pl)∧w'.cell? ⟨g2,2,none⟩=some (.int .i64 z.sp.a)∧w'.cell? ⟨g2,3,none⟩=some (.int .i64 z.sp.s)∧w'.cell? ⟨g2,4,none⟩=some (.int .i64 z.sp.b)∧w'.cell? ⟨g2,5,none⟩=some (.bool z.sp.lf)∧w'.cell? ⟨g2,6,none⟩=some (.bool z.sp.cr))∧True∧w'.cell? ⟨g2,7,none⟩=some (.pointer au)∧w'.cell? ⟨g2,8,none⟩=some (.pointer bu)) (go_keep) (first
  | (go_at_call_of 110 lu;refine (B1.out _ (by repeat (first | exact HB.out | apply Below.drew))).mono ?_;rintro e w1 ⟨u1,rfl,T1,hb1⟩;clear hq0 hq1 hq2 hq3 hq4 hq5 hq6 hq7 hq8 hq9 HB;have HB:Hid (Below w0.heap.size w0 w1):=hb1;obtain ⟨hq0,hq1,hq2,hq3,hq4,hq5,hq6,hq7,hq8,hq9⟩:=HC.out w1 hb1;clear hb1)
  | (go_at_call_of 110 ou;refine (B2.out _ _ T1 (by repeat (first | exact HB.out | apply Below.drew))).mono ?_;rintro e w1 ⟨u2,rfl,T2,hb1⟩;clear hq0 hq1 hq2 hq3 hq4 hq5 hq6 hq7 hq8 hq9 HB;have HB:Hid (Below w0.heap.size w0 w1):=hb1;obtain ⟨hq0,hq1,hq2,hq3,hq4,hq5,hq6,hq7,hq8,hq9⟩:=HC.out w1 hb1;clear hb1)
  | (go_at_call_of 110 z;refine (B3.out _ _ _ T2 (by repeat (first | exact HB.out | apply Below.drew))).mono ?_;rintro e w1 ⟨u3,rfl,T3,hb1⟩;clear hq0 hq1 hq2 hq3 hq4 hq5 hq6 hq7 hq8 hq9 HB;have HB:Hid (Below w0.heap.size w0 w1):=hb1;obtain ⟨hq0,hq1,hq2,hq3,hq4,hq5,hq6,hq7,hq8,hq9⟩:=HC.out w1 hb1;clear hb1))
 go_wp2_with fail
 go_ret
 exact ⟨_,_,rfl,T3.out,HM.out,zxt HB0.out HB.out⟩
set_option maxHeartbeats 2000000 in
theorem turn_left1 (l1 l2:Tr It) (y:It) (o:Tr It) (x:It) (gu ou:Option Addr) (w:World) (hg:Tin w (.node l1 y l2) gu) (ho:Tin w o ou) (hw:wt (o.list ++ x :: (l1.list ++ y :: l2.list))≤4611686018427387904) (h0:o.ht + 1 < (Tr.node l1 y l2).ht) (h1:l1.ht≤l2.ht) :
  Calls Tryz.prog 142 #[.pointer ou,.agg #[.slice x.p x.n x.c,.int .i64 x.pl,.int .i64 x.sp.a,.int .i64 x.sp.s,.int .i64 x.sp.b,.bool x.sp.lf,.bool x.sp.cr],.pointer gu] w fun e w'=>∃ u t,e=.returned (.pointer u)∧Tin w' t u∧Made t o x (.node l1 y l2)∧Below w.heap.size w w':=by
 have HM:=Made.left1 (x:=x) h0 h1
 have HM:Hid _:=HM
 obtain ⟨g,lu,ru,rfl,hgl,h2,h3,c0,c1,c2,c3⟩:=hg.lt
 obtain ⟨w0,hw0⟩:∃ w0,w0=w.alloc (.cells #[.slice x.p x.n x.c,.int .i64 x.pl,.int .i64 x.sp.a,.int .i64 x.sp.s,.int .i64 x.sp.b,.bool x.sp.lf,.bool x.sp.cr] 97):=⟨_,rfl⟩
 have hb0:Below w.heap.size w w0:=by rw [hw0];exact zxa (Below.refl _ _) _
 have HB0:Hid (Below w.heap.size w w0):=hb0
 have hsz:w.heap.size < w0.heap.size:=by first | trivial | (rw [hw0];simp)
 have hq0:(w0.cell? ⟨w.heap.size,0,none⟩=some (.slice x.p x.n x.c)∧w0.cell? ⟨w.heap.size,1,none⟩=some (.int .i64 x.pl)∧w0.cell? ⟨w.heap.size,2,none⟩=some (.int .i64 x.sp.a)∧w0.cell? ⟨w.heap.size,3,none⟩=some (.int .i64 x.sp.s)∧w0.cell? ⟨w.heap.size,4,none⟩=some (.int .i64 x.sp.b)∧w0.cell? ⟨w.heap.size,5,none⟩=some (.bool x.sp.lf)∧w0.cell? ⟨w.heap.size,6,none⟩=some (.bool x.sp.cr)):=by first | trivial | (rw [hw0];simp)
 have hq1:True:=by first | trivial | (rw [hw0];simp)
 have hq2:(w0.cell? ⟨g,0,none⟩=some (.slice y.p y.n y.c)∧w0.cell? ⟨g,1,none⟩=some (.int .i64 y.pl)∧w0.cell? ⟨g,2,none⟩=some (.int .i64 y.sp.a)∧w0.cell? ⟨g,3,none⟩=some (.int .i64 y.sp.s)∧w0.cell? ⟨g,4,none⟩=some (.int .i64 y.sp.b)∧w0.cell? ⟨g,5,none⟩=some (.bool y.sp.lf)∧w0.cell? ⟨g,6,none⟩=some (.bool y.sp.cr)):=C7.ext hb0 hgl c0
 have hq3:True:=trivial
 have hq4:w0.cell? ⟨g,7,none⟩=some (.pointer lu):=(hb0.cell (p:=⟨g,7,none⟩) hgl).trans c2
 have hq5:w0.cell? ⟨g,8,none⟩=some (.pointer ru):=(hb0.cell (p:=⟨g,8,none⟩) hgl).trans c3
 have HC:Hid (∀ w',Below w0.heap.size w0 w'→C7s w' w.heap.size x∧True∧C7s w' g y∧True∧w'.cell? ⟨g,7,none⟩=some (.pointer lu)∧w'.cell? ⟨g,8,none⟩=some (.pointer ru)):=fun w' h=>⟨(by first | trivial | exact C7.ext h hsz hq0 | exact C5.ext h hsz hq0 | exact (h.cell (p:=⟨w.heap.size,0,none⟩) hsz).trans hq0 | exact (h.cell (p:=⟨w.heap.size,0,none⟩) hsz).trans hq0),(by first | trivial | exact C7.ext h hsz hq1 | exact C5.ext h hsz hq1 | exact (h.cell (p:=⟨w.heap.size,1,none⟩) hsz).trans hq1 | exact (h.cell (p:=⟨w.heap.size,1,none⟩) hsz).trans hq1),(by first | trivial | exact C7.ext h (Nat.lt_trans hgl hsz) hq2 | exact C5.ext h (Nat.lt_trans hgl hsz) hq2 | exact (h.cell (p:=⟨g,0,none⟩) (Nat.lt_trans hgl hsz)).trans hq2 | exact (h.cell (p:=⟨g,0,none⟩) (Nat.lt_trans hgl hsz)).trans hq2),(by first | trivial | exact C7.ext h (Nat.lt_trans hgl hsz) hq3 | exact C5.ext h (Nat.lt_trans hgl hsz) hq3 | exact (h.cell (p:=⟨g,1,none⟩) (Nat.lt_trans hgl hsz)).trans hq3 | exact (h.cell (p:=⟨g,1,none⟩) (Nat.lt_trans hgl hsz)).trans hq3),(by first | trivial | exact C7.ext h (Nat.lt_trans hgl hsz) hq4 | exact C5.ext h (Nat.lt_trans hgl hsz) hq4 | exact (h.cell (p:=⟨g,7,none⟩) (Nat.lt_trans hgl hsz)).trans hq4 | exact (h.cell (p:=⟨g,2,none⟩) (Nat.lt_trans hgl hsz)).trans hq4),(by first | trivial | exact C7.ext h (Nat.lt_trans hgl hsz) hq5 | exact C5.ext h (Nat.lt_trans hgl hsz) hq5 | exact (h.cell (p:=⟨g,8,none⟩) (Nat.lt_trans hgl hsz)).trans hq5 | exact (h.cell (p:=⟨g,3,none⟩) (Nat.lt_trans hgl hsz)).trans hq5)⟩
 have b3:=l1.ht_le
 have b4:=l2.ht_le
 have b5:=wt_len l1.list
 have b6:=wt_len l2.list
 simp only [wt_app,wt_cons] at hw
 have VL:Hid (∀ w',Below w.heap.size w w'→Calls Tryz.prog 132 #[.pointer lu] w' fun e w''=>e=.returned (.int .i64 l1.ht)∧w''=w'):=fun w' h=>levels_any l1 lu w' (h2.ext h)
 have VR:Hid (∀ w',Below w.heap.size w w'→Calls Tryz.prog 132 #[.pointer ru] w' fun e w''=>e=.returned (.int .i64 l2.ht)∧w''=w'):=fun w' h=>levels_any l2 ru w' (h3.ext h)
 have B1:Hid (∀ w',Below w0.heap.size w0 w'→Calls Tryz.prog 110 #[.pointer ou,.agg #[.slice x.p x.n x.c,.int .i64 x.pl,.int .i64 x.sp.a,.int .i64 x.sp.s,.int .i64 x.sp.b,.bool x.sp.lf,.bool x.sp.cr],.pointer lu] w' fun e w''=>∃ u,e=.returned (.pointer u)∧Hid (Tin w'' (.node o x l1) u)∧Below w0.heap.size w0 w''):=fun w' h=>br_at h ((ho.ext hb0).ext h) ((h2.ext hb0).ext h) (by simp only [wt_app,wt_cons];omega)
 have B2:Hid (∀ u w',Hid (Tin w' (.node o x l1) u)→Below w0.heap.size w0 w'→Calls Tryz.prog 110 #[.pointer u,.agg #[.slice y.p y.n y.c,.int .i64 y.pl,.int .i64 y.sp.a,.int .i64 y.sp.s,.int .i64 y.sp.b,.bool y.sp.lf,.bool y.sp.cr],.pointer ru] w' fun e w''=>∃ u,e=.returned (.pointer u)∧Hid (Tin w'' (.node (.node o x l1) y l2) u)∧Below w0.heap.size w0 w''):=fun u w' ht h=>br_at h ht.out ((h3.ext hb0).ext h) (by simp only [Tr.list,wt_app,wt_cons];omega)
 have hle:(l1.ht:Int)≤(l2.ht:Int):=by omega
 clear hg ho hw h0 h1 h2 h3 b3 b4 b5 b6 hb0
 generalize l1.ht=m1 at *
 generalize l2.ht=m2 at *
 go_enter Tryz.func142,Tryz.ntmps142
 go_wp2_with (first | (go_at_call_of 132 lu;refine (VL.out _ (by repeat (first | exact Below.refl _ _ | refine zxa ?_ _ | apply Below.drew))).mono ?_;rintro e w1 ⟨rfl,rfl⟩) | (go_at_call_of 132 ru;refine (VR.out _ (by repeat (first | exact Below.refl _ _ | refine zxa ?_ _ | apply Below.drew))).mono ?_;rintro e w1 ⟨rfl,rfl⟩))
 rw [← hw0]
 clear hw0
 have HB:Hid (Below w0.heap.size w0 w0):=Below.refl _ _
 go_region_held3 (fun w'=>(w'.cell? ⟨w.heap.size,0,none⟩=some (.slice x.p x.n x.c)∧w'.cell? ⟨w.heap.size,1,none⟩=some (.int .i64 x.pl)∧w'.cell? ⟨w.heap.size,2,none⟩=some (.int .i64 x.sp.a)∧w'.cell? ⟨w.heap.size,3,none⟩=some (.int .i64 x.sp.s)∧w'.cell? ⟨w.heap.size,4,none⟩=some (.int .i64 x.sp.b)∧w'.cell? ⟨w.heap.size,5,none⟩=some (.bool x.sp.lf)∧w'.cell? ⟨w.heap.size,6,none⟩=some (.bool x.sp.cr))∧True∧(w'.cell? ⟨g,0,none⟩=some (.slice y.p y.n y.c)∧w'.cell? ⟨g,1,none⟩=some (.int .i64 y.pl)∧w'.cell? ⟨g,2,none⟩=some (.int .i64 y.sp.a)∧w'.cell? ⟨g,3,none⟩=some (.int .i64 y.sp.s)∧w'.cell? ⟨g,4,none⟩=some (.int .i64 y.sp.b)∧w'.cell? ⟨g,5,none⟩=some (.bool y.sp.lf)∧w'.cell? ⟨g,6,none⟩=some (.bool y.sp.cr))∧True∧w'.cell? ⟨g,7,none⟩=some (.pointer lu)∧w'.cell? ⟨g,8,none⟩=some (.pointer ru)) (go_keep) (first
  | (go_at_call_of 110 ou;refine (B1.out _ (by repeat (first | exact HB.out | apply Below.drew))).mono ?_;rintro e w1 ⟨u1,rfl,T1,hb1⟩;clear hq0 hq1 hq2 hq3 hq4 hq5 HB;have HB:Hid (Below w0.heap.size w0 w1):=hb1;obtain ⟨hq0,hq1,hq2,hq3,hq4,hq5⟩:=HC.out w1 hb1;clear hb1)
  | (go_at_call_of 110 ru;refine (B2.out _ _ T1 (by repeat (first | exact HB.out | apply Below.drew))).mono ?_;rintro e w1 ⟨u2,rfl,T2,hb1⟩;clear hq0 hq1 hq2 hq3 hq4 hq5 HB;have HB:Hid (Below w0.heap.size w0 w1):=hb1;obtain ⟨hq0,hq1,hq2,hq3,hq4,hq5⟩:=HC.out w1 hb1;clear hb1))
 go_wp2_with fail
 go_ret
 exact ⟨_,_,rfl,T2.out,HM.out,zxt HB0.out HB.out⟩
set_option maxHeartbeats 2000000 in
theorem turn_left2 (l1:Tr It) (a b:Tr It) (z:It) (y:It) (o:Tr It) (x:It) (gu ou:Option Addr) (w:World) (hg:Tin w (.node (.node a z b) y l1) gu) (ho:Tin w o ou) (hw:wt (o.list ++ x :: ((a.list ++ z :: b.list) ++ y :: l1.list))≤4611686018427387904) (h0:o.ht + 1 < (Tr.node (.node a z b) y l1).ht) (h1:l1.ht < (Tr.node a z b).ht) :
  Calls Tryz.prog 142 #[.pointer ou,.agg #[.slice x.p x.n x.c,.int .i64 x.pl,.int .i64 x.sp.a,.int .i64 x.sp.s,.int .i64 x.sp.b,.bool x.sp.lf,.bool x.sp.cr],.pointer gu] w fun e w'=>∃ u t,e=.returned (.pointer u)∧Tin w' t u∧Made t o x (.node (.node a z b) y l1)∧Below w.heap.size w w':=by
 have HM:=Made.left2 (x:=x) h0 h1
 have HM:Hid _:=HM
 obtain ⟨g,ru,lu,rfl,hgl,h3,h2,c0,c1,c3,c2⟩:=hg.lt
 have h3':=h3
 obtain ⟨g2,au,bu,rfl,hgl2,h4,h5,d0,d1,d2,d3⟩:=h3.lt
 obtain ⟨w0,hw0⟩:∃ w0,w0=w.alloc (.cells #[.slice x.p x.n x.c,.int .i64 x.pl,.int .i64 x.sp.a,.int .i64 x.sp.s,.int .i64 x.sp.b,.bool x.sp.lf,.bool x.sp.cr] 97):=⟨_,rfl⟩
 have hb0:Below w.heap.size w w0:=by rw [hw0];exact zxa (Below.refl _ _) _
 have HB0:Hid (Below w.heap.size w w0):=hb0
 have hsz:w.heap.size < w0.heap.size:=by first | trivial | (rw [hw0];simp)
 have hq0:(w0.cell? ⟨w.heap.size,0,none⟩=some (.slice x.p x.n x.c)∧w0.cell? ⟨w.heap.size,1,none⟩=some (.int .i64 x.pl)∧w0.cell? ⟨w.heap.size,2,none⟩=some (.int .i64 x.sp.a)∧w0.cell? ⟨w.heap.size,3,none⟩=some (.int .i64 x.sp.s)∧w0.cell? ⟨w.heap.size,4,none⟩=some (.int .i64 x.sp.b)∧w0.cell? ⟨w.heap.size,5,none⟩=some (.bool x.sp.lf)∧w0.cell? ⟨w.heap.size,6,none⟩=some (.bool x.sp.cr)):=by first | trivial | (rw [hw0];simp)
 have hq1:True:=by first | trivial | (rw [hw0];simp)
 have hq2:(w0.cell? ⟨g,0,none⟩=some (.slice y.p y.n y.c)∧w0.cell? ⟨g,1,none⟩=some (.int .i64 y.pl)∧w0.cell? ⟨g,2,none⟩=some (.int .i64 y.sp.a)∧w0.cell? ⟨g,3,none⟩=some (.int .i64 y.sp.s)∧w0.cell? ⟨g,4,none⟩=some (.int .i64 y.sp.b)∧w0.cell? ⟨g,5,none⟩=some (.bool y.sp.lf)∧w0.cell? ⟨g,6,none⟩=some (.bool y.sp.cr)):=C7.ext hb0 hgl c0
 have hq3:True:=trivial
 have hq4:w0.cell? ⟨g,8,none⟩=some (.pointer lu):=(hb0.cell (p:=⟨g,8,none⟩) hgl).trans c2
 have hq5:w0.cell? ⟨g,7,none⟩=some (.pointer (some ⟨g2,0,none⟩)):=(hb0.cell (p:=⟨g,7,none⟩) hgl).trans c3
 have hq6:(w0.cell? ⟨g2,0,none⟩=some (.slice z.p z.n z.c)∧w0.cell? ⟨g2,1,none⟩=some (.int .i64 z.pl)∧w0.cell? ⟨g2,2,none⟩=some (.int .i64 z.sp.a)∧w0.cell? ⟨g2,3,none⟩=some (.int .i64 z.sp.s)∧w0.cell? ⟨g2,4,none⟩=some (.int .i64 z.sp.b)∧w0.cell? ⟨g2,5,none⟩=some (.bool z.sp.lf)∧w0.cell? ⟨g2,6,none⟩=some (.bool z.sp.cr)):=C7.ext hb0 hgl2 d0
 have hq7:True:=trivial
 have hq8:w0.cell? ⟨g2,7,none⟩=some (.pointer au):=(hb0.cell (p:=⟨g2,7,none⟩) hgl2).trans d2
 have hq9:w0.cell? ⟨g2,8,none⟩=some (.pointer bu):=(hb0.cell (p:=⟨g2,8,none⟩) hgl2).trans d3
 have HC:Hid (∀ w',Below w0.heap.size w0 w'→C7s w' w.heap.size x∧True∧C7s w' g y∧True∧w'.cell? ⟨g,8,none⟩=some (.pointer lu)∧w'.cell? ⟨g,7,none⟩=some (.pointer (some ⟨g2,0,none⟩))∧C7s w' g2 z∧True∧w'.cell? ⟨g2,7,none⟩=some (.pointer au)∧w'.cell? ⟨g2,8,none⟩=some (.pointer bu)):=fun w' h=>⟨(by first | trivial | exact C7.ext h hsz hq0 | exact C5.ext h hsz hq0 | exact (h.cell (p:=⟨w.heap.size,0,none⟩) hsz).trans hq0 | exact (h.cell (p:=⟨w.heap.size,0,none⟩) hsz).trans hq0),(by first | trivial | exact C7.ext h hsz hq1 | exact C5.ext h hsz hq1 | exact (h.cell (p:=⟨w.heap.size,1,none⟩) hsz).trans hq1 | exact (h.cell (p:=⟨w.heap.size,1,none⟩) hsz).trans hq1),(by first | trivial | exact C7.ext h (Nat.lt_trans hgl hsz) hq2 | exact C5.ext h (Nat.lt_trans hgl hsz) hq2 | exact (h.cell (p:=⟨g,0,none⟩) (Nat.lt_trans hgl hsz)).trans hq2 | exact (h.cell (p:=⟨g,0,none⟩) (Nat.lt_trans hgl hsz)).trans hq2),(by first | trivial | exact C7.ext h (Nat.lt_trans hgl hsz) hq3 | exact C5.ext h (Nat.lt_trans hgl hsz) hq3 | exact (h.cell (p:=⟨g,1,none⟩) (Nat.lt_trans hgl hsz)).trans hq3 | exact (h.cell (p:=⟨g,1,none⟩) (Nat.lt_trans hgl hsz)).trans hq3),(by first | trivial | exact C7.ext h (Nat.lt_trans hgl hsz) hq4 | exact C5.ext h (Nat.lt_trans hgl hsz) hq4 | exact (h.cell (p:=⟨g,8,none⟩) (Nat.lt_trans hgl hsz)).trans hq4 | exact (h.cell (p:=⟨g,3,none⟩) (Nat.lt_trans hgl hsz)).trans hq4),(by first | trivial | exact C7.ext h (Nat.lt_trans hgl hsz) hq5 | exact C5.ext h (Nat.lt_trans hgl hsz) hq5 | exact (h.cell (p:=⟨g,7,none⟩) (Nat.lt_trans hgl hsz)).trans hq5 | exact (h.cell (p:=⟨g,2,none⟩) (Nat.lt_trans hgl hsz)).trans hq5),(by first | trivial | exact C7.ext h (Nat.lt_trans hgl2 hsz) hq6 | exact C5.ext h (Nat.lt_trans hgl2 hsz) hq6 | exact (h.cell (p:=⟨g2,0,none⟩) (Nat.lt_trans hgl2 hsz)).trans hq6 | exact (h.cell (p:=⟨g2,0,none⟩) (Nat.lt_trans hgl2 hsz)).trans hq6),(by first | trivial | exact C7.ext h (Nat.lt_trans hgl2 hsz) hq7 | exact C5.ext h (Nat.lt_trans hgl2 hsz) hq7 | exact (h.cell (p:=⟨g2,1,none⟩) (Nat.lt_trans hgl2 hsz)).trans hq7 | exact (h.cell (p:=⟨g2,1,none⟩) (Nat.lt_trans hgl2 hsz)).trans hq7),(by first | trivial | exact C7.ext h (Nat.lt_trans hgl2 hsz) hq8 | exact C5.ext h (Nat.lt_trans hgl2 hsz) hq8 | exact (h.cell (p:=⟨g2,7,none⟩) (Nat.lt_trans hgl2 hsz)).trans hq8 | exact (h.cell (p:=⟨g2,2,none⟩) (Nat.lt_trans hgl2 hsz)).trans hq8),(by first | trivial | exact C7.ext h (Nat.lt_trans hgl2 hsz) hq9 | exact C5.ext h (Nat.lt_trans hgl2 hsz) hq9 | exact (h.cell (p:=⟨g2,8,none⟩) (Nat.lt_trans hgl2 hsz)).trans hq9 | exact (h.cell (p:=⟨g2,3,none⟩) (Nat.lt_trans hgl2 hsz)).trans hq9)⟩
 have b3:=l1.ht_le
 have b4:=(Tr.node a z b).ht_le
 have b5:=wt_len l1.list
 have b6:=wt_len (Tr.node a z b).list
 simp only [Tr.list] at b4 b6
 simp only [wt_app,wt_cons] at hw b6
 have VL:Hid (∀ w',Below w.heap.size w w'→Calls Tryz.prog 132 #[.pointer lu] w' fun e w''=>e=.returned (.int .i64 l1.ht)∧w''=w'):=fun w' h=>levels_any l1 lu w' (h2.ext h)
 have VR:Hid (∀ w',Below w.heap.size w w'→Calls Tryz.prog 132 #[.pointer (some ⟨g2,0,none⟩)] w' fun e w''=>e=.returned (.int .i64 (Tr.node a z b).ht)∧w''=w'):=fun w' h=>levels_any (Tr.node a z b) _ w' (h3'.ext h)
 have B1:Hid (∀ w',Below w0.heap.size w0 w'→Calls Tryz.prog 110 #[.pointer ou,.agg #[.slice x.p x.n x.c,.int .i64 x.pl,.int .i64 x.sp.a,.int .i64 x.sp.s,.int .i64 x.sp.b,.bool x.sp.lf,.bool x.sp.cr],.pointer au] w' fun e w''=>∃ u,e=.returned (.pointer u)∧Hid (Tin w'' (.node o x a) u)∧Below w0.heap.size w0 w''):=fun w' h=>br_at h ((ho.ext hb0).ext h) ((h4.ext hb0).ext h) (by simp only [wt_app,wt_cons];omega)
 have B2:Hid (∀ u w',Hid (Tin w' (.node o x a) u)→Below w0.heap.size w0 w'→Calls Tryz.prog 110 #[.pointer bu,.agg #[.slice y.p y.n y.c,.int .i64 y.pl,.int .i64 y.sp.a,.int .i64 y.sp.s,.int .i64 y.sp.b,.bool y.sp.lf,.bool y.sp.cr],.pointer lu] w' fun e w''=>∃ v,e=.returned (.pointer v)∧Hid (Tin w'' (.node b y l1) v∧Tin w'' (.node o x a) u)∧Below w0.heap.size w0 w''):=fun u w' ht h=>(branch_any b l1 y bu lu w' ((h5.ext hb0).ext h) ((h2.ext hb0).ext h) (by simp only [wt_app,wt_cons];omega)).mono fun _ _ ⟨v,k1,k2,k3⟩=>⟨v,k1,⟨k2,ht.out.ext k3⟩,zxt h k3⟩
 have B3:Hid (∀ u v w',Hid (Tin w' (.node b y l1) v∧Tin w' (.node o x a) u)→Below w0.heap.size w0 w'→Calls Tryz.prog 110 #[.pointer u,.agg #[.slice z.p z.n z.c,.int .i64 z.pl,.int .i64 z.sp.a,.int .i64 z.sp.s,.int .i64 z.sp.b,.bool z.sp.lf,.bool z.sp.cr],.pointer v] w' fun e w''=>∃ u,e=.returned (.pointer u)∧Hid (Tin w'' (.node (.node o x a) z (.node b y l1)) u)∧Below w0.heap.size w0 w''):=fun u v w' ht h=>br_at h ht.out.2 ht.out.1 (by simp only [Tr.list,wt_app,wt_cons];omega)
 have hlt:(l1.ht:Int) < ((Tr.node a z b).ht:Int):=by omega
 have hge:¬ ((Tr.node a z b).ht:Int)≤(l1.ht:Int):=by omega
 clear hg ho hw h0 h1 h2 h3 h3' h4 h5 b3 b4 b5 b6 hb0
 generalize l1.ht=m1 at *
 generalize (Tr.node a z b).ht=m2 at *
 go_enter Tryz.func142,Tryz.ntmps142
 go_wp2_with (first | (go_at_call_of 132 lu;refine (VL.out _ (by repeat (first | exact Below.refl _ _ | refine zxa ?_ _ | apply Below.drew))).mono ?_;rintro e w1 ⟨rfl,rfl⟩) | (go_at_call_of 132 g2;refine (VR.out _ (by repeat (first | exact Below.refl _ _ | refine zxa ?_ _ | apply Below.drew))).mono ?_;rintro e w1 ⟨rfl,rfl⟩))
 rw [← hw0]
 clear hw0
 have HB:Hid (Below w0.heap.size w0 w0):=Below.refl _ _
 go_region_held3 (fun w'=>(w'.cell? ⟨w.heap.size,0,none⟩=some (.slice x.p x.n x.c)∧w'.cell? ⟨w.heap.size,1,none⟩=some (.int .i64 x.pl)∧w'.cell? ⟨w.heap.size,2,none⟩=some (.int .i64 x.sp.a)∧w'.cell? ⟨w.heap.size,3,none⟩=some (.int .i64 x.sp.s)∧w'.cell? ⟨w.heap.size,4,none⟩=some (.int .i64 x.sp.b)∧w'.cell? ⟨w.heap.size,5,none⟩=some (.bool x.sp.lf)∧w'.cell? ⟨w.heap.size,6,none⟩=some (.bool x.sp.cr))∧True∧(w'.cell? ⟨g,0,none⟩=some (.slice y.p y.n y.c)∧w'.cell? ⟨g,1,none⟩=some (.int .i64 y.pl)∧w'.cell? ⟨g,2,none⟩=some (.int .i64 y.sp.a)∧w'.cell? ⟨g,3,none⟩=some (.int .i64 y.sp.s)∧w'.cell? ⟨g,4,none⟩=some (.int .i64 y.sp.b)∧w'.cell? ⟨g,5,none⟩=some (.bool y.sp.lf)∧w'.cell? ⟨g,6,none⟩=some (.bool y.sp.cr))∧True∧w'.cell? ⟨g,8,none⟩=some (.pointer lu)∧w'.cell? ⟨g,7,none⟩=some (.pointer (some ⟨g2,0,none⟩))∧(w'.cell? ⟨g2,0,none⟩=some (.slice z.p z.n z.c)∧w'.cell? ⟨g2,1,none⟩=some (.int .i64 z.pl)∧w'.cell? ⟨g2,2,none⟩=some (.int .i64 z.sp.a)∧w'.cell? ⟨g2,3,none⟩=some (.int .i64 z.sp.s)∧w'.cell? ⟨g2,4,none⟩=some (.int .i64 z.sp.b)∧w'.cell? ⟨g2,5,none⟩=some (.bool z.sp.lf)∧w'.cell? ⟨g2,6,none⟩=some (.bool z.sp.cr))∧True∧w'.cell? ⟨g2,7,none⟩=some (.pointer au)∧w'.cell? ⟨g2,8,none⟩=some (.pointer bu)) (go_keep) (first
  | (go_at_call_of 110 ou;refine (B1.out _ (by repeat (first | exact HB.out | apply Below.drew))).mono ?_;rintro e w1 ⟨u1,rfl,T1,hb1⟩;clear hq0 hq1 hq2 hq3 hq4 hq5 hq6 hq7 hq8 hq9 HB;have HB:Hid (Below w0.heap.size w0 w1):=hb1;obtain ⟨hq0,hq1,hq2,hq3,hq4,hq5,hq6,hq7,hq8,hq9⟩:=HC.out w1 hb1;clear hb1)
  | (go_at_call_of 110 lu;refine (B2.out _ _ T1 (by repeat (first | exact HB.out | apply Below.drew))).mono ?_;rintro e w1 ⟨u2,rfl,T2,hb1⟩;clear hq0 hq1 hq2 hq3 hq4 hq5 hq6 hq7 hq8 hq9 HB;have HB:Hid (Below w0.heap.size w0 w1):=hb1;obtain ⟨hq0,hq1,hq2,hq3,hq4,hq5,hq6,hq7,hq8,hq9⟩:=HC.out w1 hb1;clear hb1)
  | (go_at_call_of 110 z;refine (B3.out _ _ _ T2 (by repeat (first | exact HB.out | apply Below.drew))).mono ?_;rintro e w1 ⟨u3,rfl,T3,hb1⟩;clear hq0 hq1 hq2 hq3 hq4 hq5 hq6 hq7 hq8 hq9 HB;have HB:Hid (Below w0.heap.size w0 w1):=hb1;obtain ⟨hq0,hq1,hq2,hq3,hq4,hq5,hq6,hq7,hq8,hq9⟩:=HC.out w1 hb1;clear hb1))
 go_wp2_with fail
 go_ret
 exact ⟨_,_,rfl,T3.out,HM.out,zxt HB0.out HB.out⟩
end Go.Proofs.YtdhciadajendnaaGreat.P
