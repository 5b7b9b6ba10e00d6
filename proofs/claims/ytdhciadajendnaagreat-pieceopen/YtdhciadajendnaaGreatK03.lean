import Derived.Test.YtdhciadajendnaaGreatK02
set_option maxRecDepth 100000
namespace Go.Proofs.YtdhciadajendnaaGreat.P
open Go.RowKit
theorem turnRight_any (l r:Tr It) (x:It) (lu ru:Option Addr) (w:World) (hl:Tin w l lu) (hr:Tin w r ru) (hw:wt (l.list ++ x :: r.list)≤4611686018427387904) (h0:r.ht + 1 < l.ht) :
  Calls Tryz.prog 141 #[.pointer lu,.agg #[.slice x.p x.n x.c,.int .i64 x.pl,.int .i64 x.sp.a,.int .i64 x.sp.s,.int .i64 x.sp.b,.bool x.sp.lf,.bool x.sp.cr],.pointer ru] w fun e w'=>∃ u t,e=.returned (.pointer u)∧Tin w' t u∧Made t l x r∧Below w.heap.size w w':=by
 obtain ⟨l1,y,l2,rfl⟩:=Tr.ht_pos (t:=l) (by omega)
 by_cases h1:l2.ht≤l1.ht
 ·exact turn_right1 l1 l2 y r x lu ru w hl hr hw h0 h1
 ·obtain ⟨a,z,b,rfl⟩:=Tr.ht_pos (t:=l2) (by omega)
  exact turn_right2 l1 a b z y r x lu ru w hl hr hw h0 (by omega)
theorem turnLeft_any (l r:Tr It) (x:It) (lu ru:Option Addr) (w:World) (hl:Tin w l lu) (hr:Tin w r ru) (hw:wt (l.list ++ x :: r.list)≤4611686018427387904) (h0:l.ht + 1 < r.ht) :
  Calls Tryz.prog 142 #[.pointer lu,.agg #[.slice x.p x.n x.c,.int .i64 x.pl,.int .i64 x.sp.a,.int .i64 x.sp.s,.int .i64 x.sp.b,.bool x.sp.lf,.bool x.sp.cr],.pointer ru] w fun e w'=>∃ u t,e=.returned (.pointer u)∧Tin w' t u∧Made t l x r∧Below w.heap.size w w':=by
 obtain ⟨l1,y,l2,rfl⟩:=Tr.ht_pos (t:=r) (by omega)
 by_cases h1:l1.ht≤l2.ht
 ·exact turn_left1 l1 l2 y l x ru lu w hr hl hw h0 h1
 ·obtain ⟨a,z,b,rfl⟩:=Tr.ht_pos (t:=l1) (by omega)
  exact turn_left2 l2 a b z y l x ru lu w hr hl hw h0 (by omega)
set_option maxHeartbeats 2000000 in
theorem level_hi (l r:Tr It) (x:It) (lu ru:Option Addr) (w:World) (hl:Tin w l lu) (hr:Tin w r ru) (hw:wt (l.list ++ x :: r.list)≤4611686018427387904) (h0:r.ht + 1 < l.ht) :
  Calls Tryz.prog 140 #[.pointer lu,.agg #[.slice x.p x.n x.c,.int .i64 x.pl,.int .i64 x.sp.a,.int .i64 x.sp.s,.int .i64 x.sp.b,.bool x.sp.lf,.bool x.sp.cr],.pointer ru] w fun e w'=>∃ u t,e=.returned (.pointer u)∧Tin w' t u∧Made t l x r∧Below w.heap.size w w':=by
 have b1:=l.ht_le
 have b2:=r.ht_le
 have b3:=wt_len l.list
 have b4:=wt_len r.list
 have hw2:=hw
 rw [wt_app,wt_cons] at hw2
 have e1:(l.ht:Int)≤4611686018427387904:=by omega
 have e2:(r.ht:Int)≤4611686018427387904:=by omega
 have VL:Hid (∀ w',Below w.heap.size w w'→Calls Tryz.prog 132 #[.pointer lu] w' fun e w''=>e=.returned (.int .i64 l.ht)∧w''=w'):=fun w' h=>levels_any l lu w' (hl.ext h)
 have VR:Hid (∀ w',Below w.heap.size w w'→Calls Tryz.prog 132 #[.pointer ru] w' fun e w''=>e=.returned (.int .i64 r.ht)∧w''=w'):=fun w' h=>levels_any r ru w' (hr.ext h)
 have CC:Hid (∀ w',Below w.heap.size w w'→Calls Tryz.prog 141 #[.pointer lu,.agg #[.slice x.p x.n x.c,.int .i64 x.pl,.int .i64 x.sp.a,.int .i64 x.sp.s,.int .i64 x.sp.b,.bool x.sp.lf,.bool x.sp.cr],.pointer ru] w' fun e w'=>∃ u t,e=.returned (.pointer u)∧Tin w' t u∧Made t l x r∧Below w.heap.size w w'):=fun w' h=>(turnRight_any l r x lu ru w' (hl.ext h) (hr.ext h) hw h0).mono fun _ _ ⟨u,t,k1,k2,k3,k4⟩=>⟨u,t,k1,k2,k3,zxt h k4⟩
 have t1:(1:Int) < (l.ht:Int) - (r.ht:Int):=by omega
 clear hl hr hw hw2 b1 b2 b3 b4
 generalize l.ht=m1 at *
 generalize r.ht=m2 at *
 go_enter Tryz.func140,Tryz.ntmps140
 go_wp2_with (first | (go_at_call_of 132 lu;refine (VL.out _ (by repeat (first | exact Below.refl _ _ | refine zxa ?_ _ | apply Below.drew))).mono ?_;rintro e w1 ⟨rfl,rfl⟩) | (go_at_call_of 132 ru;refine (VR.out _ (by repeat (first | exact Below.refl _ _ | refine zxa ?_ _ | apply Below.drew))).mono ?_;rintro e w1 ⟨rfl,rfl⟩) | (go_at_call 141;refine (CC.out _ (by repeat (first | exact Below.refl _ _ | refine zxa ?_ _ | apply Below.drew))).mono ?_;rintro e w1 ⟨u,t,rfl,h1,h2,h3⟩;have T1:Hid _:=h1;have T2:Hid _:=h2;have T3:Hid _:=h3;clear h1 h2 h3))
 go_ret
 exact ⟨_,_,rfl,T1.out,T2.out,T3.out⟩
set_option maxHeartbeats 2000000 in
theorem level_lo (l r:Tr It) (x:It) (lu ru:Option Addr) (w:World) (hl:Tin w l lu) (hr:Tin w r ru) (hw:wt (l.list ++ x :: r.list)≤4611686018427387904) (h0:l.ht + 1 < r.ht) :
  Calls Tryz.prog 140 #[.pointer lu,.agg #[.slice x.p x.n x.c,.int .i64 x.pl,.int .i64 x.sp.a,.int .i64 x.sp.s,.int .i64 x.sp.b,.bool x.sp.lf,.bool x.sp.cr],.pointer ru] w fun e w'=>∃ u t,e=.returned (.pointer u)∧Tin w' t u∧Made t l x r∧Below w.heap.size w w':=by
 have b1:=l.ht_le
 have b2:=r.ht_le
 have b3:=wt_len l.list
 have b4:=wt_len r.list
 have hw2:=hw
 rw [wt_app,wt_cons] at hw2
 have e1:(l.ht:Int)≤4611686018427387904:=by omega
 have e2:(r.ht:Int)≤4611686018427387904:=by omega
 have VL:Hid (∀ w',Below w.heap.size w w'→Calls Tryz.prog 132 #[.pointer lu] w' fun e w''=>e=.returned (.int .i64 l.ht)∧w''=w'):=fun w' h=>levels_any l lu w' (hl.ext h)
 have VR:Hid (∀ w',Below w.heap.size w w'→Calls Tryz.prog 132 #[.pointer ru] w' fun e w''=>e=.returned (.int .i64 r.ht)∧w''=w'):=fun w' h=>levels_any r ru w' (hr.ext h)
 have CC:Hid (∀ w',Below w.heap.size w w'→Calls Tryz.prog 142 #[.pointer lu,.agg #[.slice x.p x.n x.c,.int .i64 x.pl,.int .i64 x.sp.a,.int .i64 x.sp.s,.int .i64 x.sp.b,.bool x.sp.lf,.bool x.sp.cr],.pointer ru] w' fun e w'=>∃ u t,e=.returned (.pointer u)∧Tin w' t u∧Made t l x r∧Below w.heap.size w w'):=fun w' h=>(turnLeft_any l r x lu ru w' (hl.ext h) (hr.ext h) hw h0).mono fun _ _ ⟨u,t,k1,k2,k3,k4⟩=>⟨u,t,k1,k2,k3,zxt h k4⟩
 have t1:¬ (1:Int) < (l.ht:Int) - (r.ht:Int):=by omega
 have t2:(l.ht:Int) - (r.ht:Int) < -1:=by omega
 clear hl hr hw hw2 b1 b2 b3 b4
 generalize l.ht=m1 at *
 generalize r.ht=m2 at *
 go_enter Tryz.func140,Tryz.ntmps140
 go_wp2_with (first | (go_at_call_of 132 lu;refine (VL.out _ (by repeat (first | exact Below.refl _ _ | refine zxa ?_ _ | apply Below.drew))).mono ?_;rintro e w1 ⟨rfl,rfl⟩) | (go_at_call_of 132 ru;refine (VR.out _ (by repeat (first | exact Below.refl _ _ | refine zxa ?_ _ | apply Below.drew))).mono ?_;rintro e w1 ⟨rfl,rfl⟩) | (go_at_call 142;refine (CC.out _ (by repeat (first | exact Below.refl _ _ | refine zxa ?_ _ | apply Below.drew))).mono ?_;rintro e w1 ⟨u,t,rfl,h1,h2,h3⟩;have T1:Hid _:=h1;have T2:Hid _:=h2;have T3:Hid _:=h3;clear h1 h2 h3))
 go_ret
 exact ⟨_,_,rfl,T1.out,T2.out,T3.out⟩
set_option maxHeartbeats 2000000 in
theorem level_eq (l r:Tr It) (x:It) (lu ru:Option Addr) (w:World) (hl:Tin w l lu) (hr:Tin w r ru) (hw:wt (l.list ++ x :: r.list)≤4611686018427387904) (h0:l.ht≤r.ht + 1) (h1:r.ht≤l.ht + 1) :
  Calls Tryz.prog 140 #[.pointer lu,.agg #[.slice x.p x.n x.c,.int .i64 x.pl,.int .i64 x.sp.a,.int .i64 x.sp.s,.int .i64 x.sp.b,.bool x.sp.lf,.bool x.sp.cr],.pointer ru] w fun e w'=>∃ u t,e=.returned (.pointer u)∧Tin w' t u∧Made t l x r∧Below w.heap.size w w':=by
 have b1:=l.ht_le
 have b2:=r.ht_le
 have b3:=wt_len l.list
 have b4:=wt_len r.list
 have hw2:=hw
 rw [wt_app,wt_cons] at hw2
 have e1:(l.ht:Int)≤4611686018427387904:=by omega
 have e2:(r.ht:Int)≤4611686018427387904:=by omega
 have VL:Hid (∀ w',Below w.heap.size w w'→Calls Tryz.prog 132 #[.pointer lu] w' fun e w''=>e=.returned (.int .i64 l.ht)∧w''=w'):=fun w' h=>levels_any l lu w' (hl.ext h)
 have VR:Hid (∀ w',Below w.heap.size w w'→Calls Tryz.prog 132 #[.pointer ru] w' fun e w''=>e=.returned (.int .i64 r.ht)∧w''=w'):=fun w' h=>levels_any r ru w' (hr.ext h)
 have CC:Hid (∀ w',Below w.heap.size w w'→Calls Tryz.prog 110 #[.pointer lu,.agg #[.slice x.p x.n x.c,.int .i64 x.pl,.int .i64 x.sp.a,.int .i64 x.sp.s,.int .i64 x.sp.b,.bool x.sp.lf,.bool x.sp.cr],.pointer ru] w' fun e w'=>∃ u t,e=.returned (.pointer u)∧Tin w' t u∧Made t l x r∧Below w.heap.size w w'):=fun w' h=>(branch_any l r x lu ru w' (hl.ext h) (hr.ext h) hw).mono fun _ _ ⟨u,k1,k2,k4⟩=>⟨u,_,k1,k2,Made.branch h0 h1,zxt h k4⟩
 have t1:¬ (1:Int) < (l.ht:Int) - (r.ht:Int):=by omega
 have t2:¬ (l.ht:Int) - (r.ht:Int) < -1:=by omega
 clear hl hr hw hw2 b1 b2 b3 b4
 generalize l.ht=m1 at *
 generalize r.ht=m2 at *
 go_enter Tryz.func140,Tryz.ntmps140
 go_wp2_with (first | (go_at_call_of 132 lu;refine (VL.out _ (by repeat (first | exact Below.refl _ _ | refine zxa ?_ _ | apply Below.drew))).mono ?_;rintro e w1 ⟨rfl,rfl⟩) | (go_at_call_of 132 ru;refine (VR.out _ (by repeat (first | exact Below.refl _ _ | refine zxa ?_ _ | apply Below.drew))).mono ?_;rintro e w1 ⟨rfl,rfl⟩) | (go_at_call 110;refine (CC.out _ (by repeat (first | exact Below.refl _ _ | refine zxa ?_ _ | apply Below.drew))).mono ?_;rintro e w1 ⟨u,t,rfl,h1,h2,h3⟩;have T1:Hid _:=h1;have T2:Hid _:=h2;have T3:Hid _:=h3;clear h1 h2 h3))
 go_ret
 exact ⟨_,_,rfl,T1.out,T2.out,T3.out⟩
theorem level_any (l r:Tr It) (x:It) (lu ru:Option Addr) (w:World) (hl:Tin w l lu) (hr:Tin w r ru) (hw:wt (l.list ++ x :: r.list)≤4611686018427387904) :
  Calls Tryz.prog 140 #[.pointer lu,.agg #[.slice x.p x.n x.c,.int .i64 x.pl,.int .i64 x.sp.a,.int .i64 x.sp.s,.int .i64 x.sp.b,.bool x.sp.lf,.bool x.sp.cr],.pointer ru] w fun e w'=>∃ u t,e=.returned (.pointer u)∧Tin w' t u∧Made t l x r∧Below w.heap.size w w':=by
 by_cases h1:r.ht + 1 < l.ht
 ·exact level_hi l r x lu ru w hl hr hw h1
 by_cases h2:l.ht + 1 < r.ht
 ·exact level_lo l r x lu ru w hl hr hw h2
 ·exact level_eq l r x lu ru w hl hr hw (by omega) (by omega)
set_option maxHeartbeats 2000000 in
theorem join_eq (l r:Tr It) (x:It) (lu ru:Option Addr) (w:World) (hl:Tin w l lu) (hr:Tin w r ru) (hw:wt (l.list ++ x :: r.list)≤4611686018427387904) (h0:l.ht≤r.ht + 1) (h1:r.ht≤l.ht + 1) :
  Calls Tryz.prog 136 #[.pointer lu,.agg #[.slice x.p x.n x.c,.int .i64 x.pl,.int .i64 x.sp.a,.int .i64 x.sp.s,.int .i64 x.sp.b,.bool x.sp.lf,.bool x.sp.cr],.pointer ru] w fun e w'=>∃ u t,e=.returned (.pointer u)∧Tin w' t u∧Joined t l x r∧Below w.heap.size w w':=by
 have b1:=l.ht_le
 have b2:=r.ht_le
 have b3:=wt_len l.list
 have b4:=wt_len r.list
 have hw2:=hw
 rw [wt_app,wt_cons] at hw2
 have e1:(l.ht:Int)≤4611686018427387904:=by omega
 have e2:(r.ht:Int)≤4611686018427387904:=by omega
 have VL:Hid (∀ w',Below w.heap.size w w'→Calls Tryz.prog 132 #[.pointer lu] w' fun e w''=>e=.returned (.int .i64 l.ht)∧w''=w'):=fun w' h=>levels_any l lu w' (hl.ext h)
 have VR:Hid (∀ w',Below w.heap.size w w'→Calls Tryz.prog 132 #[.pointer ru] w' fun e w''=>e=.returned (.int .i64 r.ht)∧w''=w'):=fun w' h=>levels_any r ru w' (hr.ext h)
 have CC:Hid (∀ w',Below w.heap.size w w'→Calls Tryz.prog 110 #[.pointer lu,.agg #[.slice x.p x.n x.c,.int .i64 x.pl,.int .i64 x.sp.a,.int .i64 x.sp.s,.int .i64 x.sp.b,.bool x.sp.lf,.bool x.sp.cr],.pointer ru] w' fun e w'=>∃ u t,e=.returned (.pointer u)∧Tin w' t u∧Joined t l x r∧Below w.heap.size w w'):=fun w' h=>(branch_any l r x lu ru w' (hl.ext h) (hr.ext h) hw).mono fun _ _ ⟨u,k1,k2,k4⟩=>⟨u,_,k1,k2,Joined.branch h0 h1,zxt h k4⟩
 have t1:¬ (1:Int) < (l.ht:Int) - (r.ht:Int):=by omega
 have t2:¬ (l.ht:Int) - (r.ht:Int) < -1:=by omega
 clear hl hr hw hw2 b1 b2 b3 b4
 generalize l.ht=m1 at *
 generalize r.ht=m2 at *
 go_enter Tryz.func136,Tryz.ntmps136
 go_wp2_with (first | (go_at_call_of 132 lu;refine (VL.out _ (by repeat (first | exact Below.refl _ _ | refine zxa ?_ _ | apply Below.drew))).mono ?_;rintro e w1 ⟨rfl,rfl⟩) | (go_at_call_of 132 ru;refine (VR.out _ (by repeat (first | exact Below.refl _ _ | refine zxa ?_ _ | apply Below.drew))).mono ?_;rintro e w1 ⟨rfl,rfl⟩) | (go_at_call 110;refine (CC.out _ (by repeat (first | exact Below.refl _ _ | refine zxa ?_ _ | apply Below.drew))).mono ?_;rintro e w1 ⟨u,t,rfl,h1,h2,h3⟩;have T1:Hid _:=h1;have T2:Hid _:=h2;have T3:Hid _:=h3;clear h1 h2 h3))
 go_ret
 exact ⟨_,_,rfl,T1.out,T2.out,T3.out⟩
set_option maxHeartbeats 2000000 in
theorem join_hi (l1 l2 o:Tr It) (y x:It) (gu ou:Option Addr) (w:World) (hg:Tin w (.node l1 y l2) gu) (ho:Tin w o ou) (hw:wt ((l1.list ++ y :: l2.list) ++ x :: o.list)≤4611686018427387904) (h0:o.ht + 1 < (Tr.node l1 y l2).ht)
  (ih:∀ (au bu:Option Addr) (w:World),Tin w l2 au→Tin w o bu→wt (l2.list ++ x :: o.list)≤4611686018427387904→Calls Tryz.prog 136 #[.pointer au,.agg #[.slice x.p x.n x.c,.int .i64 x.pl,.int .i64 x.sp.a,.int .i64 x.sp.s,.int .i64 x.sp.b,.bool x.sp.lf,.bool x.sp.cr],.pointer bu] w fun e w'=>∃ u t,e=.returned (.pointer u)∧Tin w' t u∧Joined t l2 x o∧Below w.heap.size w w') :
  Calls Tryz.prog 136 #[.pointer gu,.agg #[.slice x.p x.n x.c,.int .i64 x.pl,.int .i64 x.sp.a,.int .i64 x.sp.s,.int .i64 x.sp.b,.bool x.sp.lf,.bool x.sp.cr],.pointer ou] w fun e w'=>∃ u t,e=.returned (.pointer u)∧Tin w' t u∧Joined t (.node l1 y l2) x o∧Below w.heap.size w w':=by
 have b1:=o.ht_le
 have b2:=(Tr.node l1 y l2).ht_le
 have b3:=wt_len o.list
 have b4:=wt_len (Tr.node l1 y l2).list
 simp only [Tr.list] at b2 b4
 simp only [wt_app,wt_cons] at hw b4
 have hg':=hg
 obtain ⟨g,lu,ru,rfl,hgl,h2,h3,c0,c1,c2,c3⟩:=hg.lt
 obtain ⟨w0,hw0⟩:∃ w0,w0=w.alloc (.cells #[.slice x.p x.n x.c,.int .i64 x.pl,.int .i64 x.sp.a,.int .i64 x.sp.s,.int .i64 x.sp.b,.bool x.sp.lf,.bool x.sp.cr] 97):=⟨_,rfl⟩
 have hb0:Below w.heap.size w w0:=by rw [hw0];exact zxa (Below.refl _ _) _
 have HB0:Hid (Below w.heap.size w w0):=hb0
 have hsz:w.heap.size < w0.heap.size:=by first | trivial | (rw [hw0];simp)
 have hq0:(w0.cell? ⟨w.heap.size,0,none⟩=some (.slice x.p x.n x.c)∧w0.cell? ⟨w.heap.size,1,none⟩=some (.int .i64 x.pl)∧w0.cell? ⟨w.heap.size,2,none⟩=some (.int .i64 x.sp.a)∧w0.cell? ⟨w.heap.size,3,none⟩=some (.int .i64 x.sp.s)∧w0.cell? ⟨w.heap.size,4,none⟩=some (.int .i64 x.sp.b)∧w0.cell? ⟨w.heap.size,5,none⟩=some (.bool x.sp.lf)∧w0.cell? ⟨w.heap.size,6,none⟩=some (.bool x.sp.cr)):=by first | trivial | (rw [hw0];simp)
 have hq1:True:=by first | trivial | (rw [hw0];simp)
 have hq2:(w0.cell? ⟨g,0,none⟩=some (.slice y.p y.n y.c)∧w0.cell? ⟨g,1,none⟩=some (.int .i64 y.pl)∧w0.cell? ⟨g,2,none⟩=some (.int .i64 y.sp.a)∧w0.cell? ⟨g,3,none⟩=some (.int .i64 y.sp.s)∧w0.cell? ⟨g,4,none⟩=some (.int .i64 y.sp.b)∧w0.cell? ⟨g,5,none⟩=some (.bool y.sp.lf)∧w0.cell? ⟨g,6,none⟩=some (.bool y.sp.cr)):=C7.ext hb0 hgl c0
 have hq3:True:=trivial
 have hq4:w0.cell? ⟨g,7,none⟩=some (.pointer lu):=(hb0.cell (p:=⟨g,7,none⟩) hgl).trans c2
 have hq5:w0.cell? ⟨g,8,none⟩=some (.pointer ru):=(hb0.cell (p:=⟨g,8,none⟩) hgl).trans c3
 have HC:Hid (∀ w',Below w0.heap.size w0 w'→C7s w' w.heap.size x∧True∧C7s w' g y∧True∧w'.cell? ⟨g,7,none⟩=some (.pointer lu)∧w'.cell? ⟨g,8,none⟩=some (.pointer ru)):=fun w' h=>⟨(by first | trivial | exact C7.ext h hsz hq0 | exact C5.ext h hsz hq0 | exact (h.cell (p:=⟨w.heap.size,0,none⟩) hsz).trans hq0 | exact (h.cell (p:=⟨w.heap.size,0,none⟩) hsz).trans hq0),(by first | trivial | exact C7.ext h hsz hq1 | exact C5.ext h hsz hq1 | exact (h.cell (p:=⟨w.heap.size,1,none⟩) hsz).trans hq1 | exact (h.cell (p:=⟨w.heap.size,1,none⟩) hsz).trans hq1),(by first | trivial | exact C7.ext h (Nat.lt_trans hgl hsz) hq2 | exact C5.ext h (Nat.lt_trans hgl hsz) hq2 | exact (h.cell (p:=⟨g,0,none⟩) (Nat.lt_trans hgl hsz)).trans hq2 | exact (h.cell (p:=⟨g,0,none⟩) (Nat.lt_trans hgl hsz)).trans hq2),(by first | trivial | exact C7.ext h (Nat.lt_trans hgl hsz) hq3 | exact C5.ext h (Nat.lt_trans hgl hsz) hq3 | exact (h.cell (p:=⟨g,1,none⟩) (Nat.lt_trans hgl hsz)).trans hq3 | exact (h.cell (p:=⟨g,1,none⟩) (Nat.lt_trans hgl hsz)).trans hq3),(by first | trivial | exact C7.ext h (Nat.lt_trans hgl hsz) hq4 | exact C5.ext h (Nat.lt_trans hgl hsz) hq4 | exact (h.cell (p:=⟨g,7,none⟩) (Nat.lt_trans hgl hsz)).trans hq4 | exact (h.cell (p:=⟨g,2,none⟩) (Nat.lt_trans hgl hsz)).trans hq4),(by first | trivial | exact C7.ext h (Nat.lt_trans hgl hsz) hq5 | exact C5.ext h (Nat.lt_trans hgl hsz) hq5 | exact (h.cell (p:=⟨g,8,none⟩) (Nat.lt_trans hgl hsz)).trans hq5 | exact (h.cell (p:=⟨g,3,none⟩) (Nat.lt_trans hgl hsz)).trans hq5)⟩
 have VL:Hid (∀ w',Below w.heap.size w w'→Calls Tryz.prog 132 #[.pointer (some ⟨g,0,none⟩)] w' fun e w''=>e=.returned (.int .i64 (Tr.node l1 y l2).ht)∧w''=w'):=fun w' h=>levels_any (Tr.node l1 y l2) _ w' (hg'.ext h)
 have VR:Hid (∀ w',Below w.heap.size w w'→Calls Tryz.prog 132 #[.pointer ou] w' fun e w''=>e=.returned (.int .i64 o.ht)∧w''=w'):=fun w' h=>levels_any o ou w' (ho.ext h)
 have J:Hid (∀ w',Below w0.heap.size w0 w'→Calls Tryz.prog 136 #[.pointer ru,.agg #[.slice x.p x.n x.c,.int .i64 x.pl,.int .i64 x.sp.a,.int .i64 x.sp.s,.int .i64 x.sp.b,.bool x.sp.lf,.bool x.sp.cr],.pointer ou] w' fun e w''=>∃ u,e=.returned (.pointer u)∧Hid (∃ t,Tin w'' t u∧Joined t l2 x o)∧Below w0.heap.size w0 w''):=fun w' h=>(ih ru ou w' ((h3.ext hb0).ext h) ((ho.ext hb0).ext h) (by simp only [wt_app,wt_cons];omega)).mono fun _ _ ⟨u,t,k1,k2,k3,k4⟩=>⟨u,k1,⟨t,k2,k3⟩,zxt h k4⟩
 have LV:Hid (∀ u w',Hid (∃ t,Tin w' t u∧Joined t l2 x o)→Below w0.heap.size w0 w'→Calls Tryz.prog 140 #[.pointer lu,.agg #[.slice y.p y.n y.c,.int .i64 y.pl,.int .i64 y.sp.a,.int .i64 y.sp.s,.int .i64 y.sp.b,.bool y.sp.lf,.bool y.sp.cr],.pointer u] w' fun e w''=>∃ u,e=.returned (.pointer u)∧Hid (∃ t,Tin w'' t u∧Joined t (.node l1 y l2) x o)∧Below w0.heap.size w0 w''):=fun u w' ht h=>by
  obtain ⟨t,k1,k2⟩:=ht.out
  exact (level_any l1 t y lu u w' ((h2.ext hb0).ext h) k1 (by rw [k2.list];simp only [wt_app,wt_cons];omega)).mono fun _ _ ⟨u,t',q1,q2,q3,q4⟩=>⟨u,q1,⟨t',q2,Joined.downL h0 k2 q3⟩,zxt h q4⟩
 have e1:(o.ht:Int)≤4611686018427387904:=by omega
 have e2:((Tr.node l1 y l2).ht:Int)≤4611686018427387904:=by omega
 have t1:(1:Int) < ((Tr.node l1 y l2).ht:Int) - (o.ht:Int):=by omega
 clear hg hg' ho hw h0 h2 h3 b1 b2 b3 b4 hb0 ih
 generalize o.ht=m1 at *
 generalize (Tr.node l1 y l2).ht=m2 at *
 go_enter Tryz.func136,Tryz.ntmps136
 go_wp2_with (first | (go_at_call_of 132 g;refine (VL.out _ (by repeat (first | exact Below.refl _ _ | refine zxa ?_ _ | apply Below.drew))).mono ?_;rintro e w1 ⟨rfl,rfl⟩) | (go_at_call_of 132 ou;refine (VR.out _ (by repeat (first | exact Below.refl _ _ | refine zxa ?_ _ | apply Below.drew))).mono ?_;rintro e w1 ⟨rfl,rfl⟩))
 rw [← hw0]
 clear hw0
 have HB:Hid (Below w0.heap.size w0 w0):=Below.refl _ _
 go_region_held3 (fun w'=>(w'.cell? ⟨w.heap.size,0,none⟩=some (.slice x.p x.n x.c)∧w'.cell? ⟨w.heap.size,1,none⟩=some (.int .i64 x.pl)∧w'.cell? ⟨w.heap.size,2,none⟩=some (.int .i64 x.sp.a)∧w'.cell? ⟨w.heap.size,3,none⟩=some (.int .i64 x.sp.s)∧w'.cell? ⟨w.heap.size,4,none⟩=some (.int .i64 x.sp.b)∧w'.cell? ⟨w.heap.size,5,none⟩=some (.bool x.sp.lf)∧w'.cell? ⟨w.heap.size,6,none⟩=some (.bool x.sp.cr))∧True∧(w'.cell? ⟨g,0,none⟩=some (.slice y.p y.n y.c)∧w'.cell? ⟨g,1,none⟩=some (.int .i64 y.pl)∧w'.cell? ⟨g,2,none⟩=some (.int .i64 y.sp.a)∧w'.cell? ⟨g,3,none⟩=some (.int .i64 y.sp.s)∧w'.cell? ⟨g,4,none⟩=some (.int .i64 y.sp.b)∧w'.cell? ⟨g,5,none⟩=some (.bool y.sp.lf)∧w'.cell? ⟨g,6,none⟩=some (.bool y.sp.cr))∧True∧w'.cell? ⟨g,7,none⟩=some (.pointer lu)∧w'.cell? ⟨g,8,none⟩=some (.pointer ru)) (go_keep) (first
  | (go_at_call_of 136 x;refine (J.out _ (by repeat (first | exact HB.out | apply Below.drew))).mono ?_;rintro e w1 ⟨u1,rfl,T1,hb1⟩;clear hq0 hq1 hq2 hq3 hq4 hq5 HB;have HB:Hid (Below w0.heap.size w0 w1):=hb1;obtain ⟨hq0,hq1,hq2,hq3,hq4,hq5⟩:=HC.out w1 hb1;clear hb1)
  | (go_at_call_of 140 lu;refine (LV.out _ _ T1 (by repeat (first | exact HB.out | apply Below.drew))).mono ?_;rintro e w1 ⟨u2,rfl,T2,hb1⟩;clear hq0 hq1 hq2 hq3 hq4 hq5 HB;have HB:Hid (Below w0.heap.size w0 w1):=hb1;obtain ⟨hq0,hq1,hq2,hq3,hq4,hq5⟩:=HC.out w1 hb1;clear hb1))
 go_wp2_with fail
 go_ret
 obtain ⟨t,k1,k2⟩:=T2.out
 exact ⟨_,t,rfl,k1,k2,zxt HB0.out HB.out⟩
set_option maxHeartbeats 2000000 in
theorem join_lo (l1 l2 o:Tr It) (y x:It) (gu ou:Option Addr) (w:World) (hg:Tin w (.node l1 y l2) gu) (ho:Tin w o ou) (hw:wt (o.list ++ x :: (l1.list ++ y :: l2.list))≤4611686018427387904) (h0:o.ht + 1 < (Tr.node l1 y l2).ht)
  (ih:∀ (au bu:Option Addr) (w:World),Tin w o au→Tin w l1 bu→wt (o.list ++ x :: l1.list)≤4611686018427387904→Calls Tryz.prog 136 #[.pointer au,.agg #[.slice x.p x.n x.c,.int .i64 x.pl,.int .i64 x.sp.a,.int .i64 x.sp.s,.int .i64 x.sp.b,.bool x.sp.lf,.bool x.sp.cr],.pointer bu] w fun e w'=>∃ u t,e=.returned (.pointer u)∧Tin w' t u∧Joined t o x l1∧Below w.heap.size w w') :
  Calls Tryz.prog 136 #[.pointer ou,.agg #[.slice x.p x.n x.c,.int .i64 x.pl,.int .i64 x.sp.a,.int .i64 x.sp.s,.int .i64 x.sp.b,.bool x.sp.lf,.bool x.sp.cr],.pointer gu] w fun e w'=>∃ u t,e=.returned (.pointer u)∧Tin w' t u∧Joined t o x (.node l1 y l2)∧Below w.heap.size w w':=by
 have b1:=o.ht_le
 have b2:=(Tr.node l1 y l2).ht_le
 have b3:=wt_len o.list
 have b4:=wt_len (Tr.node l1 y l2).list
 simp only [Tr.list] at b2 b4
 simp only [wt_app,wt_cons] at hw b4
 have hg':=hg
 obtain ⟨g,lu,ru,rfl,hgl,h2,h3,c0,c1,c2,c3⟩:=hg.lt
 obtain ⟨w0,hw0⟩:∃ w0,w0=w.alloc (.cells #[.slice x.p x.n x.c,.int .i64 x.pl,.int .i64 x.sp.a,.int .i64 x.sp.s,.int .i64 x.sp.b,.bool x.sp.lf,.bool x.sp.cr] 97):=⟨_,rfl⟩
 have hb0:Below w.heap.size w w0:=by rw [hw0];exact zxa (Below.refl _ _) _
 have HB0:Hid (Below w.heap.size w w0):=hb0
 have hsz:w.heap.size < w0.heap.size:=by first | trivial | (rw [hw0];simp)
 have hq0:(w0.cell? ⟨w.heap.size,0,none⟩=some (.slice x.p x.n x.c)∧w0.cell? ⟨w.heap.size,1,none⟩=some (.int .i64 x.pl)∧w0.cell? ⟨w.heap.size,2,none⟩=some (.int .i64 x.sp.a)∧w0.cell? ⟨w.heap.size,3,none⟩=some (.int .i64 x.sp.s)∧w0.cell? ⟨w.heap.size,4,none⟩=some (.int .i64 x.sp.b)∧w0.cell? ⟨w.heap.size,5,none⟩=some (.bool x.sp.lf)∧w0.cell? ⟨w.heap.size,6,none⟩=some (.bool x.sp.cr)):=by first | trivial | (rw [hw0];simp)
 have hq1:True:=by first | trivial | (rw [hw0];simp)
 have hq2:(w0.cell? ⟨g,0,none⟩=some (.slice y.p y.n y.c)∧w0.cell? ⟨g,1,none⟩=some (.int .i64 y.pl)∧w0.cell? ⟨g,2,none⟩=some (.int .i64 y.sp.a)∧w0.cell? ⟨g,3,none⟩=some (.int .i64 y.sp.s)∧w0.cell? ⟨g,4,none⟩=some (.int .i64 y.sp.b)∧w0.cell? ⟨g,5,none⟩=some (.bool y.sp.lf)∧w0.cell? ⟨g,6,none⟩=some (.bool y.sp.cr)):=C7.ext hb0 hgl c0
 have hq3:True:=trivial
 have hq4:w0.cell? ⟨g,7,none⟩=some (.pointer lu):=(hb0.cell (p:=⟨g,7,none⟩) hgl).trans c2
 have hq5:w0.cell? ⟨g,8,none⟩=some (.pointer ru):=(hb0.cell (p:=⟨g,8,none⟩) hgl).trans c3
 have HC:Hid (∀ w',Below w0.heap.size w0 w'→C7s w' w.heap.size x∧True∧C7s w' g y∧True∧w'.cell? ⟨g,7,none⟩=some (.pointer lu)∧w'.cell? ⟨g,8,none⟩=some (.pointer ru)):=fun w' h=>⟨(by first | trivial | exact C7.ext h hsz hq0 | exact C5.ext h hsz hq0 | exact (h.cell (p:=⟨w.heap.size,0,none⟩) hsz).trans hq0 | exact (h.cell (p:=⟨w.heap.size,0,none⟩) hsz).trans hq0),(by first | trivial | exact C7.ext h hsz hq1 | exact C5.ext h hsz hq1 | exact (h.cell (p:=⟨w.heap.size,1,none⟩) hsz).trans hq1 | exact (h.cell (p:=⟨w.heap.size,1,none⟩) hsz).trans hq1),(by first | trivial | exact C7.ext h (Nat.lt_trans hgl hsz) hq2 | exact C5.ext h (Nat.lt_trans hgl hsz) hq2 | exact (h.cell (p:=⟨g,0,none⟩) (Nat.lt_trans hgl hsz)).trans hq2 | exact (h.cell (p:=⟨g,0,none⟩) (Nat.lt_trans hgl hsz)).trans hq2),(by first | trivial | exact C7.ext h (Nat.lt_trans hgl hsz) hq3 | exact C5.ext h (Nat.lt_trans hgl hsz) hq3 | exact (h.cell (p:=⟨g,1,none⟩) (Nat.lt_trans hgl hsz)).trans hq3 | exact (h.cell (p:=⟨g,1,none⟩) (Nat.lt_trans hgl hsz)).trans hq3),(by first | trivial | exact C7.ext h (Nat.lt_trans hgl hsz) hq4 | exact C5.ext h (Nat.lt_trans hgl hsz) hq4 | exact (h.cell (p:=⟨g,7,none⟩) (Nat.lt_trans hgl hsz)).trans hq4 | exact (h.cell (p:=⟨g,2,none⟩) (Nat.lt_trans hgl hsz)).trans hq4),(by first | trivial | exact C7.ext h (Nat.lt_trans hgl hsz) hq5 | exact C5.ext h (Nat.lt_trans hgl hsz) hq5 | exact (h.cell (p:=⟨g,8,none⟩) (Nat.lt_trans hgl hsz)).trans hq5 | exact (h.cell (p:=⟨g,3,none⟩) (Nat.lt_trans hgl hsz)).trans hq5)⟩
 have VL:Hid (∀ w',Below w.heap.size w w'→Calls Tryz.prog 132 #[.pointer (some ⟨g,0,none⟩)] w' fun e w''=>e=.returned (.int .i64 (Tr.node l1 y l2).ht)∧w''=w'):=fun w' h=>levels_any (Tr.node l1 y l2) _ w' (hg'.ext h)
 have VR:Hid (∀ w',Below w.heap.size w w'→Calls Tryz.prog 132 #[.pointer ou] w' fun e w''=>e=.returned (.int .i64 o.ht)∧w''=w'):=fun w' h=>levels_any o ou w' (ho.ext h)
 have J:Hid (∀ w',Below w0.heap.size w0 w'→Calls Tryz.prog 136 #[.pointer ou,.agg #[.slice x.p x.n x.c,.int .i64 x.pl,.int .i64 x.sp.a,.int .i64 x.sp.s,.int .i64 x.sp.b,.bool x.sp.lf,.bool x.sp.cr],.pointer lu] w' fun e w''=>∃ u,e=.returned (.pointer u)∧Hid (∃ t,Tin w'' t u∧Joined t o x l1)∧Below w0.heap.size w0 w''):=fun w' h=>(ih ou lu w' ((ho.ext hb0).ext h) ((h2.ext hb0).ext h) (by simp only [wt_app,wt_cons];omega)).mono fun _ _ ⟨u,t,k1,k2,k3,k4⟩=>⟨u,k1,⟨t,k2,k3⟩,zxt h k4⟩
 have LV:Hid (∀ u w',Hid (∃ t,Tin w' t u∧Joined t o x l1)→Below w0.heap.size w0 w'→Calls Tryz.prog 140 #[.pointer u,.agg #[.slice y.p y.n y.c,.int .i64 y.pl,.int .i64 y.sp.a,.int .i64 y.sp.s,.int .i64 y.sp.b,.bool y.sp.lf,.bool y.sp.cr],.pointer ru] w' fun e w''=>∃ u,e=.returned (.pointer u)∧Hid (∃ t,Tin w'' t u∧Joined t o x (.node l1 y l2))∧Below w0.heap.size w0 w''):=fun u w' ht h=>by
  obtain ⟨t,k1,k2⟩:=ht.out
  exact (level_any t l2 y u ru w' k1 ((h3.ext hb0).ext h) (by rw [k2.list];simp only [wt_app,wt_cons];omega)).mono fun _ _ ⟨u,t',q1,q2,q3,q4⟩=>⟨u,q1,⟨t',q2,Joined.downR h0 k2 q3⟩,zxt h q4⟩
 have e1:(o.ht:Int)≤4611686018427387904:=by omega
 have e2:((Tr.node l1 y l2).ht:Int)≤4611686018427387904:=by omega
 have t1:¬ (1:Int) < (o.ht:Int) - ((Tr.node l1 y l2).ht:Int):=by omega
 have t2:(o.ht:Int) - ((Tr.node l1 y l2).ht:Int) < -1:=by omega
 clear hg hg' ho hw h0 h2 h3 b1 b2 b3 b4 hb0 ih
 generalize o.ht=m1 at *
 generalize (Tr.node l1 y l2).ht=m2 at *
 go_enter Tryz.func136,Tryz.ntmps136
 go_wp2_with (first | (go_at_call_of 132 g;refine (VL.out _ (by repeat (first | exact Below.refl _ _ | refine zxa ?_ _ | apply Below.drew))).mono ?_;rintro e w1 ⟨rfl,rfl⟩) | (go_at_call_of 132 ou;refine (VR.out _ (by repeat (first | exact Below.refl _ _ | refine zxa ?_ _ | apply Below.drew))).mono ?_;rintro e w1 ⟨rfl,rfl⟩))
 rw [← hw0]
 clear hw0
 have HB:Hid (Below w0.heap.size w0 w0):=Below.refl _ _
 go_region_held3 (fun w'=>(w'.cell? ⟨w.heap.size,0,none⟩=some (.slice x.p x.n x.c)∧w'.cell? ⟨w.heap.size,1,none⟩=some (.int .i64 x.pl)∧w'.cell? ⟨w.heap.size,2,none⟩=some (.int .i64 x.sp.a)∧w'.cell? ⟨w.heap.size,3,none⟩=some (.int .i64 x.sp.s)∧w'.cell? ⟨w.heap.size,4,none⟩=some (.int .i64 x.sp.b)∧w'.cell? ⟨w.heap.size,5,none⟩=some (.bool x.sp.lf)∧w'.cell? ⟨w.heap.size,6,none⟩=some (.bool x.sp.cr))∧True∧(w'.cell? ⟨g,0,none⟩=some (.slice y.p y.n y.c)∧w'.cell? ⟨g,1,none⟩=some (.int .i64 y.pl)∧w'.cell? ⟨g,2,none⟩=some (.int .i64 y.sp.a)∧w'.cell? ⟨g,3,none⟩=some (.int .i64 y.sp.s)∧w'.cell? ⟨g,4,none⟩=some (.int .i64 y.sp.b)∧w'.cell? ⟨g,5,none⟩=some (.bool y.sp.lf)∧w'.cell? ⟨g,6,none⟩=some (.bool y.sp.cr))∧True∧w'.cell? ⟨g,7,none⟩=some (.pointer lu)∧w'.cell? ⟨g,8,none⟩=some (.pointer ru)) (go_keep) (first
  | (go_at_call_of 136 x;refine (J.out _ (by repeat (first | exact HB.out | apply Below.drew))).mono ?_;rintro e w1 ⟨u1,rfl,T1,hb1⟩;clear hq0 hq1 hq2 hq3 hq4 hq5 HB;have HB:Hid (Below w0.heap.size w0 w1):=hb1;obtain ⟨hq0,hq1,hq2,hq3,hq4,hq5⟩:=HC.out w1 hb1;clear hb1)
  | (go_at_call_of 140 ru;refine (LV.out _ _ T1 (by repeat (first | exact HB.out | apply Below.drew))).mono ?_;rintro e w1 ⟨u2,rfl,T2,hb1⟩;clear hq0 hq1 hq2 hq3 hq4 hq5 HB;have HB:Hid (Below w0.heap.size w0 w1):=hb1;obtain ⟨hq0,hq1,hq2,hq3,hq4,hq5⟩:=HC.out w1 hb1;clear hb1))
 go_wp2_with fail
 go_ret
 obtain ⟨t,k1,k2⟩:=T2.out
 exact ⟨_,t,rfl,k1,k2,zxt HB0.out HB.out⟩
theorem join_any (n:Nat):∀ (l r:Tr It) (x:It) (lu ru:Option Addr) (w:World),l.list.length + r.list.length≤n→Tin w l lu→Tin w r ru→wt (l.list ++ x :: r.list)≤4611686018427387904 →
  Calls Tryz.prog 136 #[.pointer lu,.agg #[.slice x.p x.n x.c,.int .i64 x.pl,.int .i64 x.sp.a,.int .i64 x.sp.s,.int .i64 x.sp.b,.bool x.sp.lf,.bool x.sp.cr],.pointer ru] w fun e w'=>∃ u t,e=.returned (.pointer u)∧Tin w' t u∧Joined t l x r∧Below w.heap.size w w':=by
 induction n with
 | zero =>
   intro l r x lu ru w hn hl hr hw
   have h1:=l.ht_le
   have h2:=r.ht_le
   exact join_eq l r x lu ru w hl hr hw (by omega) (by omega)
 | succ n ih =>
   intro l r x lu ru w hn hl hr hw
   by_cases h1:r.ht + 1 < l.ht
   ·obtain ⟨l1,y,l2,rfl⟩:=Tr.ht_pos (t:=l) (by omega)
    refine join_hi l1 l2 r y x lu ru w hl hr hw h1 (fun au bu w' ha hb hw'=>ih l2 r x au bu w' ?_ ha hb hw')
    simp only [Tr.list,List.length_append,List.length_cons] at hn
    omega
   by_cases h2:l.ht + 1 < r.ht
   ·obtain ⟨l1,y,l2,rfl⟩:=Tr.ht_pos (t:=r) (by omega)
    refine join_lo l1 l2 l y x ru lu w hr hl hw h2 (fun au bu w' ha hb hw'=>ih l l1 x au bu w' ?_ ha hb hw')
    simp only [Tr.list,List.length_append,List.length_cons] at hn
    omega
   ·exact join_eq l r x lu ru w hl hr hw (by omega) (by omega)
end Go.Proofs.YtdhciadajendnaaGreat.P
