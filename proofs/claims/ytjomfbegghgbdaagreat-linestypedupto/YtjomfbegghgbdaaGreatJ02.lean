import Derived.Test.YtjomfbegghgbdaaGreatJ00
import Derived.Test.YtjomfbegghgbdaaGreatJ01
import Derived.Deep.RegionHeld3
namespace Go.Proofs.YtjomfbegghgbdaaGreat.P
open Go.RowKit
set_option maxRecDepth 100000 in
set_option maxHeartbeats 2000000 in
theorem branch_any (l r:Tr It) (x:It) (lu ru:Option Addr) (w:World) (hl:Tin w l lu) (hr:Tin w r ru) (hw:wt (l.list ++ x :: r.list)≤4611686018427387904) :
  Calls Tryz.prog 136 #[.pointer lu,.agg #[.slice x.p x.n x.c,.int .i64 x.pl,.int .i64 x.sp.a,.int .i64 x.sp.s,.int .i64 x.sp.b,.bool x.sp.lf,.bool x.sp.cr],.pointer ru] w fun e w'=>∃ u,e=.returned (.pointer u)∧Tin w' (.node l x r) u∧Below w.heap.size w w':=by
 obtain ⟨w0,hw0⟩:∃ w0,w0=w.alloc (.cells #[.slice x.p x.n x.c,.int .i64 x.pl,.int .i64 x.sp.a,.int .i64 x.sp.s,.int .i64 x.sp.b,.bool x.sp.lf,.bool x.sp.cr] 113):=⟨_,rfl⟩
 have hb0:Below w.heap.size w w0:=by rw [hw0];exact ext_alloc (Below.refl _ _) _
 have HB0:Hid (Below w.heap.size w w0):=hb0
 have hsz:w.heap.size < w0.heap.size:=by first | trivial | (rw [hw0];simp)
 have hc1:(w0.cell? ⟨w.heap.size,0,none⟩=some (.slice x.p x.n x.c)∧w0.cell? ⟨w.heap.size,1,none⟩=some (.int .i64 x.pl)∧w0.cell? ⟨w.heap.size,2,none⟩=some (.int .i64 x.sp.a)∧w0.cell? ⟨w.heap.size,3,none⟩=some (.int .i64 x.sp.s)∧w0.cell? ⟨w.heap.size,4,none⟩=some (.int .i64 x.sp.b)∧w0.cell? ⟨w.heap.size,5,none⟩=some (.bool x.sp.lf)∧w0.cell? ⟨w.heap.size,6,none⟩=some (.bool x.sp.cr)):=by first | trivial | (rw [hw0];simp)
 have hc2:True:=by first | trivial | (rw [hw0];simp)
 have HC:Hid (∀ w',Below w0.heap.size w0 w'→(w'.cell? ⟨w.heap.size,0,none⟩=some (.slice x.p x.n x.c)∧w'.cell? ⟨w.heap.size,1,none⟩=some (.int .i64 x.pl)∧w'.cell? ⟨w.heap.size,2,none⟩=some (.int .i64 x.sp.a)∧w'.cell? ⟨w.heap.size,3,none⟩=some (.int .i64 x.sp.s)∧w'.cell? ⟨w.heap.size,4,none⟩=some (.int .i64 x.sp.b)∧w'.cell? ⟨w.heap.size,5,none⟩=some (.bool x.sp.lf)∧w'.cell? ⟨w.heap.size,6,none⟩=some (.bool x.sp.cr))∧True):=fun w' hw =>
  ⟨(by first | trivial | exact C7.ext hw hsz hc1 | exact C5.ext hw hsz hc1 | exact (hw.cell (p:=⟨w.heap.size,0,none⟩) hsz).trans hc1 | exact (hw.cell (p:=⟨w.heap.size,0,none⟩) hsz).trans hc1),(by first | trivial | exact C7.ext hw hsz hc2 | exact C5.ext hw hsz hc2 | exact (hw.cell (p:=⟨w.heap.size,1,none⟩) hsz).trans hc2 | exact (hw.cell (p:=⟨w.heap.size,1,none⟩) hsz).trans hc2)⟩
 have e1:=wt_app l.list (x :: r.list)
 rw [wt_cons] at e1
 have b1:=wt_len l.list
 have b2:=wt_len r.list
 have b3:=l.ht_le
 have b4:=r.ht_le
 have LL:=hl.ext hb0
 have RR:=hr.ext hb0
 have KL:Hid (∀ w',Below w0.heap.size w0 w'→Calls Tryz.prog 114 #[.pointer lu] w' fun e w''=>e=.returned (.int .i64 l.list.length)∧w''=w'):=fun w' h=>count_any l lu w' (LL.ext h)
 have KR:Hid (∀ w',Below w0.heap.size w0 w'→Calls Tryz.prog 114 #[.pointer ru] w' fun e w''=>e=.returned (.int .i64 r.list.length)∧w''=w'):=fun w' h=>count_any r ru w' (RR.ext h)
 have VL:Hid (∀ w',Below w0.heap.size w0 w'→Calls Tryz.prog 141 #[.pointer lu] w' fun e w''=>e=.returned (.int .i64 l.ht)∧w''=w'):=fun w' h=>levels_any l lu w' (LL.ext h)
 have VR:Hid (∀ w',Below w0.heap.size w0 w'→Calls Tryz.prog 141 #[.pointer ru] w' fun e w''=>e=.returned (.int .i64 r.ht)∧w''=w'):=fun w' h=>levels_any r ru w' (RR.ext h)
 have TL:Hid (∀ w',Below w0.heap.size w0 w'→Calls Tryz.prog 98 #[.pointer lu] w' fun e w''=>∃ s,Hid (s=rA.su l.list)∧e=.returned (.agg #[.int .i64 s.a,.int .i64 s.s,.int .i64 s.b,.bool s.lf,.bool s.cr])∧Below w0.heap.size w0 w''):=fun w' h=>(total_any l lu w' (LL.ext h)).mono fun _ _ ⟨s,h1,h2,h3⟩=>⟨s,h1,h2,ext_trans h h3⟩
 have TR:Hid (∀ w',Below w0.heap.size w0 w'→Calls Tryz.prog 98 #[.pointer ru] w' fun e w''=>∃ s,Hid (s=rA.su r.list)∧e=.returned (.agg #[.int .i64 s.a,.int .i64 s.s,.int .i64 s.b,.bool s.lf,.bool s.cr])∧Below w0.heap.size w0 w''):=fun w' h=>(total_any r ru w' (RR.ext h)).mono fun _ _ ⟨s,h1,h2,h3⟩=>⟨s,h1,h2,ext_trans h h3⟩
 have MM:Hid (∀ w',Below w0.heap.size w0 w'→Calls Tryz.prog 165 #[.agg #[.slice x.p x.n x.c,.int .i64 x.pl,.int .i64 x.sp.a,.int .i64 x.sp.s,.int .i64 x.sp.b,.bool x.sp.lf,.bool x.sp.cr]] w' fun e w''=>∃ s,Hid (s=rA.su [x])∧e=.returned (.agg #[.int .i64 s.a,.int .i64 s.s,.int .i64 s.b,.bool s.lf,.bool s.cr])∧Below w0.heap.size w0 w''):=fun w' h=>(Measure_any x w').mono fun _ _ ⟨s,h1,h2,h3⟩=>⟨s,h1.out.trans (su_one x).symm,h2,ext_trans h h3⟩
 have A1:Hid (∀ s t,Hid (s=rA.su l.list)→Hid (t=rA.su [x])→∀ w',Below w0.heap.size w0 w'→Calls Tryz.prog 83 #[.agg #[.int .i64 s.a,.int .i64 s.s,.int .i64 s.b,.bool s.lf,.bool s.cr],.agg #[.int .i64 t.a,.int .i64 t.s,.int .i64 t.b,.bool t.lf,.bool t.cr]] w' fun e w''=>∃ q,Hid (q=rA.su (l.list ++ [x]))∧e=.returned (.agg #[.int .i64 q.a,.int .i64 q.s,.int .i64 q.b,.bool q.lf,.bool q.cr])∧Below w0.heap.size w0 w''):=fun s t hs ht w' h=>(add_su _ _ s t w' hs ht (by rw [wt_app,wt_cons,wt_nil];omega)).mono fun _ _ ⟨s,h1,h2,h3⟩=>⟨s,h1,h2,ext_trans h h3⟩
 have A2:Hid (∀ s t,Hid (s=rA.su (l.list ++ [x]))→Hid (t=rA.su r.list)→∀ w',Below w0.heap.size w0 w'→Calls Tryz.prog 83 #[.agg #[.int .i64 s.a,.int .i64 s.s,.int .i64 s.b,.bool s.lf,.bool s.cr],.agg #[.int .i64 t.a,.int .i64 t.s,.int .i64 t.b,.bool t.lf,.bool t.cr]] w' fun e w''=>∃ q,Hid (q=rA.su (l.list ++ x :: r.list))∧e=.returned (.agg #[.int .i64 q.a,.int .i64 q.s,.int .i64 q.b,.bool q.lf,.bool q.cr])∧Below w0.heap.size w0 w''):=fun s t hs ht w' h=>(add_su _ _ s t w' hs ht (by simpa using hw)).mono fun _ _ ⟨s,h1,h2,h3⟩=>⟨s,by rw [List.append_assoc] at h1;exact h1,h2,ext_trans h h3⟩
 have HEND:Hid (∀ q w',Hid (q=rA.su (l.list ++ x :: r.list))→Below w0.heap.size w0 w'→Tin (w'.alloc (.cells (ndrow x lu ru (l.list.length + 1 + r.list.length) (max l.ht r.ht + 1) q) 163)) (.node l x r) (some ⟨w'.heap.size,0,none⟩)):=fun q w' hq h =>
  ⟨w'.heap.size,lu,ru,rfl,by rw [heap_alloc_new,hq.out,show l.list.length + 1 + r.list.length=(l.list ++ x :: r.list).length by simp;omega],(LL.ext h).ext (ext_alloc (Below.refl _ _) _),(RR.ext h).ext (ext_alloc (Below.refl _ _) _)⟩
 have hmt1:=m_meas
 have hmt2:=m_add
 have hnt1:=n_meas
 have hnt2:=n_add
 have hmax:max l.ht r.ht + 1≤4611686018427387905:=by omega
 have hsum:l.list.length + 1 + r.list.length≤4611686018427387904:=by omega
 clear hl hr hw LL RR e1 b1 b2 b3 b4 hb0
 generalize l.list.length=nl at *
 generalize r.list.length=nr at *
 generalize l.ht=hl at *
 generalize r.ht=hr at *
 generalize rA.su l.list=sl at *
 generalize rA.su r.list=sr at *
 generalize rA.su [x]=sx at *
 generalize rA.su (l.list ++ [x])=s1 at *
 generalize rA.su (l.list ++ x :: r.list)=s2 at *
 have hw1:IntKind.i64.wrap ((nl:Int) + 1)=((nl + 1:Nat):Int):=by rw [IntKind.wrap_i64];omega
 have hw2:IntKind.i64.wrap (((nl + 1:Nat):Int) + nr)=((nl + 1 + nr:Nat):Int):=by rw [IntKind.wrap_i64];omega
 have hw3:IntKind.i64.wrap (((max hl hr:Nat):Int) + 1)=((max hl hr + 1:Nat):Int):=by rw [IntKind.wrap_i64];omega
 obtain ⟨n1,hn1⟩:∃ n1:Nat,n1=nl + 1:=⟨_,rfl⟩
 obtain ⟨n2,hn2⟩:∃ n2:Nat,n2=n1 + nr:=⟨_,rfl⟩
 obtain ⟨h1,hh1⟩:∃ h1:Nat,h1=max hl hr:=⟨_,rfl⟩
 obtain ⟨h2,hh2⟩:∃ h2:Nat,h2=h1 + 1:=⟨_,rfl⟩
 have HH1:Hid (h1=max hl hr):=hh1
 rw [← hn1,← hn2,← hh1,← hh2] at HEND
 rw [← hn1] at hw1 hw2
 rw [← hn2] at hw2
 rw [← hh1,← hh2] at hw3
 clear hn1 hn2 hh1 hh2 hmax hsum
 go_enter Tryz.func136,Tryz.ntmps136
 go_wp2_with fail
 rw [← hw0]
 clear hw0
 have HB:Hid (Below w0.heap.size w0 w0):=Below.refl _ _
 refine wp_region_held_drew (S:=fun w'=>(w'.cell? ⟨w.heap.size,0,none⟩=some (.slice x.p x.n x.c)∧w'.cell? ⟨w.heap.size,1,none⟩=some (.int .i64 x.pl)∧w'.cell? ⟨w.heap.size,2,none⟩=some (.int .i64 x.sp.a)∧w'.cell? ⟨w.heap.size,3,none⟩=some (.int .i64 x.sp.s)∧w'.cell? ⟨w.heap.size,4,none⟩=some (.int .i64 x.sp.b)∧w'.cell? ⟨w.heap.size,5,none⟩=some (.bool x.sp.lf)∧w'.cell? ⟨w.heap.size,6,none⟩=some (.bool x.sp.cr))∧True) (by kernel_rfl) (by first | exact ⟨hc1,hc2⟩ | (dsimp only;go_keep)) (fun hHeld=>?_)
 refine tkH (v:=?_) 0 rfl ?_ ?_;rotate_left 1
 ·intro wq hSw;(try dsimp only at hSw);go_simp;try (with_reducible rfl)
 try simp only [Act.put,sA4]
 refine tkH (v:=?_) 1 rfl ?_ ?_;rotate_left 1
 ·intro wq hSw;(try dsimp only at hSw);go_simp;try (with_reducible rfl)
 try simp only [Act.put]
 refine tkH (v:=?_) 2 rfl ?_ ?_;rotate_left 1
 ·intro wq hSw;(try dsimp only at hSw);go_simp;try (with_reducible rfl)
 try simp only [Act.put]
 refine tkH (v:=?_) 3 rfl ?_ ?_;rotate_left 1
 ·intro wq hSw;(try dsimp only at hSw);go_simp;try (with_reducible rfl)
 try simp only [Act.put]
 refine tkH (v:=?_) 6 rfl ?_ ?_;rotate_left 1
 ·intro wq hSw;(try dsimp only at hSw);go_simp;try (with_reducible rfl)
 try simp only [Act.put]
 refine tkH (v:=?_) 9 rfl ?_ ?_;rotate_left 1
 ·intro wq hSw;(try dsimp only at hSw);go_simp;try (with_reducible rfl)
 try simp only [Act.put]
 refine tkH (v:=?_) 11 rfl ?_ ?_;rotate_left 1
 ·intro wq hSw;(try dsimp only at hSw);go_simp;try (with_reducible rfl)
 try simp only [Act.put]
 refine tkH (v:=?_) 15 rfl ?_ ?_;rotate_left 1
 ·intro wq hSw;(try dsimp only at hSw);go_simp;try (with_reducible rfl)
 try simp only [Act.put]
 refine tkH (v:=?_) 18 rfl ?_ ?_;rotate_left 1
 ·intro wq hSw;(try dsimp only at hSw);go_simp;try (with_reducible rfl)
 try simp only [Act.put]
 refine tkH (v:=?_) 19 rfl ?_ ?_;rotate_left 1
 ·intro wq hSw;(try dsimp only at hSw);go_simp;try (with_reducible rfl)
 try simp only [Act.put]
 refine tkH (v:=?_) 23 rfl ?_ ?_;rotate_left 1
 ·intro wq hSw;(try dsimp only at hSw);go_simp;try (with_reducible rfl)
 try simp only [Act.put]
 refine wpAnyH_ready (rs:=[4]) (by kernel_rfl) (by simp) ?_
 refine AllReadyH.cons (o:=_) rfl (fun K hK=>?_) AllReadyH.nil
 go_simp
 refine (KL.out _ (by repeat (first | exact HB.out | apply Below.drew))).mono ?_;rintro e w1 ⟨rfl,rfl⟩;try go_wp2_with fail
 refine hK.out _ _ (by first | exact ⟨hc1,hc2⟩ | (dsimp only;go_keep)) (fun hHeld=>?_)
 clear hK K
 try simp only [Act.put,sA4,sA5,sA6]
 refine tkH (v:=?_) 5 rfl ?_ ?_;rotate_left 1
 ·intro wq hSw;(try dsimp only at hSw);go_simp;try (with_reducible rfl)
 try simp only [Act.put,sA4]
 refine wpAnyH_ready (rs:=[7]) (by kernel_rfl) (by simp) ?_
 refine AllReadyH.cons (o:=_) rfl (fun K hK=>?_) AllReadyH.nil
 go_simp
 refine (KR.out _ (by repeat (first | exact HB.out | apply Below.drew))).mono ?_;rintro e w1 ⟨rfl,rfl⟩;try go_wp2_with fail
 refine hK.out _ _ (by first | exact ⟨hc1,hc2⟩ | (dsimp only;go_keep)) (fun hHeld=>?_)
 clear hK K
 try simp only [Act.put,sA4,sA5,sA6]
 refine tkH (v:=?_) 8 rfl ?_ ?_;rotate_left 1
 ·intro wq hSw;(try dsimp only at hSw);go_simp;try (with_reducible rfl)
 try simp only [Act.put,sA4]
 refine wpAnyH_ready (rs:=[10]) (by kernel_rfl) (by simp) ?_
 refine AllReadyH.cons (o:=_) rfl (fun K hK=>?_) AllReadyH.nil
 go_simp
 refine (VL.out _ (by repeat (first | exact HB.out | apply Below.drew))).mono ?_;rintro e w1 ⟨rfl,rfl⟩;try go_wp2_with fail
 refine hK.out _ _ (by first | exact ⟨hc1,hc2⟩ | (dsimp only;go_keep)) (fun hHeld=>?_)
 clear hK K
 try simp only [Act.put,sA4,sA5,sA6]
 refine wpAnyH_ready (rs:=[12]) (by kernel_rfl) (by simp) ?_
 refine AllReadyH.cons (o:=_) rfl (fun K hK=>?_) AllReadyH.nil
 go_simp
 refine (VR.out _ (by repeat (first | exact HB.out | apply Below.drew))).mono ?_;rintro e w1 ⟨rfl,rfl⟩;try go_wp2_with fail
 refine hK.out _ _ (by first | exact ⟨hc1,hc2⟩ | (dsimp only;go_keep)) (fun hHeld=>?_)
 clear hK K
 try simp only [Act.put,sA4,sA5,sA6]
 refine wpAnyH_take (i:=13) (oi:=_) (v:=Value.int .i64 (h1:Int)) rfl (by kernel_rfl) (by kernel_rfl) (by kernel_rfl) (fun _ _ _ h=>h) (Or.inl ⟨by rfl,?_⟩) (by assumption) ?_
 ·intro wq hSw;(try dsimp only at hSw);go_simp;(try split) <;> (have:=HH1.out;congr 3;omega)
 try simp only [Act.put,sA4]
 refine tkH (v:=?_) 14 rfl ?_ ?_;rotate_left 1
 ·intro wq hSw;(try dsimp only at hSw);go_simp;try (with_reducible rfl)
 try simp only [Act.put]
 refine wpAnyH_ready (rs:=[16]) (by kernel_rfl) (by simp) ?_
 refine AllReadyH.cons (o:=_) rfl (fun K hK=>?_) AllReadyH.nil
 go_simp
 refine (TL.out _ (by repeat (first | exact HB.out | apply Below.drew))).mono ?_;rintro e w1 ⟨q1,HL,rfl,hb1⟩;clear hc1 hc2 HB hHeld;have HB:Hid (Below w0.heap.size w0 w1):=hb1;obtain ⟨hc1,hc2⟩:=HC.out w1 hb1;clear hb1;try go_wp2_with fail
 refine hK.out _ _ (by first | exact ⟨hc1,hc2⟩ | (dsimp only;go_keep)) (fun hHeld=>?_)
 clear hK K
 try simp only [Act.put,sA4,sA5,sA6]
 refine tkH (v:=?_) 17 rfl ?_ ?_;rotate_left 1
 ·intro wq hSw;(try dsimp only at hSw);go_simp;try (with_reducible rfl)
 try simp only [Act.put,sA4]
 refine wpAnyH_ready (rs:=[20]) (by kernel_rfl) (by simp) ?_
 refine AllReadyH.cons (o:=_) rfl (fun K hK=>?_) AllReadyH.nil
 go_simp
 refine (MM.out _ (by repeat (first | exact HB.out | apply Below.drew))).mono ?_;rintro e w1 ⟨q3,HM,rfl,hb1⟩;clear hc1 hc2 HB hHeld;have HB:Hid (Below w0.heap.size w0 w1):=hb1;obtain ⟨hc1,hc2⟩:=HC.out w1 hb1;clear hb1;try go_wp2_with fail
 refine hK.out _ _ (by first | exact ⟨hc1,hc2⟩ | (dsimp only;go_keep)) (fun hHeld=>?_)
 clear hK K
 try simp only [Act.put,sA4,sA5,sA6]
 refine wpAnyH_ready (rs:=[21]) (by kernel_rfl) (by simp) ?_
 refine AllReadyH.cons (o:=_) rfl (fun K hK=>?_) AllReadyH.nil
 go_simp
 refine (A1.out _ _ HL HM _ (by repeat (first | exact HB.out | apply Below.drew))).mono ?_;rintro e w1 ⟨q4,H1,rfl,hb1⟩;clear hc1 hc2 HB hHeld;have HB:Hid (Below w0.heap.size w0 w1):=hb1;obtain ⟨hc1,hc2⟩:=HC.out w1 hb1;clear hb1;try go_wp2_with fail
 refine hK.out _ _ (by first | exact ⟨hc1,hc2⟩ | (dsimp only;go_keep)) (fun hHeld=>?_)
 clear hK K
 try simp only [Act.put,sA4,sA5,sA6]
 refine tkH (v:=?_) 22 rfl ?_ ?_;rotate_left 1
 ·intro wq hSw;(try dsimp only at hSw);go_simp;try (with_reducible rfl)
 try simp only [Act.put,sA4]
 refine wpAnyH_ready (rs:=[24]) (by kernel_rfl) (by simp) ?_
 refine AllReadyH.cons (o:=_) rfl (fun K hK=>?_) AllReadyH.nil
 go_simp
 refine (TR.out _ (by repeat (first | exact HB.out | apply Below.drew))).mono ?_;rintro e w1 ⟨q2,HR,rfl,hb1⟩;clear hc1 hc2 HB hHeld;have HB:Hid (Below w0.heap.size w0 w1):=hb1;obtain ⟨hc1,hc2⟩:=HC.out w1 hb1;clear hb1;try go_wp2_with fail
 refine hK.out _ _ (by first | exact ⟨hc1,hc2⟩ | (dsimp only;go_keep)) (fun hHeld=>?_)
 clear hK K
 try simp only [Act.put,sA4,sA5,sA6]
 refine wpAnyH_ready (rs:=[25]) (by kernel_rfl) (by simp) ?_
 refine AllReadyH.cons (o:=_) rfl (fun K hK=>?_) AllReadyH.nil
 go_simp
 refine (A2.out _ _ H1 HR _ (by repeat (first | exact HB.out | apply Below.drew))).mono ?_;rintro e w1 ⟨q5,H2,rfl,hb1⟩;clear hc1 hc2 HB hHeld;have HB:Hid (Below w0.heap.size w0 w1):=hb1;obtain ⟨hc1,hc2⟩:=HC.out w1 hb1;clear hb1;try go_wp2_with fail
 refine hK.out _ _ (by first | exact ⟨hc1,hc2⟩ | (dsimp only;go_keep)) (fun hHeld=>?_)
 clear hK K
 try simp only [Act.put,sA4,sA5,sA6]
 refine tkH (v:=?_) 26 rfl ?_ ?_;rotate_left 1
 ·intro wq hSw;(try dsimp only at hSw);go_simp;try (with_reducible rfl)
 try simp only [Act.put,sA4]
 refine wpAnyH_ready (rs:=[27]) (by kernel_rfl) (by simp) ?_
 refine AllReadyH.cons (o:=_) rfl (fun K hK=>?_) AllReadyH.nil
 go_simp
 refine hK.out _ _ (HC.out _ (by repeat (first | exact HB.out | apply Below.drew | refine ext_alloc ?_ _))) (fun hHeld=>?_)
 clear hK K
 try simp only [Act.put,sA4,sA5,sA6]
 refine wpAnyH_ready (rs:=[28]) (by kernel_rfl) (by simp) ?_
 refine AllReadyH.cons (o:=_) rfl (fun K hK=>?_) AllReadyH.nil
 go_simp
 refine hK.out _ _ (HC.out _ (by repeat (first | exact HB.out | apply Below.drew | refine ext_alloc ?_ _))) (fun hHeld=>?_)
 clear hK K
 try simp only [Act.put,sA4,sA5,sA6]
 refine wpAnyH_done (by kernel_rfl) ?_ _
 go_wp2_with fail
 go_ret
 exact ⟨_,rfl,HEND.out q5 w1 H2 HB.out,by repeat (first | exact HB0.out | exact HB.out | refine ext_trans HB0.out ?_ | refine ext_alloc ?_ _)⟩
end Go.Proofs.YtjomfbegghgbdaaGreat.P
