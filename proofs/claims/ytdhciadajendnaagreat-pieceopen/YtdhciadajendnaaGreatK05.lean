import Derived.Test.YtdhciadajendnaaGreatK04
set_option maxRecDepth 100000
namespace Go.Proofs.YtdhciadajendnaaGreat.P
open Go.RowKit
set_option maxHeartbeats 2000000 in
theorem head_lo (n:Tr It) (i:Int) (u:Option Addr) (w:World) (h:Tin w n u) (hi:i≤0) :
  Calls Tryz.prog 126 #[.pointer u,.int .i64 i] w fun e w'=>∃ u' t,e=.returned (.pointer u')∧Tin w' t u'∧(t.list=n.list.take i.toNat∧(n.Bal→t.Bal))∧Below w.heap.size w w':=by
 have HT:Hid (Tin w n u):=h
 have h0:i.toNat=0:=by omega
 have HZ:Hid (i.toNat=0):=h0
 clear h h0
 go_enter Tryz.func126,Tryz.ntmps126
 go_wp2_with fail
 go_ret
 exact ⟨none,.nil,rfl,rfl,⟨by rw [HZ.out];rfl,fun _=>trivial⟩,Below.refl _ _⟩
set_option maxHeartbeats 2000000 in
theorem head_hi (n:Tr It) (i:Int) (u:Option Addr) (w:World) (h:Tin w n u) (hi:0 < i) (hn:(n.list.length:Int)≤i) :
  Calls Tryz.prog 126 #[.pointer u,.int .i64 i] w fun e w'=>∃ u' t,e=.returned (.pointer u')∧Tin w' t u'∧(t.list=n.list.take i.toNat∧(n.Bal→t.Bal))∧Below w.heap.size w w':=by
 have HT:Hid (Tin w n u):=h
 have HN:Hid (n.list.length≤i.toNat):=by unfold Hid;omega
 have K:Hid (Calls Tryz.prog 101 #[.pointer u] w fun e w''=>e=.returned (.int .i64 n.list.length)∧w''=w):=count_any n u w h
 clear h
 have hi':¬ i≤0:=by omega
 go_enter Tryz.func126,Tryz.ntmps126
 go_wp2_with (go_at_call 101;refine K.out.mono ?_;rintro e w1 ⟨rfl,rfl⟩)
 go_ret
 exact ⟨u,n,rfl,HT.out,⟨(List.take_of_length_le HN.out).symm,fun h=>h⟩,Below.refl _ _⟩
set_option maxHeartbeats 2000000 in
theorem head_side (l r:Tr It) (x:It) (i:Int) (u:Option Addr) (w:World) (h:Tin w (.node l x r) u) (hw:wt (l.list ++ x :: r.list)≤4611686018427387904) (hi:0 < i) (hn:i < ((l.list ++ x :: r.list).length:Int)) (hs:i≤(l.list.length:Int))
  (ih:∀ (i:Int) (u:Option Addr) (w:World),Tin w l u→Calls Tryz.prog 126 #[.pointer u,.int .i64 i] w fun e w'=>∃ u' t,e=.returned (.pointer u')∧Tin w' t u'∧(t.list=l.list.take i.toNat∧(l.Bal→t.Bal))∧Below w.heap.size w w') :
  Calls Tryz.prog 126 #[.pointer u,.int .i64 i] w fun e w'=>∃ u' t,e=.returned (.pointer u')∧Tin w' t u'∧(t.list=(Tr.node l x r).list.take i.toNat∧((Tr.node l x r).Bal→t.Bal))∧Below w.heap.size w w':=by
 have hbd:=wt_len (l.list ++ x :: r.list)
 simp only [List.length_append,List.length_cons] at hbd hn
 obtain ⟨g,lu,ru,rfl,hgl,h2,h3,c0,c1,c2,c3⟩:=h.lt
 have hlx:=wt_len l.list
 have hw':=hw
 rw [wt_app,wt_cons] at hw'
 have K1:Hid (∀ w',Below w.heap.size w w'→Calls Tryz.prog 101 #[.pointer (some ⟨g,0,none⟩)] w' fun e w''=>e=.returned (.int .i64 ((l.list.length + (r.list.length + 1):Nat):Int))∧w''=w'):=fun w' hb=>by have:=count_any _ _ w' (h.ext hb);simp only [Tr.list,List.length_append,List.length_cons] at this;exact this
 have K2:Hid (∀ w',Below w.heap.size w w'→Calls Tryz.prog 101 #[.pointer lu] w' fun e w''=>e=.returned (.int .i64 l.list.length)∧w''=w'):=fun w' hb=>count_any l lu w' (h2.ext hb)
 have HD:Hid (∀ w',Below w.heap.size w w'→Calls Tryz.prog 126 #[.pointer lu,.int .i64 i] w' fun e w''=>∃ u',e=.returned (.pointer u')∧Hid (∃ t,Tin w'' t u'∧(t.list=(Tr.node l x r).list.take i.toNat∧((Tr.node l x r).Bal→t.Bal))∧Below w.heap.size w w'')):=fun w' hb=>(ih i lu w' (h2.ext hb)).mono fun _ _ ⟨u',t,k1,k2,⟨k3,k4⟩,k5⟩=>⟨u',k1,t,k2,⟨by
   rw [k3,Tr.list,List.take_append_of_le_length (by omega)],fun hb'=>k4 hb'.1⟩,zxt hb k5⟩
 have hi':¬ i≤0:=by omega
 have hni:¬ (((l.list.length + (r.list.length + 1):Nat):Int)≤i):=by omega
 have hs':¬ (l.list.length:Int) < i:=by omega
 have hq1:((l.list.length + (r.list.length + 1):Nat):Int)≤4611686018427387904:=by omega
 have hq2:(l.list.length:Int)≤4611686018427387904:=by omega
 clear h h2 h3 hw hw' hbd hlx hn ih
 generalize l.list.length=nl at *
 generalize nl + (r.list.length + 1)=nn at *
 go_enter Tryz.func126,Tryz.ntmps126
 go_wp2_with (first | (go_at_call_of 101 g;refine (K1.out _ (by repeat (first | exact Below.refl _ _ | refine zxa ?_ _ | apply Below.drew))).mono ?_;rintro e w1 ⟨rfl,rfl⟩) | (go_at_call_of 101 lu;refine (K2.out _ (by repeat (first | exact Below.refl _ _ | refine zxa ?_ _ | apply Below.drew))).mono ?_;rintro e w1 ⟨rfl,rfl⟩) | (go_at_call 126;refine (HD.out _ (by repeat (first | exact Below.refl _ _ | refine zxa ?_ _ | apply Below.drew))).mono ?_;rintro e w1 ⟨u',rfl,T1⟩))
 go_ret
 obtain ⟨t,k1,k2,k3⟩:=T1.out
 exact ⟨_,t,rfl,k1,k2,k3⟩
set_option maxHeartbeats 2000000 in
theorem head_join (l r:Tr It) (x:It) (i:Int) (u:Option Addr) (w:World) (h:Tin w (.node l x r) u) (hw:wt (l.list ++ x :: r.list)≤4611686018427387904) (hi:0 < i) (hn:i < ((l.list ++ x :: r.list).length:Int)) (hs:(l.list.length:Int) < i)
  (ih:∀ (i:Int) (u:Option Addr) (w:World),Tin w r u→Calls Tryz.prog 126 #[.pointer u,.int .i64 i] w fun e w'=>∃ u' t,e=.returned (.pointer u')∧Tin w' t u'∧(t.list=r.list.take i.toNat∧(r.Bal→t.Bal))∧Below w.heap.size w w') :
  Calls Tryz.prog 126 #[.pointer u,.int .i64 i] w fun e w'=>∃ u' t,e=.returned (.pointer u')∧Tin w' t u'∧(t.list=(Tr.node l x r).list.take i.toNat∧((Tr.node l x r).Bal→t.Bal))∧Below w.heap.size w w':=by
 have hbd:=wt_len (l.list ++ x :: r.list)
 simp only [List.length_append,List.length_cons] at hbd hn
 obtain ⟨g,lu,ru,rfl,hgl,h2,h3,c0,c1,c2,c3⟩:=h.lt
 have hlx:=wt_len l.list
 have hw':=hw
 rw [wt_app,wt_cons] at hw'
 have K1:Hid (∀ w',Below w.heap.size w w'→Calls Tryz.prog 101 #[.pointer (some ⟨g,0,none⟩)] w' fun e w''=>e=.returned (.int .i64 ((l.list.length + (r.list.length + 1):Nat):Int))∧w''=w'):=fun w' hb=>by have:=count_any _ _ w' (h.ext hb);simp only [Tr.list,List.length_append,List.length_cons] at this;exact this
 have K2:Hid (∀ w',Below w.heap.size w w'→Calls Tryz.prog 101 #[.pointer lu] w' fun e w''=>e=.returned (.int .i64 l.list.length)∧w''=w'):=fun w' hb=>count_any l lu w' (h2.ext hb)
 obtain ⟨p,hp⟩:∃ p:Int,p=i - (l.list.length:Int):=⟨_,rfl⟩
 obtain ⟨j,hj⟩:∃ j:Int,j=p - 1:=⟨_,rfl⟩
 have C:Hid (∀ w',Below w.heap.size w w'→C7s w' g x∧True∧w'.cell? ⟨g,7,none⟩=some (.pointer lu)∧w'.cell? ⟨g,8,none⟩=some (.pointer ru)):=fun w' hb=>⟨(by first | trivial | exact C7.ext hb hgl c0 | exact C5.ext hb hgl c0 | exact (hb.cell (p:=⟨g,0,none⟩) hgl).trans c0 | exact (hb.cell (p:=⟨g,0,none⟩) hgl).trans c0),(by first | trivial | exact C7.ext hb hgl c1 | exact C5.ext hb hgl c1 | exact (hb.cell (p:=⟨g,1,none⟩) hgl).trans c1 | exact (hb.cell (p:=⟨g,1,none⟩) hgl).trans c1),(by first | trivial | exact C7.ext hb hgl c2 | exact C5.ext hb hgl c2 | exact (hb.cell (p:=⟨g,7,none⟩) hgl).trans c2 | exact (hb.cell (p:=⟨g,2,none⟩) hgl).trans c2),(by first | trivial | exact C7.ext hb hgl c3 | exact C5.ext hb hgl c3 | exact (hb.cell (p:=⟨g,8,none⟩) hgl).trans c3 | exact (hb.cell (p:=⟨g,3,none⟩) hgl).trans c3)⟩
 have HD:Hid (∀ w',Below w.heap.size w w'→Calls Tryz.prog 126 #[.pointer ru,.int .i64 j] w' fun e w''=>∃ u',e=.returned (.pointer u')∧Hid (∃ t,Tin w'' t u'∧(t.list=r.list.take j.toNat∧(r.Bal→t.Bal)))∧Below w.heap.size w w''):=fun w' hb=>(ih j ru w' (h3.ext hb)).mono fun _ _ ⟨u',t,k1,k2,k3,k5⟩=>⟨u',k1,⟨t,k2,k3⟩,zxt hb k5⟩
 have J:Hid (∀ u1 w',Hid (∃ t,Tin w' t u1∧(t.list=r.list.take j.toNat∧(r.Bal→t.Bal)))→Below w.heap.size w w'→Calls Tryz.prog 136 #[.pointer lu,.agg #[.slice x.p x.n x.c,.int .i64 x.pl,.int .i64 x.sp.a,.int .i64 x.sp.s,.int .i64 x.sp.b,.bool x.sp.lf,.bool x.sp.cr],.pointer u1] w' fun e w''=>∃ u',e=.returned (.pointer u')∧Hid (∃ t,Tin w'' t u'∧(t.list=(Tr.node l x r).list.take i.toNat∧((Tr.node l x r).Bal→t.Bal)))∧Below w.heap.size w w''):=fun u1 w' ht hb=>by
  obtain ⟨t,k1,k2,k3⟩:=ht.out
  have hsub:wt (r.list.take j.toNat)≤wt r.list:=by
   have:=wt_app (r.list.take j.toNat) (r.list.drop j.toNat)
   rw [List.take_append_drop] at this
   omega
  refine (join_any _ l t x lu u1 w' (Nat.le_refl _) (h2.ext hb) k1 (by rw [k2,wt_app,wt_cons];omega)).mono fun _ _ ⟨u',t',q1,q2,q3,q4⟩=>⟨u',q1,⟨t',q2,?_,fun hb'=>(q3.bal hb'.1 (k3 hb'.2.1)).1⟩,zxt hb q4⟩
  rw [q3.list,k2,Tr.list,show i.toNat=l.list.length + (j.toNat + 1) by omega,List.take_length_add_append];rfl
 have hi':¬ i≤0:=by omega
 have hni:¬ (((l.list.length + (r.list.length + 1):Nat):Int)≤i):=by omega
 have hs':¬ i≤(l.list.length:Int):=by omega
 have hw1:IntKind.i64.wrap (i - (l.list.length:Int))=p:=by rw [IntKind.wrap_i64];omega
 have hw2:IntKind.i64.wrap (p - 1)=j:=by rw [IntKind.wrap_i64];omega
 clear hp hj
 have hq1:((l.list.length + (r.list.length + 1):Nat):Int)≤4611686018427387904:=by omega
 have hq2:(l.list.length:Int)≤4611686018427387904:=by omega
 clear h h2 h3 hw hw' hbd hlx hn ih
 generalize l.list.length=nl at *
 generalize nl + (r.list.length + 1)=nn at *
 go_enter Tryz.func126,Tryz.ntmps126
 go_wp2_with (first | (go_at_call_of 101 g;refine (K1.out _ (by repeat (first | exact Below.refl _ _ | refine zxa ?_ _ | apply Below.drew))).mono ?_;rintro e w1 ⟨rfl,rfl⟩) | (go_at_call_of 101 lu;refine (K2.out _ (by repeat (first | exact Below.refl _ _ | refine zxa ?_ _ | apply Below.drew))).mono ?_;rintro e w1 ⟨rfl,rfl⟩))
 go_region_held3 (fun w'=>(w'.cell? ⟨g,0,none⟩=some (.slice x.p x.n x.c)∧w'.cell? ⟨g,1,none⟩=some (.int .i64 x.pl)∧w'.cell? ⟨g,2,none⟩=some (.int .i64 x.sp.a)∧w'.cell? ⟨g,3,none⟩=some (.int .i64 x.sp.s)∧w'.cell? ⟨g,4,none⟩=some (.int .i64 x.sp.b)∧w'.cell? ⟨g,5,none⟩=some (.bool x.sp.lf)∧w'.cell? ⟨g,6,none⟩=some (.bool x.sp.cr))∧True∧w'.cell? ⟨g,7,none⟩=some (.pointer lu)∧w'.cell? ⟨g,8,none⟩=some (.pointer ru)) (go_keep) (first
  | (go_at_call 126;refine (HD.out _ (by repeat (first | exact Below.refl _ _ | refine zxa ?_ _ | apply Below.drew))).mono ?_;rintro e w1 ⟨u1,rfl,T1,hb1⟩;clear c0 c1 c2 c3;have HB1:=zh hb1;obtain ⟨c0,c1,c2,c3⟩:=C.out w1 hb1;clear hb1)
  | (go_at_call 136;refine (J.out _ _ T1 (by repeat (first | exact HB1.out | apply Below.drew))).mono ?_;rintro e w2 ⟨u2,rfl,T2,hb1⟩;clear c0 c1 c2 c3;have HB2:=zh hb1;obtain ⟨c0,c1,c2,c3⟩:=C.out w2 hb1;clear hb1))
 go_wp2_with fail
 go_ret
 obtain ⟨t,k1,k2⟩:=T2.out
 exact ⟨_,t,rfl,k1,k2,HB2.out⟩
theorem head_any (n:Tr It):∀ (i:Int) (u:Option Addr) (w:World),Tin w n u→wt n.list≤4611686018427387904→Calls Tryz.prog 126 #[.pointer u,.int .i64 i] w fun e w'=>∃ u' t,e=.returned (.pointer u')∧Tin w' t u'∧(t.list=n.list.take i.toNat∧(n.Bal→t.Bal))∧Below w.heap.size w w':=by
 induction n using Tr.ind with
 | nil =>
   intro i u w h _
   by_cases hi:i≤0
   ·exact head_lo _ i u w h hi
   ·exact head_hi _ i u w h (by omega) (by simp only [Tr.list,List.length_nil];omega)
 | node l x r ihl ihr =>
   intro i u w h hw
   by_cases hi:i≤0
   ·exact head_lo _ i u w h hi
   by_cases hn:((Tr.node l x r).list.length:Int)≤i
   ·exact head_hi _ i u w h (by omega) hn
   have hw':wt (l.list ++ x :: r.list)≤4611686018427387904:=hw
   have hw2:=hw'
   rw [wt_app,wt_cons] at hw2
   by_cases hs:i≤(l.list.length:Int)
   ·exact head_side l r x i u w h hw' (by omega) (Int.not_le.1 hn) hs (fun i u w h=>ihl i u w h (by omega))
   ·exact head_join l r x i u w h hw' (by omega) (Int.not_le.1 hn) (by omega) (fun i u w h=>ihr i u w h (by omega))
set_option maxHeartbeats 2000000 in
theorem tail_lo (n:Tr It) (i:Int) (u:Option Addr) (w:World) (h:Tin w n u) (hi:i≤0) :
  Calls Tryz.prog 127 #[.pointer u,.int .i64 i] w fun e w'=>∃ u' t,e=.returned (.pointer u')∧Tin w' t u'∧(t.list=n.list.drop i.toNat∧(n.Bal→t.Bal))∧Below w.heap.size w w':=by
 have HT:Hid (Tin w n u):=h
 have h0:i.toNat=0:=by omega
 have HZ:Hid (i.toNat=0):=h0
 clear h h0
 go_enter Tryz.func127,Tryz.ntmps127
 go_wp2_with fail
 go_ret
 exact ⟨u,n,rfl,HT.out,⟨by rw [HZ.out];rfl,fun h=>h⟩,Below.refl _ _⟩
set_option maxHeartbeats 2000000 in
theorem tail_hi (n:Tr It) (i:Int) (u:Option Addr) (w:World) (h:Tin w n u) (hi:0 < i) (hn:(n.list.length:Int)≤i) :
  Calls Tryz.prog 127 #[.pointer u,.int .i64 i] w fun e w'=>∃ u' t,e=.returned (.pointer u')∧Tin w' t u'∧(t.list=n.list.drop i.toNat∧(n.Bal→t.Bal))∧Below w.heap.size w w':=by
 have HT:Hid (Tin w n u):=h
 have HN:Hid (n.list.length≤i.toNat):=by unfold Hid;omega
 have K:Hid (Calls Tryz.prog 101 #[.pointer u] w fun e w''=>e=.returned (.int .i64 n.list.length)∧w''=w):=count_any n u w h
 clear h
 have hi':¬ i≤0:=by omega
 go_enter Tryz.func127,Tryz.ntmps127
 go_wp2_with (go_at_call 101;refine K.out.mono ?_;rintro e w1 ⟨rfl,rfl⟩)
 go_ret
 exact ⟨none,.nil,rfl,rfl,⟨(List.drop_of_length_le HN.out).symm,fun _=>trivial⟩,Below.refl _ _⟩
set_option maxHeartbeats 2000000 in
theorem tail_side (l r:Tr It) (x:It) (i:Int) (u:Option Addr) (w:World) (h:Tin w (.node l x r) u) (hw:wt (l.list ++ x :: r.list)≤4611686018427387904) (hi:0 < i) (hn:i < ((l.list ++ x :: r.list).length:Int)) (hs:(l.list.length:Int) < i)
  (ih:∀ (i:Int) (u:Option Addr) (w:World),Tin w r u→Calls Tryz.prog 127 #[.pointer u,.int .i64 i] w fun e w'=>∃ u' t,e=.returned (.pointer u')∧Tin w' t u'∧(t.list=r.list.drop i.toNat∧(r.Bal→t.Bal))∧Below w.heap.size w w') :
  Calls Tryz.prog 127 #[.pointer u,.int .i64 i] w fun e w'=>∃ u' t,e=.returned (.pointer u')∧Tin w' t u'∧(t.list=(Tr.node l x r).list.drop i.toNat∧((Tr.node l x r).Bal→t.Bal))∧Below w.heap.size w w':=by
 have hbd:=wt_len (l.list ++ x :: r.list)
 simp only [List.length_append,List.length_cons] at hbd hn
 obtain ⟨g,lu,ru,rfl,hgl,h2,h3,c0,c1,c2,c3⟩:=h.lt
 have hlx:=wt_len l.list
 have hw':=hw
 rw [wt_app,wt_cons] at hw'
 have K1:Hid (∀ w',Below w.heap.size w w'→Calls Tryz.prog 101 #[.pointer (some ⟨g,0,none⟩)] w' fun e w''=>e=.returned (.int .i64 ((l.list.length + (r.list.length + 1):Nat):Int))∧w''=w'):=fun w' hb=>by have:=count_any _ _ w' (h.ext hb);simp only [Tr.list,List.length_append,List.length_cons] at this;exact this
 have K2:Hid (∀ w',Below w.heap.size w w'→Calls Tryz.prog 101 #[.pointer lu] w' fun e w''=>e=.returned (.int .i64 l.list.length)∧w''=w'):=fun w' hb=>count_any l lu w' (h2.ext hb)
 obtain ⟨p,hp⟩:∃ p:Int,p=i - (l.list.length:Int):=⟨_,rfl⟩
 obtain ⟨j,hj⟩:∃ j:Int,j=p - 1:=⟨_,rfl⟩
 have HD:Hid (∀ w',Below w.heap.size w w'→Calls Tryz.prog 127 #[.pointer ru,.int .i64 j] w' fun e w''=>∃ u',e=.returned (.pointer u')∧Hid (∃ t,Tin w'' t u'∧(t.list=(Tr.node l x r).list.drop i.toNat∧((Tr.node l x r).Bal→t.Bal))∧Below w.heap.size w w'')):=fun w' hb=>(ih j ru w' (h3.ext hb)).mono fun _ _ ⟨u',t,k1,k2,⟨k3,k4⟩,k5⟩=>⟨u',k1,t,k2,⟨by
   rw [k3,Tr.list,show i.toNat=l.list.length + (j.toNat + 1) by omega,← List.drop_drop,List.drop_left];rfl,fun hb'=>k4 hb'.2.1⟩,zxt hb k5⟩
 have hi':¬ i≤0:=by omega
 have hni:¬ (((l.list.length + (r.list.length + 1):Nat):Int)≤i):=by omega
 have hs':¬ i≤(l.list.length:Int):=by omega
 have hw1:IntKind.i64.wrap (i - (l.list.length:Int))=p:=by rw [IntKind.wrap_i64];omega
 have hw2:IntKind.i64.wrap (p - 1)=j:=by rw [IntKind.wrap_i64];omega
 have hp2:i - (l.list.length:Int)=p:=hp.symm
 have hj2:p - 1=j:=hj.symm
 clear hp hj
 have hq1:((l.list.length + (r.list.length + 1):Nat):Int)≤4611686018427387904:=by omega
 have hq2:(l.list.length:Int)≤4611686018427387904:=by omega
 clear h h2 h3 hw hw' hbd hlx hn ih
 generalize l.list.length=nl at *
 generalize nl + (r.list.length + 1)=nn at *
 go_enter Tryz.func127,Tryz.ntmps127
 go_wp2_with (first | (go_at_call_of 101 g;refine (K1.out _ (by repeat (first | exact Below.refl _ _ | refine zxa ?_ _ | apply Below.drew))).mono ?_;rintro e w1 ⟨rfl,rfl⟩) | (go_at_call_of 101 lu;refine (K2.out _ (by repeat (first | exact Below.refl _ _ | refine zxa ?_ _ | apply Below.drew))).mono ?_;rintro e w1 ⟨rfl,rfl⟩) | (go_at_call 127;refine (HD.out _ (by repeat (first | exact Below.refl _ _ | refine zxa ?_ _ | apply Below.drew))).mono ?_;rintro e w1 ⟨u',rfl,T1⟩))
 go_ret
 obtain ⟨t,k1,k2,k3⟩:=T1.out
 exact ⟨_,t,rfl,k1,k2,k3⟩
set_option maxHeartbeats 2000000 in
theorem tail_join (l r:Tr It) (x:It) (i:Int) (u:Option Addr) (w:World) (h:Tin w (.node l x r) u) (hw:wt (l.list ++ x :: r.list)≤4611686018427387904) (hi:0 < i) (hn:i < ((l.list ++ x :: r.list).length:Int)) (hs:i≤(l.list.length:Int))
  (ih:∀ (i:Int) (u:Option Addr) (w:World),Tin w l u→Calls Tryz.prog 127 #[.pointer u,.int .i64 i] w fun e w'=>∃ u' t,e=.returned (.pointer u')∧Tin w' t u'∧(t.list=l.list.drop i.toNat∧(l.Bal→t.Bal))∧Below w.heap.size w w') :
  Calls Tryz.prog 127 #[.pointer u,.int .i64 i] w fun e w'=>∃ u' t,e=.returned (.pointer u')∧Tin w' t u'∧(t.list=(Tr.node l x r).list.drop i.toNat∧((Tr.node l x r).Bal→t.Bal))∧Below w.heap.size w w':=by
 have hbd:=wt_len (l.list ++ x :: r.list)
 simp only [List.length_append,List.length_cons] at hbd hn
 obtain ⟨g,lu,ru,rfl,hgl,h2,h3,c0,c1,c2,c3⟩:=h.lt
 have hlx:=wt_len l.list
 have hw':=hw
 rw [wt_app,wt_cons] at hw'
 have K1:Hid (∀ w',Below w.heap.size w w'→Calls Tryz.prog 101 #[.pointer (some ⟨g,0,none⟩)] w' fun e w''=>e=.returned (.int .i64 ((l.list.length + (r.list.length + 1):Nat):Int))∧w''=w'):=fun w' hb=>by have:=count_any _ _ w' (h.ext hb);simp only [Tr.list,List.length_append,List.length_cons] at this;exact this
 have K2:Hid (∀ w',Below w.heap.size w w'→Calls Tryz.prog 101 #[.pointer lu] w' fun e w''=>e=.returned (.int .i64 l.list.length)∧w''=w'):=fun w' hb=>count_any l lu w' (h2.ext hb)
 have C:Hid (∀ w',Below w.heap.size w w'→C7s w' g x∧True∧w'.cell? ⟨g,7,none⟩=some (.pointer lu)∧w'.cell? ⟨g,8,none⟩=some (.pointer ru)):=fun w' hb=>⟨(by first | trivial | exact C7.ext hb hgl c0 | exact C5.ext hb hgl c0 | exact (hb.cell (p:=⟨g,0,none⟩) hgl).trans c0 | exact (hb.cell (p:=⟨g,0,none⟩) hgl).trans c0),(by first | trivial | exact C7.ext hb hgl c1 | exact C5.ext hb hgl c1 | exact (hb.cell (p:=⟨g,1,none⟩) hgl).trans c1 | exact (hb.cell (p:=⟨g,1,none⟩) hgl).trans c1),(by first | trivial | exact C7.ext hb hgl c2 | exact C5.ext hb hgl c2 | exact (hb.cell (p:=⟨g,7,none⟩) hgl).trans c2 | exact (hb.cell (p:=⟨g,2,none⟩) hgl).trans c2),(by first | trivial | exact C7.ext hb hgl c3 | exact C5.ext hb hgl c3 | exact (hb.cell (p:=⟨g,8,none⟩) hgl).trans c3 | exact (hb.cell (p:=⟨g,3,none⟩) hgl).trans c3)⟩
 have HD:Hid (∀ w',Below w.heap.size w w'→Calls Tryz.prog 127 #[.pointer lu,.int .i64 i] w' fun e w''=>∃ u',e=.returned (.pointer u')∧Hid (∃ t,Tin w'' t u'∧(t.list=l.list.drop i.toNat∧(l.Bal→t.Bal)))∧Below w.heap.size w w''):=fun w' hb=>(ih i lu w' (h2.ext hb)).mono fun _ _ ⟨u',t,k1,k2,k3,k5⟩=>⟨u',k1,⟨t,k2,k3⟩,zxt hb k5⟩
 have J:Hid (∀ u1 w',Hid (∃ t,Tin w' t u1∧(t.list=l.list.drop i.toNat∧(l.Bal→t.Bal)))→Below w.heap.size w w'→Calls Tryz.prog 136 #[.pointer u1,.agg #[.slice x.p x.n x.c,.int .i64 x.pl,.int .i64 x.sp.a,.int .i64 x.sp.s,.int .i64 x.sp.b,.bool x.sp.lf,.bool x.sp.cr],.pointer ru] w' fun e w''=>∃ u',e=.returned (.pointer u')∧Hid (∃ t,Tin w'' t u'∧(t.list=(Tr.node l x r).list.drop i.toNat∧((Tr.node l x r).Bal→t.Bal)))∧Below w.heap.size w w''):=fun u1 w' ht hb=>by
  obtain ⟨t,k1,k2,k3⟩:=ht.out
  have hsub:wt (l.list.drop i.toNat)≤wt l.list:=by
   have:=wt_app (l.list.take i.toNat) (l.list.drop i.toNat)
   rw [List.take_append_drop] at this
   omega
  refine (join_any _ t r x u1 ru w' (Nat.le_refl _) k1 (h3.ext hb) (by rw [k2,wt_app,wt_cons];omega)).mono fun _ _ ⟨u',t',q1,q2,q3,q4⟩=>⟨u',q1,⟨t',q2,?_,fun hb'=>(q3.bal (k3 hb'.1) hb'.2.1).1⟩,zxt hb q4⟩
  rw [q3.list,k2,Tr.list,List.drop_append_of_le_length (by omega)]
 have hi':¬ i≤0:=by omega
 have hni:¬ (((l.list.length + (r.list.length + 1):Nat):Int)≤i):=by omega
 have hs':¬ (l.list.length:Int) < i:=by omega
 have hq1:((l.list.length + (r.list.length + 1):Nat):Int)≤4611686018427387904:=by omega
 have hq2:(l.list.length:Int)≤4611686018427387904:=by omega
 clear h h2 h3 hw hw' hbd hlx hn ih
 generalize l.list.length=nl at *
 generalize nl + (r.list.length + 1)=nn at *
 go_enter Tryz.func127,Tryz.ntmps127
 go_wp2_with (first | (go_at_call_of 101 g;refine (K1.out _ (by repeat (first | exact Below.refl _ _ | refine zxa ?_ _ | apply Below.drew))).mono ?_;rintro e w1 ⟨rfl,rfl⟩) | (go_at_call_of 101 lu;refine (K2.out _ (by repeat (first | exact Below.refl _ _ | refine zxa ?_ _ | apply Below.drew))).mono ?_;rintro e w1 ⟨rfl,rfl⟩))
 go_region_held3 (fun w'=>(w'.cell? ⟨g,0,none⟩=some (.slice x.p x.n x.c)∧w'.cell? ⟨g,1,none⟩=some (.int .i64 x.pl)∧w'.cell? ⟨g,2,none⟩=some (.int .i64 x.sp.a)∧w'.cell? ⟨g,3,none⟩=some (.int .i64 x.sp.s)∧w'.cell? ⟨g,4,none⟩=some (.int .i64 x.sp.b)∧w'.cell? ⟨g,5,none⟩=some (.bool x.sp.lf)∧w'.cell? ⟨g,6,none⟩=some (.bool x.sp.cr))∧True∧w'.cell? ⟨g,7,none⟩=some (.pointer lu)∧w'.cell? ⟨g,8,none⟩=some (.pointer ru)) (go_keep) (first
  | (go_at_call 127;refine (HD.out _ (by repeat (first | exact Below.refl _ _ | refine zxa ?_ _ | apply Below.drew))).mono ?_;rintro e w1 ⟨u1,rfl,T1,hb1⟩;clear c0 c1 c2 c3;have HB1:=zh hb1;obtain ⟨c0,c1,c2,c3⟩:=C.out w1 hb1;clear hb1)
  | (go_at_call 136;refine (J.out _ _ T1 (by repeat (first | exact HB1.out | apply Below.drew))).mono ?_;rintro e w2 ⟨u2,rfl,T2,hb1⟩;clear c0 c1 c2 c3;have HB2:=zh hb1;obtain ⟨c0,c1,c2,c3⟩:=C.out w2 hb1;clear hb1))
 go_wp2_with fail
 go_ret
 obtain ⟨t,k1,k2⟩:=T2.out
 exact ⟨_,t,rfl,k1,k2,HB2.out⟩
theorem tail_any (n:Tr It):∀ (i:Int) (u:Option Addr) (w:World),Tin w n u→wt n.list≤4611686018427387904→Calls Tryz.prog 127 #[.pointer u,.int .i64 i] w fun e w'=>∃ u' t,e=.returned (.pointer u')∧Tin w' t u'∧(t.list=n.list.drop i.toNat∧(n.Bal→t.Bal))∧Below w.heap.size w w':=by
 induction n using Tr.ind with
 | nil =>
   intro i u w h _
   by_cases hi:i≤0
   ·exact tail_lo _ i u w h hi
   ·exact tail_hi _ i u w h (by omega) (by simp only [Tr.list,List.length_nil];omega)
 | node l x r ihl ihr =>
   intro i u w h hw
   by_cases hi:i≤0
   ·exact tail_lo _ i u w h hi
   by_cases hn:((Tr.node l x r).list.length:Int)≤i
   ·exact tail_hi _ i u w h (by omega) hn
   have hw':wt (l.list ++ x :: r.list)≤4611686018427387904:=hw
   have hw2:=hw'
   rw [wt_app,wt_cons] at hw2
   by_cases hs:i≤(l.list.length:Int)
   ·exact tail_join l r x i u w h hw' (by omega) (Int.not_le.1 hn) hs (fun i u w h=>ihl i u w h (by omega))
   ·exact tail_side l r x i u w h hw' (by omega) (Int.not_le.1 hn) (by omega) (fun i u w h=>ihr i u w h (by omega))
end Go.Proofs.YtdhciadajendnaaGreat.P
