import Derived.Test.YtjomfbegghgbdaaGreatJ00
import Derived.Test.YtjomfbegghgbdaaGreatJ08
import Derived.Deep.CutRange
import Derived.Deep.LoopGhost
namespace Go.Proofs.YtjomfbegghgbdaaGreat.P
open Go.RowKit
set_option maxRecDepth 100000 in
set_option maxHeartbeats 4000000 in
theorem Upto_any (u:Option Addr) (xs:List It) (i:Int) (w:World) (h:TT w (.agg #[.pointer u]) xs) (hw:wt xs≤4611686018427387904) (hi:i≤9223372036854775807) :
  Calls Tryz.prog 81 #[.agg #[.pointer u],.int .i64 i] w fun e w'=>∃ s,Hid (s=rA.su (xs.take i.toNat))∧e=.returned (.agg #[.int .i64 s.a,.int .i64 s.s,.int .i64 s.b,.bool s.lf,.bool s.cr])∧Below w.heap.size w w':=by
 obtain ⟨u',tr,hu,ht,hl,_⟩:=h
 obtain rfl:u=u':=by simpa using hu
 obtain ⟨w0,hw0⟩:∃ w0,w0=((w.alloc (.cells #[.pointer u] 105)).alloc (.cells #[.int .i64 0,.int .i64 0,.int .i64 0,.bool false,.bool false] 110)).alloc (.cells #[.int .i64 0,.int .i64 0,.int .i64 0,.bool false,.bool false] 110):=⟨_,rfl⟩
 have hb0:Below w.heap.size w w0:=by rw [hw0];exact ext_alloc (ext_alloc (ext_alloc (Below.refl _ _) _) _) _
 have hA:Blk 110 w0 (w.heap.size + 1) Rs.zero:=by
  have:=Blk.new 110 (w.alloc (.cells #[.pointer u] 105)) Rs.zero
  rw [World.size_alloc] at this
  rw [hw0];exact this.ext (ext_alloc (Below.refl _ _) _)
 have hB:Blk 110 w0 (w.heap.size + 2) Rs.zero:=by
  have:=Blk.new 110 ((w.alloc (.cells #[.pointer u] 105)).alloc (.cells #[.int .i64 0,.int .i64 0,.int .i64 0,.bool false,.bool false] 110)) Rs.zero
  rw [World.size_alloc,World.size_alloc] at this
  rw [hw0];exact this
 have HT:=hidIt (ht.ext hb0)
 have HL:=hidIt hl
 have HB0:=hidIt hb0
 have HA:=hidIt hA
 have HBB:=hidIt hB
 have HW:=hidIt hw
 clear ht hl hb0 hu hw hA hB
 have hmt1:=m_meas
 have hmt2:=m_add
 have hnt1:=n_meas
 have hnt2:=n_add
 go_enter Tryz.func81,Tryz.ntmps81
 go_wp2_with fail
 rw [← hw0]
 clear hw0
 go_loopg [1,6] xs.length (fun gk c p wr=>∃ (t:Tr It) (q:Option Addr) (d:List It) (j:Int),t.list.length≤gk∧c=.int .i64 j∧p=.pointer q∧Tin wr t q∧Hid (xs.take i.toNat=d ++ t.list.take j.toNat∧wt (d ++ t.list)≤4611686018427387904∧j≤9223372036854775807)∧Blk 110 wr (w.heap.size + 2) (rA.su d)∧Blk 110 wr (w.heap.size + 1) Rs.zero∧Below w.heap.size w wr)
 case atStart=>exact ⟨tr,u,[],i,by rw [HL.out];exact Nat.le_refl _,rfl,rfl,HT.out,⟨by rw [HL.out];rfl,by rw [HL.out];exact HW.out,hi⟩,HBB.out,HA.out,HB0.out⟩
 case round =>
  obtain ⟨t,q,d,j,hgk,rfl,rfl,htq,HI,hB,hA,hb⟩:=hrel
  have hszB:=hB.lt
  cases t using Tr.ind with
  | nil =>
    simp only [Tin] at htq
    subst htq
    obtain ⟨b0,b1,b2,b3,_⟩:=hB.cells
    obtain ⟨a0,a1,a2,a3,af⟩:=hA.cells
    have HE:Hid (rA.su d=rA.su (xs.take i.toNat)):=by rw [HI.out.1];simp [Tr.list,Hid]
    obtain ⟨p1,p2⟩:=hA.put (rA.su d)
    have HP:=hidIt (below_put hb (by omega) p2 (by omega))
    clear p1 p2
    generalize rA.su d=sd at *
    go_wp2_with fail
    exact bodyPost_ret (v:=.agg #[.int .i64 sd.a,.int .i64 sd.s,.int .i64 sd.b,.bool sd.lf,.bool sd.cr]) (by simp [results,Tryz.results81,go_sem,a0]) rfl ⟨sd,HE,rfl,HP.out⟩
  | node l x r =>
    obtain ⟨g,lu,ru,rfl,hgl,h2,h3,c0,c1,c2,c3⟩:=htq.lt
    have HGK:Hid (l.list.length < gk∧r.list.length < gk):=by rw [Tr.list] at hgk;simp only [List.length_append,List.length_cons] at hgk;unfold Hid;omega
    clear hgk
    obtain ⟨i1,i2,i3⟩:=HI.out
    rw [Tr.list] at i1 i2
    have ew:=i2
    simp only [wt_app,wt_cons] at ew
    have b2:=wt_len l.list
    have hn2:¬ g=w.heap.size + 2:=by
     intro e
     obtain ⟨g',lv',rv',e1,hg',_⟩:=htq
     obtain rfl:g=g':=by simpa using e1
     unfold Blk at hB
     rw [e,hB] at hg'
     simp at hg'
    have CL:Hid (Calls Tryz.prog 114 #[.pointer lu] wr fun e w''=>e=.returned (.int .i64 l.list.length)∧w''=wr):=count_any l lu wr h2
    by_cases hj:j≤(l.list.length:Int)
    ·have HG:Hid (xs.take i.toNat=d ++ l.list.take j.toNat∧wt (d ++ l.list)≤4611686018427387904∧j≤9223372036854775807):=⟨by rw [i1,List.take_append_of_le_length (by omega)],by rw [wt_app];omega,i3⟩
     have H2:=hidIt h2
     clear h2 h3 htq hn2
     generalize hX:l.list.length=nl at *
     have ENL:=hidIt hX
     clear hX
     go_wp2_with fail
     refine CL.out.mono ?_
     rintro e w' ⟨rfl,rfl⟩
     go_wp2_with fail
     go_roundg l.list.length
     case measure=>rw [ENL.out];exact HGK.out.1
     case rel=>exact ⟨l,lu,d,j,Nat.le_refl _,rfl,rfl,H2.out,HG.out,hB,hA,hb⟩
    ·have hj':(l.list.length:Int) < j:=Int.not_le.1 hj
     have HG:Hid (xs.take i.toNat=(d ++ l.list ++ [x]) ++ r.list.take (j - (l.list.length + 1)).toNat∧wt ((d ++ l.list ++ [x]) ++ r.list)≤4611686018427387904∧j - (l.list.length + 1)≤9223372036854775807):=⟨by rw [i1,show j.toNat=l.list.length + ((j - (l.list.length + 1)).toNat + 1) by omega,List.take_length_add_append,List.take_succ_cons];simp,by simpa using i2,by omega⟩
     have TL:Hid (∀ w',Below wr.heap.size wr w'→Calls Tryz.prog 98 #[.pointer lu] w' fun e w''=>∃ s,Hid (s=rA.su l.list)∧e=.returned (.agg #[.int .i64 s.a,.int .i64 s.s,.int .i64 s.b,.bool s.lf,.bool s.cr])∧Below w'.heap.size w' w''):=fun w' hb'=>total_any l lu w' (h2.ext hb')
     have A1:Hid (∀ s w',Hid (s=rA.su l.list)→Calls Tryz.prog 83 #[.agg #[.int .i64 (rA.su d).a,.int .i64 (rA.su d).s,.int .i64 (rA.su d).b,.bool (rA.su d).lf,.bool (rA.su d).cr],.agg #[.int .i64 s.a,.int .i64 s.s,.int .i64 s.b,.bool s.lf,.bool s.cr]] w' fun e w''=>∃ q,Hid (q=rA.su (d ++ l.list))∧e=.returned (.agg #[.int .i64 q.a,.int .i64 q.s,.int .i64 q.b,.bool q.lf,.bool q.cr])∧Below w'.heap.size w' w''):=fun s w' hs=>add_su d l.list _ s w' rfl hs (by rw [wt_app];omega)
     have MM:Hid (∀ w',Calls Tryz.prog 165 #[.agg #[.slice x.p x.n x.c,.int .i64 x.pl,.int .i64 x.sp.a,.int .i64 x.sp.s,.int .i64 x.sp.b,.bool x.sp.lf,.bool x.sp.cr]] w' fun e w''=>∃ s,Hid (s=rA.su [x])∧e=.returned (.agg #[.int .i64 s.a,.int .i64 s.s,.int .i64 s.b,.bool s.lf,.bool s.cr])∧Below w'.heap.size w' w''):=fun w'=>(Measure_any x w').mono fun _ _ ⟨s,k1,k2,k3⟩=>⟨s,k1.out.trans (su_one x).symm,k2,k3⟩
     have A2:Hid (∀ q s w',Hid (q=rA.su (d ++ l.list))→Hid (s=rA.su [x])→Calls Tryz.prog 83 #[.agg #[.int .i64 q.a,.int .i64 q.s,.int .i64 q.b,.bool q.lf,.bool q.cr],.agg #[.int .i64 s.a,.int .i64 s.s,.int .i64 s.b,.bool s.lf,.bool s.cr]] w' fun e w''=>∃ q,Hid (q=rA.su (d ++ l.list ++ [x]))∧e=.returned (.agg #[.int .i64 q.a,.int .i64 q.s,.int .i64 q.b,.bool q.lf,.bool q.cr])∧Below w'.heap.size w' w''):=fun q s w' hq hs=>add_su (d ++ l.list) [x] q s w' hq hs (by simp only [wt_app,wt_cons,wt_nil];omega)
     have HCC:Hid (∀ w',Below wr.heap.size wr w'→((w'.cell? ⟨g,0,none⟩=some (.slice x.p x.n x.c)∧w'.cell? ⟨g,1,none⟩=some (.int .i64 x.pl)∧w'.cell? ⟨g,2,none⟩=some (.int .i64 x.sp.a)∧w'.cell? ⟨g,3,none⟩=some (.int .i64 x.sp.s)∧w'.cell? ⟨g,4,none⟩=some (.int .i64 x.sp.b)∧w'.cell? ⟨g,5,none⟩=some (.bool x.sp.lf)∧w'.cell? ⟨g,6,none⟩=some (.bool x.sp.cr))∧True∧w'.cell? ⟨g,7,none⟩=some (.pointer lu)∧w'.cell? ⟨g,8,none⟩=some (.pointer ru))∧Blk 110 w' (w.heap.size + 2) (rA.su d)∧Blk 110 w' (w.heap.size + 1) Rs.zero∧Tin w' r ru):=fun w' hb'=>⟨⟨(by first | trivial | exact C7.ext hb' hgl c0 | exact C5.ext hb' hgl c0 | exact (hb'.cell (p:=⟨g,0,none⟩) hgl).trans c0 | exact (hb'.cell (p:=⟨g,0,none⟩) hgl).trans c0),(by first | trivial | exact C7.ext hb' hgl c1 | exact C5.ext hb' hgl c1 | exact (hb'.cell (p:=⟨g,1,none⟩) hgl).trans c1 | exact (hb'.cell (p:=⟨g,1,none⟩) hgl).trans c1),(by first | trivial | exact C7.ext hb' hgl c2 | exact C5.ext hb' hgl c2 | exact (hb'.cell (p:=⟨g,7,none⟩) hgl).trans c2 | exact (hb'.cell (p:=⟨g,2,none⟩) hgl).trans c2),(by first | trivial | exact C7.ext hb' hgl c3 | exact C5.ext hb' hgl c3 | exact (hb'.cell (p:=⟨g,8,none⟩) hgl).trans c3 | exact (hb'.cell (p:=⟨g,3,none⟩) hgl).trans c3)⟩,hB.ext hb',hA.ext hb',h3.ext hb'⟩
     have HB:=hidIt hb
     have HN2:=hidIt hn2
     have hjb:j≤9223372036854775807:=i3
     have hnb:(l.list.length:Int)≤4611686018427387904:=by omega
     obtain ⟨z0,z1,z2,z3,zf⟩:=hB.cells
     clear h2 h3 htq hn2 i1 i2 i3 ew b2 hb hB hA
     generalize hX1:rA.su d=sd at *
     generalize rA.su (d ++ l.list)=s1 at *
     generalize hX2:rA.su (d ++ l.list ++ [x])=s2 at *
     generalize rA.su l.list=sl at *
     generalize rA.su [x]=sx at *
     generalize l.list.length=nl at *
     have ES2:=hidIt hX2
     clear hX1 hX2
     go_wp2_with fail
     refine CL.out.mono ?_
     rintro e w' ⟨rfl,rfl⟩
     go_upto_region 7 with fail
     go_cut [] from 10 to 47 (fun wF=>Hid (Blk 110 wF (w.heap.size + 2) s2∧Blk 110 wF (w.heap.size + 1) Rs.zero∧Tin wF r ru∧Below w.heap.size w wF∧wF.cell? ⟨g,8,none⟩=some (.pointer ru)))
     case first =>
      refine wp_region_held_drew (S:=fun w''=>(w''.cell? ⟨g,0,none⟩=some (.slice x.p x.n x.c)∧w''.cell? ⟨g,1,none⟩=some (.int .i64 x.pl)∧w''.cell? ⟨g,2,none⟩=some (.int .i64 x.sp.a)∧w''.cell? ⟨g,3,none⟩=some (.int .i64 x.sp.s)∧w''.cell? ⟨g,4,none⟩=some (.int .i64 x.sp.b)∧w''.cell? ⟨g,5,none⟩=some (.bool x.sp.lf)∧w''.cell? ⟨g,6,none⟩=some (.bool x.sp.cr))∧True∧w''.cell? ⟨g,7,none⟩=some (.pointer lu)) (by kernel_rfl) (by first | exact ⟨c0,c1,c2⟩ | (dsimp only;go_keep)) (fun hHeld=>?_)
      refine tkH (v:=?_) 2 rfl ?_ ?_;rotate_left 1
      ·intro wq hSw;(try dsimp only at hSw);go_simp;try (with_reducible rfl)
      try simp only [Act.put,sA4]
      refine tkH (v:=?_) 3 rfl ?_ ?_;rotate_left 1
      ·intro wq hSw;(try dsimp only at hSw);go_simp;try (with_reducible rfl)
      try simp only [Act.put]
      refine tkH (v:=?_) 4 rfl ?_ ?_;rotate_left 1
      ·intro wq hSw;(try dsimp only at hSw);go_simp;try (with_reducible rfl)
      try simp only [Act.put]
      refine tkH (v:=?_) 5 rfl ?_ ?_;rotate_left 1
      ·intro wq hSw;(try dsimp only at hSw);go_simp;try (with_reducible rfl)
      try simp only [Act.put]
      refine tkH (v:=?_) 9 rfl ?_ ?_;rotate_left 1
      ·intro wq hSw;(try dsimp only at hSw);go_simp;try (with_reducible rfl)
      try simp only [Act.put]
      refine tkH (v:=?_) 10 rfl ?_ ?_;rotate_left 1
      ·intro wq hSw;(try dsimp only at hSw);go_simp;try (with_reducible rfl)
      try simp only [Act.put]
      refine tkH (v:=?_) 11 rfl ?_ ?_;rotate_left 1
      ·intro wq hSw;(try dsimp only at hSw);go_simp;try (with_reducible rfl)
      try simp only [Act.put]
      refine tkH (v:=?_) 12 rfl ?_ ?_;rotate_left 1
      ·intro wq hSw;(try dsimp only at hSw);go_simp;try (with_reducible rfl)
      try simp only [Act.put]
      refine tkH (v:=?_) 13 rfl ?_ ?_;rotate_left 1
      ·intro wq hSw;(try dsimp only at hSw);go_simp;try (with_reducible rfl)
      try simp only [Act.put]
      refine wpAnyH_ready (rs:=[0,6]) (by kernel_rfl) (by simp) ?_
      refine AllReadyH.cons (o:=_) rfl (fun K hK=>?_) ?_
      ·go_simp
       refine hK.out _ _ (by first | exact ⟨c0,c1,c2⟩ | go_keep) (fun hHeld=>?_)
       clear hK K
       try simp only [Act.put,sA4,sA5,sA6]
       refine tkH (v:=?_) 1 rfl ?_ ?_;rotate_left 1
       ·intro wq hSw;(try dsimp only at hSw);go_simp;try (with_reducible rfl)
       try simp only [Act.put,sA4]
       refine wpAnyH_ready (rs:=[6]) (by kernel_rfl) (by simp) ?_
       refine AllReadyH.cons (o:=_) rfl (fun K hK=>?_) AllReadyH.nil
       go_simp
       refine (TL.out _ (by repeat (first | exact HB4.out | exact HB3.out | exact HB2.out | exact HB1.out | exact Below.refl _ _ | apply Below.drew))).mono ?_;rintro e w1 ⟨q1,HL1,rfl,hbb⟩;have HB1:Hid (Below w'.heap.size w' w1):=ext_trans (by repeat (first | exact HB4.out | exact HB3.out | exact HB2.out | exact HB1.out | exact Below.refl _ _ | apply Below.drew)) hbb;clear hbb c0 c1 c2 z0 z1 z2 z3 zf;obtain ⟨⟨c0,c1,c2,_⟩,hkk,_⟩:=HCC.out w1 HB1.out;obtain ⟨z0,z1,z2,z3,zf⟩:=hkk.cells;try go_wp2_with fail
       refine hK.out _ _ (⟨c0,c1,c2⟩) (fun hHeld=>?_)
       clear hK K
       try simp only [Act.put,sA4,sA5,sA6]
       refine wpAnyH_ready (rs:=[7]) (by kernel_rfl) (by simp) ?_
       refine AllReadyH.cons (o:=_) rfl (fun K hK=>?_) AllReadyH.nil
       go_simp
       refine (A1.out _ _ HL1).mono ?_;rintro e w2 ⟨q2,HQ2,rfl,hbb⟩;have HB2:Hid (Below w'.heap.size w' w2):=ext_trans (by repeat (first | exact HB4.out | exact HB3.out | exact HB2.out | exact HB1.out | exact Below.refl _ _ | apply Below.drew)) hbb;clear hbb c0 c1 c2 z0 z1 z2 z3 zf;obtain ⟨⟨c0,c1,c2,_⟩,hkk,_⟩:=HCC.out w2 HB2.out;obtain ⟨z0,z1,z2,z3,zf⟩:=hkk.cells;try go_wp2_with fail
       refine hK.out _ _ (⟨c0,c1,c2⟩) (fun hHeld=>?_)
       clear hK K
       try simp only [Act.put,sA4,sA5,sA6]
       refine tkH (v:=?_) 8 rfl ?_ ?_;rotate_left 1
       ·intro wq hSw;(try dsimp only at hSw);go_simp;try (with_reducible rfl)
       try simp only [Act.put,sA4]
       refine wpAnyH_ready (rs:=[14]) (by kernel_rfl) (by simp) ?_
       refine AllReadyH.cons (o:=_) rfl (fun K hK=>?_) AllReadyH.nil
       go_simp
       refine (MM.out _).mono ?_;rintro e w3 ⟨q3,HQ3,rfl,hbb⟩;have HB3:Hid (Below w'.heap.size w' w3):=ext_trans (by repeat (first | exact HB4.out | exact HB3.out | exact HB2.out | exact HB1.out | exact Below.refl _ _ | apply Below.drew)) hbb;clear hbb c0 c1 c2 z0 z1 z2 z3 zf;obtain ⟨⟨c0,c1,c2,_⟩,hkk,_⟩:=HCC.out w3 HB3.out;obtain ⟨z0,z1,z2,z3,zf⟩:=hkk.cells;try go_wp2_with fail
       refine hK.out _ _ (⟨c0,c1,c2⟩) (fun hHeld=>?_)
       clear hK K
       try simp only [Act.put,sA4,sA5,sA6]
       refine wpAnyH_ready (rs:=[15]) (by kernel_rfl) (by simp) ?_
       refine AllReadyH.cons (o:=_) rfl (fun K hK=>?_) AllReadyH.nil
       go_simp
       refine (A2.out _ _ _ HQ2 HQ3).mono ?_;rintro e w4 ⟨q4,HQ4,rfl,hbb⟩;have HB4:Hid (Below w'.heap.size w' w4):=ext_trans (by repeat (first | exact HB4.out | exact HB3.out | exact HB2.out | exact HB1.out | exact Below.refl _ _ | apply Below.drew)) hbb;clear hbb c0 c1 c2 z0 z1 z2 z3 zf;obtain ⟨⟨c0,c1,c2,_⟩,hkk,_⟩:=HCC.out w4 HB4.out;obtain ⟨z0,z1,z2,z3,zf⟩:=hkk.cells;try go_wp2_with fail
       refine hK.out _ _ (⟨c0,c1,c2⟩) (fun hHeld=>?_)
       clear hK K
       try simp only [Act.put,sA4,sA5,sA6]
       refine wpAnyH_ready (rs:=[16]) (by kernel_rfl) (by simp) ?_
       refine AllReadyH.cons (o:=_) rfl (fun K hK=>?_) AllReadyH.nil
       go_simp
       refine hK.out _ _ (by simp only [cell_set_other HN2.out];exact ⟨c0,c1,c2⟩) (fun hHeld=>?_)
       clear hK K
       try simp only [Act.put,sA4,sA5,sA6]
       refine wpAnyH_done (by kernel_rfl) ?_ _
       go_wp2_with fail
       go_meet
       case rel =>
        obtain ⟨⟨_,_,_,k3⟩,hk,hk0,hr⟩:=HCC.out w4 HB4.out
        obtain ⟨p1,p2⟩:=hk.put q4
        have E:=HQ4.out
        subst E
        exact ⟨p1,hk0.other p2 (by omega),hr.put hk (by decide) p2,below_put (HB.out.trans (HB4.out.mono (by omega))) (by have:=HB4.out.size;omega) p2 (by omega),by simp only [cell_set_other HN2.out];exact k3⟩
      refine AllReadyH.cons (o:=_) rfl (fun K hK=>?_) AllReadyH.nil
      go_simp
      refine (TL.out _ (by repeat (first | exact HB4.out | exact HB3.out | exact HB2.out | exact HB1.out | exact Below.refl _ _ | apply Below.drew))).mono ?_;rintro e w1 ⟨q1,HL1,rfl,hbb⟩;have HB1:Hid (Below w'.heap.size w' w1):=ext_trans (by repeat (first | exact HB4.out | exact HB3.out | exact HB2.out | exact HB1.out | exact Below.refl _ _ | apply Below.drew)) hbb;clear hbb c0 c1 c2 z0 z1 z2 z3 zf;obtain ⟨⟨c0,c1,c2,_⟩,hkk,_⟩:=HCC.out w1 HB1.out;obtain ⟨z0,z1,z2,z3,zf⟩:=hkk.cells;try go_wp2_with fail
      refine hK.out _ _ (⟨c0,c1,c2⟩) (fun hHeld=>?_)
      clear hK K
      try simp only [Act.put,sA4,sA5,sA6]
      refine wpAnyH_ready (rs:=[0]) (by kernel_rfl) (by simp) ?_
      refine AllReadyH.cons (o:=_) rfl (fun K hK=>?_) AllReadyH.nil
      go_simp
      refine hK.out _ _ (⟨c0,c1,c2⟩) (fun hHeld=>?_)
      clear hK K
      try simp only [Act.put,sA4,sA5,sA6]
      refine tkH (v:=?_) 1 rfl ?_ ?_;rotate_left 1
      ·intro wq hSw;(try dsimp only at hSw);go_simp;try (with_reducible rfl)
      try simp only [Act.put,sA4]
      refine wpAnyH_ready (rs:=[7]) (by kernel_rfl) (by simp) ?_
      refine AllReadyH.cons (o:=_) rfl (fun K hK=>?_) AllReadyH.nil
      go_simp
      refine (A1.out _ _ HL1).mono ?_;rintro e w2 ⟨q2,HQ2,rfl,hbb⟩;have HB2:Hid (Below w'.heap.size w' w2):=ext_trans (by repeat (first | exact HB4.out | exact HB3.out | exact HB2.out | exact HB1.out | exact Below.refl _ _ | apply Below.drew)) hbb;clear hbb c0 c1 c2 z0 z1 z2 z3 zf;obtain ⟨⟨c0,c1,c2,_⟩,hkk,_⟩:=HCC.out w2 HB2.out;obtain ⟨z0,z1,z2,z3,zf⟩:=hkk.cells;try go_wp2_with fail
      refine hK.out _ _ (⟨c0,c1,c2⟩) (fun hHeld=>?_)
      clear hK K
      try simp only [Act.put,sA4,sA5,sA6]
      refine tkH (v:=?_) 8 rfl ?_ ?_;rotate_left 1
      ·intro wq hSw;(try dsimp only at hSw);go_simp;try (with_reducible rfl)
      try simp only [Act.put,sA4]
      refine wpAnyH_ready (rs:=[14]) (by kernel_rfl) (by simp) ?_
      refine AllReadyH.cons (o:=_) rfl (fun K hK=>?_) AllReadyH.nil
      go_simp
      refine (MM.out _).mono ?_;rintro e w3 ⟨q3,HQ3,rfl,hbb⟩;have HB3:Hid (Below w'.heap.size w' w3):=ext_trans (by repeat (first | exact HB4.out | exact HB3.out | exact HB2.out | exact HB1.out | exact Below.refl _ _ | apply Below.drew)) hbb;clear hbb c0 c1 c2 z0 z1 z2 z3 zf;obtain ⟨⟨c0,c1,c2,_⟩,hkk,_⟩:=HCC.out w3 HB3.out;obtain ⟨z0,z1,z2,z3,zf⟩:=hkk.cells;try go_wp2_with fail
      refine hK.out _ _ (⟨c0,c1,c2⟩) (fun hHeld=>?_)
      clear hK K
      try simp only [Act.put,sA4,sA5,sA6]
      refine wpAnyH_ready (rs:=[15]) (by kernel_rfl) (by simp) ?_
      refine AllReadyH.cons (o:=_) rfl (fun K hK=>?_) AllReadyH.nil
      go_simp
      refine (A2.out _ _ _ HQ2 HQ3).mono ?_;rintro e w4 ⟨q4,HQ4,rfl,hbb⟩;have HB4:Hid (Below w'.heap.size w' w4):=ext_trans (by repeat (first | exact HB4.out | exact HB3.out | exact HB2.out | exact HB1.out | exact Below.refl _ _ | apply Below.drew)) hbb;clear hbb c0 c1 c2 z0 z1 z2 z3 zf;obtain ⟨⟨c0,c1,c2,_⟩,hkk,_⟩:=HCC.out w4 HB4.out;obtain ⟨z0,z1,z2,z3,zf⟩:=hkk.cells;try go_wp2_with fail
      refine hK.out _ _ (⟨c0,c1,c2⟩) (fun hHeld=>?_)
      clear hK K
      try simp only [Act.put,sA4,sA5,sA6]
      refine wpAnyH_ready (rs:=[16]) (by kernel_rfl) (by simp) ?_
      refine AllReadyH.cons (o:=_) rfl (fun K hK=>?_) AllReadyH.nil
      go_simp
      refine hK.out _ _ (by simp only [cell_set_other HN2.out];exact ⟨c0,c1,c2⟩) (fun hHeld=>?_)
      clear hK K
      try simp only [Act.put,sA4,sA5,sA6]
      refine wpAnyH_done (by kernel_rfl) ?_ _
      go_wp2_with fail
      go_meet
      case rel =>
       obtain ⟨⟨_,_,_,k3⟩,hk,hk0,hr⟩:=HCC.out w4 HB4.out
       obtain ⟨p1,p2⟩:=hk.put q4
       have E:=HQ4.out
       subst E
       exact ⟨p1,hk0.other p2 (by omega),hr.put hk (by decide) p2,below_put (HB.out.trans (HB4.out.mono (by omega))) (by have:=HB4.out.size;omega) p2 (by omega),by simp only [cell_set_other HN2.out];exact k3⟩
     have HQ:=hcut
     obtain ⟨f1,f2,f3,f4,f5⟩:=HQ.out
     have F1:=hidIt f1
     have F2:=hidIt f2
     have F3:=hidIt f3
     have F4:=hidIt f4
     clear f1 f2 f3 f4 hcut HQ c0 c1 c2 c3 z0 z1 z2 z3 zf
     go_wp2_with fail
     go_roundg r.list.length
     case measure=>exact HGK.out.2
     case rel=>exact ⟨r,ru,d ++ l.list ++ [x],_,Nat.le_refl _,rfl,rfl,F3.out,HG.out,by rw [ES2.out];exact F1.out,F2.out,F4.out⟩
end Go.Proofs.YtjomfbegghgbdaaGreat.P

namespace Go.Proofs.YtjomfbegghgbdaaGreat.P
open Go.RowKit
section
variable {F:Fence} {n:Nat} {P:Program} {ops:Array Oper} {Q:Exit→Act→World→Prop} {S:World→Prop}
theorem upon_move {o:Oper} {a b:Act} {K K':Act→World→Prop} {r:Result Next} (hv:∀ u w',K (a.put o.dst u) w'→K' (b.put o.dst u) w') (hd:∀ d w',K ({ a with defers:=d :: a.defers }.put o.dst undef) w'→K' ({ b with defers:=d :: b.defers }.put o.dst undef) w') (hq:∀ c w',Q (.panic c) a w'→Q (.panic c) b w')
  (h:o.uponIn F n P a K Q r):o.uponIn F n P b K' Q r:=by
 unfold Oper.uponIn at h ⊢
 split at h
 ·exact hv _ _ h
 ·exact hv _ _ h
 ·exact hd _ _ h
 ·refine ⟨h.1,h.2.mono fun e w'' he=>?_⟩
  cases e with
  | returned v=>exact hv _ _ he
  | panicked c=>exact hq _ _ he
  | outgrown=>exact he
 ·exact ⟨h.1,h.2.mono fun v w'' he=>hv _ _ he⟩
 ·refine ⟨h.1,RoundIn.mono h.2 fun e w'' he=>?_⟩
  cases e with
  | returned v=>exact hv _ _ he
  | panicked c=>exact hq _ _ he
  | outgrown=>exact he
 ·exact hq _ _ h
 ·exact h.elim
def opR (F:Fence) (n:Nat) (P:Program) (ops:Array Oper) (Q:Exit→Act→World→Prop) (i:Nat) (K:Act→World→Prop) (a:Act) (w:World):Prop :=
 ∀ o,ops[i]?=some o→if Region.wanted o (yielded ops a.tmps)=true then o.uponIn F n P a K Q ((execOp a.eval o).run P w) else K (a.put o.dst undef) w
def anyR (F:Fence) (n:Nat) (P:Program) (ops:Array Oper) (Q:Exit→Act→World→Prop) (S:World→Prop):Nat→Array Bool→Act→World→Prop
 | 0,listed,a,w=>Region.ready .any ops listed=[]∧Q .normal a w
 | k + 1,listed,a,w=>(Region.ready .any ops listed=[]→Q .normal a w)∧∀ i ∈ Region.ready .any ops listed,opR F n P ops Q i (fun a' w'=>S w'∧anyR F n P ops Q S k (listed.setIfInBounds i true) a' w') a w
theorem anyR_in {l:Nat} (hq:∀ (i:Nat) (o:Oper),ops[i]?=some o→∀ c,o.op≠.defer c):∀ (k:Nat) (listed:Array Bool) (a:Act) (w:World),anyR (Fence.wide.inRound l) n P ops Q S k listed a w→wpAnyIn (Fence.wide.inRound l) n P .any ops Q k listed a w:=by
 intro k
 induction k with
 | zero=>intro listed a w h;exact h
 | succ k ih =>
   intro listed a w h
   refine ⟨h.1,fun i hi=>?_⟩
   obtain ⟨_,o,ho,_⟩:=mem_ready.1 hi
   have h2:=h.2 i hi o ho
   unfold wpOpIn
   simp only [ho]
   split at h2
   ·rename_i hw
    rw [if_pos hw]
    refine ⟨fun f _=>trivial,?_⟩
    rw [Oper.semAt_plain _ _ _ (hq i o ho)]
    exact upon_move (fun u w' h=>ih _ _ _ h.2) (fun d w' h=>ih _ _ _ h.2) (fun _ _ h=>h) h2
   ·rename_i hw
    rw [if_neg hw]
    exact ⟨fun f _=>trivial,ih _ _ _ h2.2⟩
theorem anyR_first {i:Nat} {oi:Oper} {v:Value} (hi:ops[i]?=some oi) (hsel:∀ (j:Nat) (o:Oper) cs b,ops[j]?=some o→o.op≠.select cs b) (hQ:∀ c a w,Q (.panic c) (a.put oi.dst v) w→Q (.panic c) a w) :
  ∀ (k:Nat) (listed:Array Bool) (a:Act) (w:World),(∀ j oj,ops[j]?=some oj→j≠i→listed.getD j true=false→(∀ e ∈ oj.after,Region.binds .any e=true→e.on≠i)→oi.apart ops oj=true) →
    i ∈ Region.ready .any ops listed→YieldsIf P ops S oi v a→S w→anyR F n P ops Q S k (listed.setIfInBounds i true) (a.put oi.dst v) w→anyR F n P ops Q S (k + 1) listed a w:=by
 have now:∀ (a:Act) (w:World) (K:Act→World→Prop),YieldsIf P ops S oi v a→S w→K (a.put oi.dst v) w→opR F n P ops Q i K a w:=fun a w K hy hS hK o ho=>by
  rw [hi] at ho
  cases ho
  rcases hy with ⟨h1,h2⟩ | ⟨h1,rfl⟩
  ·rw [if_pos h1,h2 w hS];exact hK
  ·rw [if_neg (by rw [h1];decide)];exact hK
 intro k
 induction k with
 | zero =>
   intro listed a w _ hr hy hS H
   refine ⟨fun h=>(by rw [h] at hr;cases hr),fun j hj=>?_⟩
   by_cases hji:j=i
   ·subst hji;exact now a w _ hy hS ⟨hS,H⟩
   ·have:=ready_mono hj hji
    rw [H.1] at this
    cases this
 | succ k ih =>
   intro listed a w hfree hr hy hS H
   refine ⟨fun h=>(by rw [h] at hr;cases hr),fun j hj=>?_⟩
   by_cases hji:j=i
   ·subst hji;exact now a w _ hy hS ⟨hS,H⟩
   ·intro oj hoj
    obtain ⟨hjun,oj',hoj',hall⟩:=mem_ready.1 hj
    rw [hoj] at hoj'
    cases hoj'
    have h1:=H.2 j (ready_mono hj hji) oj hoj
    have hnot:∀ e ∈ oj.after,Region.binds .any e=true→e.on≠i:=fun e he hb heq=>by
     have q1:=hall e he hb
     have q0:=(mem_ready.1 hr).1
     rw [heq] at q1
     rcases Nat.lt_or_ge i listed.size with h' | h'
     ·simp [h'] at q0 q1;rw [q0] at q1;cases q1
     ·simp [Array.getElem?_eq_none h'] at q1
    obtain ⟨p1,p2,p3⟩:=Oper.apart_spec (hfree j oj hoj hji hjun hnot)
    have keep:∀ (b:Act),YieldsIf P ops S oi v b→∀ u,YieldsIf P ops S oi v (b.put oj.dst u):=fun b hb u=>hb.of_same (execOp_put oi (fun cs d=>hsel i oi cs d hi) b oj.dst u p3) (wanted_put oi b oj.dst u p3)
    have next:∀ (b:Act) (w':World),YieldsIf P ops S oi v b→S w'→anyR F n P ops Q S k ((listed.setIfInBounds i true).setIfInBounds j true) (b.put oi.dst v) w'→anyR F n P ops Q S (k + 1) (listed.setIfInBounds j true) b w':=fun b w' hb hS' hh=>by
     refine ih _ b w' (fun m om hm hmi hun hno=>hfree m om hm hmi ?_ hno) (ready_mono hr (fun e=>hji e.symm)) hb hS' ?_
     ·by_cases hmj:j=m
      ·subst hmj
       rcases Nat.lt_or_ge j listed.size with h' | h'
       ·simp [h'] at hun
       ·simp [Array.getElem?_eq_none h'] at hjun
      ·rwa [getD_set_ne true hmj] at hun
     ·rw [Array.setIfInBounds_comm _ _ (fun e=>hji e)]
      exact hh
    rw [wanted_put oj a oi.dst v p1] at h1
    split
    ·rename_i hw
     rw [if_pos hw,execOp_put oj (fun cs d=>hsel j oj cs d hoj) a oi.dst v p1] at h1
     refine upon_move (fun u w' h=>⟨h.1,next _ w' (keep a hy u) h.1 ?_⟩) (fun d w' h=>⟨h.1,next _ w' (keep { a with defers:=d :: a.defers } (YieldsIf.of_same (a':={ a with defers:=d :: a.defers }) hy rfl rfl) undef) h.1 ?_⟩) (fun c w' h=>hQ c a w' h) h1
     ·rw [← Act.put_comm a v u p2];exact h.2
     ·rw [← Act.put_comm _ v undef p2,← Act.put_defers];exact h.2
    ·rename_i hw
     rw [if_neg hw] at h1
     refine ⟨h1.1,next _ w (keep a hy undef) h1.1 ?_⟩
     rw [← Act.put_comm a v undef p2]
     exact h1.2
theorem anyR_take {i:Nat} {oi:Oper} {v:Value} {k:Nat} {listed:Array Bool} {a:Act} {w:World} (hi:ops[i]?=some oi) (hs:Region.noSelect ops=true) (hf:Region.free .any ops listed i=true) (hr:(Region.ready .any ops listed).contains i=true)
  (hQ:∀ c a w,Q (.panic c) (a.put oi.dst v) w→Q (.panic c) a w) (hy:YieldsIf P ops S oi v a) (hS:S w) (h:anyR F n P ops Q S k (listed.setIfInBounds i true) (a.put oi.dst v) w):anyR F n P ops Q S (k + 1) listed a w :=
 anyR_first hi (Region.noSelect_spec hs) hQ k listed a w (Region.free_spec hi hf) (by simpa using hr) hy hS h
theorem anyR_one {i:Nat} {o:Oper} {k:Nat} {listed:Array Bool} {a:Act} {w:World} (hr:Region.ready .any ops listed=[i]) (ho:ops[i]?=some o) (hw:Region.wanted o (yielded ops a.tmps)=true)
  (h:∀ K:Act→World→Prop,Hid (∀ a w,S w→anyR F n P ops Q S k (listed.setIfInBounds i true) a w→K a w)→o.uponIn F n P a K Q ((execOp a.eval o).run P w)):anyR F n P ops Q S (k + 1) listed a w:=by
 refine ⟨fun h0=>(by rw [hr] at h0;cases h0),fun j hj=>?_⟩
 rw [hr,List.mem_singleton] at hj
 subst hj
 intro o' ho'
 rw [ho] at ho'
 cases ho'
 rw [if_pos hw]
 exact h _ fun a w hS hh=>⟨hS,hh⟩
theorem anyR_done {listed:Array Bool} {a:Act} {w:World} (hr:Region.ready .any ops listed=[]) (h:Q .normal a w):∀ k,anyR F n P ops Q S k listed a w
 | 0=>⟨hr,h⟩
 | _ + 1=>⟨fun _=>h,by rw [hr];simp⟩
theorem wpIn_anyR {l id:Nat} {a:Act} {w:World} (hq:∀ (i:Nat) (o:Oper),ops[i]?=some o→∀ c,o.op≠.defer c) (hm:P.follows .mixedOrders=true) (hS:S w.drew)
  (h:S w.drew→anyR (Fence.wide.inRound l) n P ops Q S ops.size (Array.replicate ops.size false) a w.drew):(Code.region id ops true).wpIn (Fence.wide.inRound l) n P Q a w :=
 wpIn_region_any hm (anyR_in hq _ _ _ _ (h hS))
end
end Go.Proofs.YtjomfbegghgbdaaGreat.P
