import Derived.Test.YtdhciadajendnaaGreatK07
import Derived.Deep.CutRange
import Derived.Deep.LoopGhost
set_option maxRecDepth 100000
namespace Go.Proofs.YtdhciadajendnaaGreat.P
open Go.RowKit
set_option maxHeartbeats 4000000 in
theorem Upto_any (u:Option Addr) (xs:List It) (i:Int) (w:World) (h:TT w (.agg #[.pointer u]) xs) (hw:wt xs≤4611686018427387904) (hi:i≤9223372036854775807) :
  Calls Tryz.prog 95 #[.agg #[.pointer u],.int .i64 i] w fun e w'=>∃ s,Hid (s=rA.su (xs.take i.toNat))∧e=.returned (.agg #[.int .i64 s.a,.int .i64 s.s,.int .i64 s.b,.bool s.lf,.bool s.cr])∧Below w.heap.size w w':=by
 obtain ⟨u',tr,hu,ht,hl,_⟩:=h
 obtain rfl:u=u':=by simpa using hu
 obtain ⟨w0,hw0⟩:∃ w0,w0=((w.alloc (.cells #[.pointer u] 90)).alloc (.cells #[.int .i64 0,.int .i64 0,.int .i64 0,.bool false,.bool false] 94)).alloc (.cells #[.int .i64 0,.int .i64 0,.int .i64 0,.bool false,.bool false] 94):=⟨_,rfl⟩
 have hb0:Below w.heap.size w w0:=by rw [hw0];exact zxa (zxa (zxa (Below.refl _ _) _) _) _
 have hA:Blk 94 w0 (w.heap.size + 1) Rs.zero:=by
  have:=Blk.new 94 (w.alloc (.cells #[.pointer u] 90)) Rs.zero
  rw [World.size_alloc] at this
  rw [hw0];exact this.ext (zxa (Below.refl _ _) _)
 have hB:Blk 94 w0 (w.heap.size + 2) Rs.zero:=by
  have:=Blk.new 94 ((w.alloc (.cells #[.pointer u] 90)).alloc (.cells #[.int .i64 0,.int .i64 0,.int .i64 0,.bool false,.bool false] 94)) Rs.zero
  rw [World.size_alloc,World.size_alloc] at this
  rw [hw0];exact this
 have HT:=zh (ht.ext hb0)
 have HL:=zh hl
 have HB0:=zh hb0
 have HA:=zh hA
 have HBB:=zh hB
 have HW:=zh hw
 clear ht hl hb0 hu hw hA hB
 have hmt1:=m_meas
 have hmt2:=m_add
 have hnt1:=n_meas
 have hnt2:=n_add
 go_enter Tryz.func95,Tryz.ntmps95
 go_wp2_with fail
 rw [← hw0]
 clear hw0
 go_loopg [1,6] xs.length (fun gk c p wr=>∃ (t:Tr It) (q:Option Addr) (d:List It) (j:Int),t.list.length≤gk∧c=.int .i64 j∧p=.pointer q∧Tin wr t q∧Hid (xs.take i.toNat=d ++ t.list.take j.toNat∧wt (d ++ t.list)≤4611686018427387904∧j≤9223372036854775807)∧Blk 94 wr (w.heap.size + 2) (rA.su d)∧Blk 94 wr (w.heap.size + 1) Rs.zero∧Below w.heap.size w wr)
 case atStart=>exact ⟨tr,u,[],i,by rw [HL.out];exact Nat.le_refl _,rfl,rfl,HT.out,⟨by rw [HL.out];rfl,by rw [HL.out];exact HW.out,hi⟩,HBB.out,HA.out,HB0.out⟩
 case round =>
  obtain ⟨t,q,d,j,hgk,rfl,rfl,htq,HI,hB,hA,hb⟩:=hrel
  have hszB:=hB.lt
  cases t using Tr.ind with
  | nil =>
    simp only [Tin] at htq
    subst htq
    obtain ⟨b0,b1,b2,b3,_⟩:=hB.cells
    obtain ⟨a0,a1,a2,a3,af⟩:=hA.cells
    have HE:Hid (rA.su d=rA.su (xs.take i.toNat)):=by rw [HI.out.1];simp [Tr.list,Hid]
    obtain ⟨p1,p2⟩:=hA.put (rA.su d)
    have HP:=zh (zbp hb (by omega) p2 (by omega))
    clear p1 p2
    generalize rA.su d=sd at *
    go_wp2_with fail
    exact bodyPost_ret (v:=.agg #[.int .i64 sd.a,.int .i64 sd.s,.int .i64 sd.b,.bool sd.lf,.bool sd.cr]) (by simp [results,Tryz.results95,go_sem,a0]) rfl ⟨sd,HE,rfl,HP.out⟩
  | node l x r =>
    obtain ⟨g,lu,ru,rfl,hgl,h2,h3,c0,c1,c2,c3⟩:=htq.lt
    have HGK:Hid (l.list.length < gk∧r.list.length < gk):=by rw [Tr.list] at hgk;simp only [List.length_append,List.length_cons] at hgk;unfold Hid;omega
    clear hgk
    obtain ⟨i1,i2,i3⟩:=HI.out
    rw [Tr.list] at i1 i2
    have ew:=i2
    simp only [wt_app,wt_cons] at ew
    have b2:=wt_len l.list
    have hn2:¬ g=w.heap.size + 2:=by
     intro e
     obtain ⟨g',lv',rv',e1,hg',_⟩:=htq
     obtain rfl:g=g':=by simpa using e1
     unfold Blk at hB
     rw [e,hB] at hg'
     simp at hg'
    have CL:Hid (Calls Tryz.prog 101 #[.pointer lu] wr fun e w''=>e=.returned (.int .i64 l.list.length)∧w''=wr):=count_any l lu wr h2
    by_cases hj:j≤(l.list.length:Int)
    ·have HG:Hid (xs.take i.toNat=d ++ l.list.take j.toNat∧wt (d ++ l.list)≤4611686018427387904∧j≤9223372036854775807):=⟨by rw [i1,List.take_append_of_le_length (by omega)],by rw [wt_app];omega,i3⟩
     have H2:=zh h2
     clear h2 h3 htq hn2
     generalize hX:l.list.length=nl at *
     have ENL:=zh hX
     clear hX
     go_wp2_with fail
     refine CL.out.mono ?_
     rintro e w' ⟨rfl,rfl⟩
     go_wp2_with fail
     go_roundg l.list.length
     case measure=>rw [ENL.out];exact HGK.out.1
     case rel=>exact ⟨l,lu,d,j,Nat.le_refl _,rfl,rfl,H2.out,HG.out,hB,hA,hb⟩
    ·have hj':(l.list.length:Int) < j:=Int.not_le.1 hj
     have HG:Hid (xs.take i.toNat=(d ++ l.list ++ [x]) ++ r.list.take (j - (l.list.length + 1)).toNat∧wt ((d ++ l.list ++ [x]) ++ r.list)≤4611686018427387904∧j - (l.list.length + 1)≤9223372036854775807):=⟨by rw [i1,show j.toNat=l.list.length + ((j - (l.list.length + 1)).toNat + 1) by omega,List.take_length_add_append,List.take_succ_cons];simp,by simpa using i2,by omega⟩
     have TL:Hid (∀ w',Below wr.heap.size wr w'→Calls Tryz.prog 65 #[.pointer lu] w' fun e w''=>∃ s,Hid (s=rA.su l.list)∧e=.returned (.agg #[.int .i64 s.a,.int .i64 s.s,.int .i64 s.b,.bool s.lf,.bool s.cr])∧Below w'.heap.size w' w''):=fun w' hb'=>total_any l lu w' (h2.ext hb')
     have A1:Hid (∀ s w',Hid (s=rA.su l.list)→Calls Tryz.prog 77 #[.agg #[.int .i64 (rA.su d).a,.int .i64 (rA.su d).s,.int .i64 (rA.su d).b,.bool (rA.su d).lf,.bool (rA.su d).cr],.agg #[.int .i64 s.a,.int .i64 s.s,.int .i64 s.b,.bool s.lf,.bool s.cr]] w' fun e w''=>∃ q,Hid (q=rA.su (d ++ l.list))∧e=.returned (.agg #[.int .i64 q.a,.int .i64 q.s,.int .i64 q.b,.bool q.lf,.bool q.cr])∧Below w'.heap.size w' w''):=fun s w' hs=>add_su d l.list _ s w' rfl hs (by rw [wt_app];omega)
     have MM:Hid (∀ w',Calls Tryz.prog 162 #[.agg #[.slice x.p x.n x.c,.int .i64 x.pl,.int .i64 x.sp.a,.int .i64 x.sp.s,.int .i64 x.sp.b,.bool x.sp.lf,.bool x.sp.cr]] w' fun e w''=>∃ s,Hid (s=rA.su [x])∧e=.returned (.agg #[.int .i64 s.a,.int .i64 s.s,.int .i64 s.b,.bool s.lf,.bool s.cr])∧Below w'.heap.size w' w''):=fun w'=>(Measure_any x w').mono fun _ _ ⟨s,k1,k2,k3⟩=>⟨s,k1.out.trans (su_one x).symm,k2,k3⟩
     have A2:Hid (∀ q s w',Hid (q=rA.su (d ++ l.list))→Hid (s=rA.su [x])→Calls Tryz.prog 77 #[.agg #[.int .i64 q.a,.int .i64 q.s,.int .i64 q.b,.bool q.lf,.bool q.cr],.agg #[.int .i64 s.a,.int .i64 s.s,.int .i64 s.b,.bool s.lf,.bool s.cr]] w' fun e w''=>∃ q,Hid (q=rA.su (d ++ l.list ++ [x]))∧e=.returned (.agg #[.int .i64 q.a,.int .i64 q.s,.int .i64 q.b,.bool q.lf,.bool q.cr])∧Below w'.heap.size w' w''):=fun q s w' hq hs=>add_su (d ++ l.list) [x] q s w' hq hs (by simp only [wt_app,wt_cons,wt_nil];omega)
     have HCC:Hid (∀ w',Below wr.heap.size wr w'→(C7s w' g x∧True∧w'.cell? ⟨g,7,none⟩=some (.pointer lu)∧w'.cell? ⟨g,8,none⟩=some (.pointer ru))∧Blk 94 w' (w.heap.size + 2) (rA.su d)∧Blk 94 w' (w.heap.size + 1) Rs.zero∧Tin w' r ru):=fun w' hb'=>⟨⟨(by first | trivial | exact C7.ext hb' hgl c0 | exact C5.ext hb' hgl c0 | exact (hb'.cell (p:=⟨g,0,none⟩) hgl).trans c0 | exact (hb'.cell (p:=⟨g,0,none⟩) hgl).trans c0),(by first | trivial | exact C7.ext hb' hgl c1 | exact C5.ext hb' hgl c1 | exact (hb'.cell (p:=⟨g,1,none⟩) hgl).trans c1 | exact (hb'.cell (p:=⟨g,1,none⟩) hgl).trans c1),(by first | trivial | exact C7.ext hb' hgl c2 | exact C5.ext hb' hgl c2 | exact (hb'.cell (p:=⟨g,7,none⟩) hgl).trans c2 | exact (hb'.cell (p:=⟨g,2,none⟩) hgl).trans c2),(by first | trivial | exact C7.ext hb' hgl c3 | exact C5.ext hb' hgl c3 | exact (hb'.cell (p:=⟨g,8,none⟩) hgl).trans c3 | exact (hb'.cell (p:=⟨g,3,none⟩) hgl).trans c3)⟩,hB.ext hb',hA.ext hb',h3.ext hb'⟩
     have HB:=zh hb
     have HN2:=zh hn2
     have hjb:j≤9223372036854775807:=i3
     have hnb:(l.list.length:Int)≤4611686018427387904:=by omega
     obtain ⟨z0,z1,z2,z3,zf⟩:=hB.cells
     clear h2 h3 htq hn2 i1 i2 i3 ew b2 hb hB hA
     generalize hX1:rA.su d=sd at *
     generalize rA.su (d ++ l.list)=s1 at *
     generalize hX2:rA.su (d ++ l.list ++ [x])=s2 at *
     generalize rA.su l.list=sl at *
     generalize rA.su [x]=sx at *
     generalize l.list.length=nl at *
     have ES2:=zh hX2
     clear hX1 hX2
     go_wp2_with fail
     refine CL.out.mono ?_
     rintro e w' ⟨rfl,rfl⟩
     go_upto_region 7 with fail
     go_cut [] from 10 to 47 (fun wF=>Hid (Blk 94 wF (w.heap.size + 2) s2∧Blk 94 wF (w.heap.size + 1) Rs.zero∧Tin wF r ru∧Below w.heap.size w wF∧wF.cell? ⟨g,8,none⟩=some (.pointer ru)))
     case first =>
      refine wp_region_held_drew (S:=fun w''=>(w''.cell? ⟨g,0,none⟩=some (.slice x.p x.n x.c)∧w''.cell? ⟨g,1,none⟩=some (.int .i64 x.pl)∧w''.cell? ⟨g,2,none⟩=some (.int .i64 x.sp.a)∧w''.cell? ⟨g,3,none⟩=some (.int .i64 x.sp.s)∧w''.cell? ⟨g,4,none⟩=some (.int .i64 x.sp.b)∧w''.cell? ⟨g,5,none⟩=some (.bool x.sp.lf)∧w''.cell? ⟨g,6,none⟩=some (.bool x.sp.cr))∧True∧w''.cell? ⟨g,7,none⟩=some (.pointer lu)) (by kernel_rfl) (by first | exact ⟨c0,c1,c2⟩ | (dsimp only;go_keep)) (fun _=>?_)
      refine tkH 2 rfl ?_
      refine tkH 3 rfl ?_
      refine tkH 4 rfl ?_
      refine tkH 5 rfl ?_
      refine tkH 9 rfl ?_
      refine tkH 10 rfl ?_
      refine tkH 11 rfl ?_
      refine tkH 12 rfl ?_
      refine tkH 13 rfl ?_
      refine wpAnyH_ready (rs:=[0,6]) (by kernel_rfl) (by simp) ?_
      refine AllReadyH.cons (o:=_) rfl (fun K hK=>?_) ?_
      ·go_simp
       refine hK.out _ _ (by first | exact ⟨c0,c1,c2⟩ | go_keep) (fun _=>?_)
       clear hK K
       try simp only [Act.put,tS]
       refine tkH 1 rfl ?_
       refine rdH 6 rfl fun K hK=>?_
       go_simp
       refine (TL.out _ (by repeat (first | exact HB4.out | exact HB3.out | exact HB2.out | exact HB1.out | exact Below.refl _ _ | apply Below.drew))).mono ?_;rintro e w1 ⟨q1,HL1,rfl,hbb⟩;have HB1:Hid (Below w'.heap.size w' w1):=zxt (by repeat (first | exact HB4.out | exact HB3.out | exact HB2.out | exact HB1.out | exact Below.refl _ _ | apply Below.drew)) hbb;clear hbb c0 c1 c2 z0 z1 z2 z3 zf;obtain ⟨⟨c0,c1,c2,_⟩,hkk,_⟩:=HCC.out w1 HB1.out;obtain ⟨z0,z1,z2,z3,zf⟩:=hkk.cells;try go_wp2_with fail
       refine hK.out _ _ (⟨c0,c1,c2⟩) (fun _=>?_)
       clear hK K
       try simp only [Act.put,tS]
       refine rdH 7 rfl fun K hK=>?_
       go_simp
       refine (A1.out _ _ HL1).mono ?_;rintro e w2 ⟨q2,HQ2,rfl,hbb⟩;have HB2:Hid (Below w'.heap.size w' w2):=zxt (by repeat (first | exact HB4.out | exact HB3.out | exact HB2.out | exact HB1.out | exact Below.refl _ _ | apply Below.drew)) hbb;clear hbb c0 c1 c2 z0 z1 z2 z3 zf;obtain ⟨⟨c0,c1,c2,_⟩,hkk,_⟩:=HCC.out w2 HB2.out;obtain ⟨z0,z1,z2,z3,zf⟩:=hkk.cells;try go_wp2_with fail
       refine hK.out _ _ (⟨c0,c1,c2⟩) (fun _=>?_)
       clear hK K
       try simp only [Act.put,tS]
       refine tkH 8 rfl ?_
       refine rdH 14 rfl fun K hK=>?_
       go_simp
       refine (MM.out _).mono ?_;rintro e w3 ⟨q3,HQ3,rfl,hbb⟩;have HB3:Hid (Below w'.heap.size w' w3):=zxt (by repeat (first | exact HB4.out | exact HB3.out | exact HB2.out | exact HB1.out | exact Below.refl _ _ | apply Below.drew)) hbb;clear hbb c0 c1 c2 z0 z1 z2 z3 zf;obtain ⟨⟨c0,c1,c2,_⟩,hkk,_⟩:=HCC.out w3 HB3.out;obtain ⟨z0,z1,z2,z3,zf⟩:=hkk.cells;try go_wp2_with fail
       refine hK.out _ _ (⟨c0,c1,c2⟩) (fun _=>?_)
       clear hK K
       try simp only [Act.put,tS]
       refine rdH 15 rfl fun K hK=>?_
       go_simp
       refine (A2.out _ _ _ HQ2 HQ3).mono ?_;rintro e w4 ⟨q4,HQ4,rfl,hbb⟩;have HB4:Hid (Below w'.heap.size w' w4):=zxt (by repeat (first | exact HB4.out | exact HB3.out | exact HB2.out | exact HB1.out | exact Below.refl _ _ | apply Below.drew)) hbb;clear hbb c0 c1 c2 z0 z1 z2 z3 zf;obtain ⟨⟨c0,c1,c2,_⟩,hkk,_⟩:=HCC.out w4 HB4.out;obtain ⟨z0,z1,z2,z3,zf⟩:=hkk.cells;try go_wp2_with fail
       refine hK.out _ _ (⟨c0,c1,c2⟩) (fun _=>?_)
       clear hK K
       try simp only [Act.put,tS]
       refine rdH 16 rfl fun K hK=>?_
       go_simp
       refine hK.out _ _ (by simp only [zcs HN2.out];exact ⟨c0,c1,c2⟩) (fun _=>?_)
       clear hK K
       try simp only [Act.put,tS]
       refine dnH ?_
       go_wp2_with fail
       go_meet
       case rel =>
        obtain ⟨⟨_,_,_,k3⟩,hk,hk0,hr⟩:=HCC.out w4 HB4.out
        obtain ⟨p1,p2⟩:=hk.put q4
        have E:=HQ4.out
        subst E
        exact ⟨p1,hk0.other p2 (by omega),hr.put hk (by decide) p2,zbp (HB.out.trans (HB4.out.mono (by omega))) (by have:=HB4.out.size;omega) p2 (by omega),by simp only [zcs HN2.out];exact k3⟩
      refine AllReadyH.cons (o:=_) rfl (fun K hK=>?_) AllReadyH.nil
      go_simp
      refine (TL.out _ (by repeat (first | exact HB4.out | exact HB3.out | exact HB2.out | exact HB1.out | exact Below.refl _ _ | apply Below.drew))).mono ?_;rintro e w1 ⟨q1,HL1,rfl,hbb⟩;have HB1:Hid (Below w'.heap.size w' w1):=zxt (by repeat (first | exact HB4.out | exact HB3.out | exact HB2.out | exact HB1.out | exact Below.refl _ _ | apply Below.drew)) hbb;clear hbb c0 c1 c2 z0 z1 z2 z3 zf;obtain ⟨⟨c0,c1,c2,_⟩,hkk,_⟩:=HCC.out w1 HB1.out;obtain ⟨z0,z1,z2,z3,zf⟩:=hkk.cells;try go_wp2_with fail
      refine hK.out _ _ (⟨c0,c1,c2⟩) (fun _=>?_)
      clear hK K
      try simp only [Act.put,tS]
      refine rdH 0 rfl fun K hK=>?_
      go_simp
      refine hK.out _ _ (⟨c0,c1,c2⟩) (fun _=>?_)
      clear hK K
      try simp only [Act.put,tS]
      refine tkH 1 rfl ?_
      refine rdH 7 rfl fun K hK=>?_
      go_simp
      refine (A1.out _ _ HL1).mono ?_;rintro e w2 ⟨q2,HQ2,rfl,hbb⟩;have HB2:Hid (Below w'.heap.size w' w2):=zxt (by repeat (first | exact HB4.out | exact HB3.out | exact HB2.out | exact HB1.out | exact Below.refl _ _ | apply Below.drew)) hbb;clear hbb c0 c1 c2 z0 z1 z2 z3 zf;obtain ⟨⟨c0,c1,c2,_⟩,hkk,_⟩:=HCC.out w2 HB2.out;obtain ⟨z0,z1,z2,z3,zf⟩:=hkk.cells;try go_wp2_with fail
      refine hK.out _ _ (⟨c0,c1,c2⟩) (fun _=>?_)
      clear hK K
      try simp only [Act.put,tS]
      refine tkH 8 rfl ?_
      refine rdH 14 rfl fun K hK=>?_
      go_simp
      refine (MM.out _).mono ?_;rintro e w3 ⟨q3,HQ3,rfl,hbb⟩;have HB3:Hid (Below w'.heap.size w' w3):=zxt (by repeat (first | exact HB4.out | exact HB3.out | exact HB2.out | exact HB1.out | exact Below.refl _ _ | apply Below.drew)) hbb;clear hbb c0 c1 c2 z0 z1 z2 z3 zf;obtain ⟨⟨c0,c1,c2,_⟩,hkk,_⟩:=HCC.out w3 HB3.out;obtain ⟨z0,z1,z2,z3,zf⟩:=hkk.cells;try go_wp2_with fail
      refine hK.out _ _ (⟨c0,c1,c2⟩) (fun _=>?_)
      clear hK K
      try simp only [Act.put,tS]
      refine rdH 15 rfl fun K hK=>?_
      go_simp
      refine (A2.out _ _ _ HQ2 HQ3).mono ?_;rintro e w4 ⟨q4,HQ4,rfl,hbb⟩;have HB4:Hid (Below w'.heap.size w' w4):=zxt (by repeat (first | exact HB4.out | exact HB3.out | exact HB2.out | exact HB1.out | exact Below.refl _ _ | apply Below.drew)) hbb;clear hbb c0 c1 c2 z0 z1 z2 z3 zf;obtain ⟨⟨c0,c1,c2,_⟩,hkk,_⟩:=HCC.out w4 HB4.out;obtain ⟨z0,z1,z2,z3,zf⟩:=hkk.cells;try go_wp2_with fail
      refine hK.out _ _ (⟨c0,c1,c2⟩) (fun _=>?_)
      clear hK K
      try simp only [Act.put,tS]
      refine rdH 16 rfl fun K hK=>?_
      go_simp
      refine hK.out _ _ (by simp only [zcs HN2.out];exact ⟨c0,c1,c2⟩) (fun _=>?_)
      clear hK K
      try simp only [Act.put,tS]
      refine dnH ?_
      go_wp2_with fail
      go_meet
      case rel =>
       obtain ⟨⟨_,_,_,k3⟩,hk,hk0,hr⟩:=HCC.out w4 HB4.out
       obtain ⟨p1,p2⟩:=hk.put q4
       have E:=HQ4.out
       subst E
       exact ⟨p1,hk0.other p2 (by omega),hr.put hk (by decide) p2,zbp (HB.out.trans (HB4.out.mono (by omega))) (by have:=HB4.out.size;omega) p2 (by omega),by simp only [zcs HN2.out];exact k3⟩
     have HQ:=hcut
     obtain ⟨f1,f2,f3,f4,f5⟩:=HQ.out
     have F1:=zh f1
     have F2:=zh f2
     have F3:=zh f3
     have F4:=zh f4
     clear f1 f2 f3 f4 hcut HQ c0 c1 c2 c3 z0 z1 z2 z3 zf
     go_wp2_with fail
     go_roundg r.list.length
     case measure=>exact HGK.out.2
     case rel=>exact ⟨r,ru,d ++ l.list ++ [x],_,Nat.le_refl _,rfl,rfl,F3.out,HG.out,by rw [ES2.out];exact F1.out,F2.out,F4.out⟩
open Go.RowKit
section
variable {F:Fence} {n:Nat} {P:Program} {ops:Array Oper} {Q:Exit→Act→World→Prop} {S:World→Prop}
theorem upon_move {o:Oper} {a b:Act} {K K':Act→World→Prop} {r:Result Next} (hv:∀ u w',K (a.put o.dst u) w'→K' (b.put o.dst u) w') (hd:∀ d w',K ({ a with defers:=d :: a.defers }.put o.dst undef) w'→K' ({ b with defers:=d :: b.defers }.put o.dst undef) w') (hq:∀ c w',Q (.panic c) a w'→Q (.panic c) b w')
  (h:o.uponIn F n P a K Q r):o.uponIn F n P b K' Q r:=by
 unfold Oper.uponIn at h ⊢
 split at h
 ·exact hv _ _ h
 ·exact hv _ _ h
 ·exact hd _ _ h
 ·refine ⟨h.1,h.2.mono fun e w'' he=>?_⟩
  cases e with
  | returned v=>exact hv _ _ he
  | panicked c=>exact hq _ _ he
  | outgrown=>exact he
 ·exact ⟨h.1,h.2.mono fun v w'' he=>hv _ _ he⟩
 ·refine ⟨h.1,RoundIn.mono h.2 fun e w'' he=>?_⟩
  cases e with
  | returned v=>exact hv _ _ he
  | panicked c=>exact hq _ _ he
  | outgrown=>exact he
 ·exact hq _ _ h
 ·exact h.elim
def opR (F:Fence) (n:Nat) (P:Program) (ops:Array Oper) (Q:Exit→Act→World→Prop) (i:Nat) (K:Act→World→Prop) (a:Act) (w:World):Prop :=
 ∀ o,ops[i]?=some o→if Region.wanted o (yielded ops a.tmps)=true then o.uponIn F n P a K Q ((execOp a.eval o).run P w) else K (a.put o.dst undef) w
def anyR (F:Fence) (n:Nat) (P:Program) (ops:Array Oper) (Q:Exit→Act→World→Prop) (S:World→Prop):Nat→Array Bool→Act→World→Prop
 | 0,listed,a,w=>Region.ready .any ops listed=[]∧Q .normal a w
 | k + 1,listed,a,w=>(Region.ready .any ops listed=[]→Q .normal a w)∧∀ i ∈ Region.ready .any ops listed,opR F n P ops Q i (fun a' w'=>S w'∧anyR F n P ops Q S k (listed.setIfInBounds i true) a' w') a w
theorem anyR_in {l:Nat} (hq:∀ (i:Nat) (o:Oper),ops[i]?=some o→∀ c,o.op≠.defer c):∀ (k:Nat) (listed:Array Bool) (a:Act) (w:World),anyR (Fence.wide.inRound l) n P ops Q S k listed a w→wpAnyIn (Fence.wide.inRound l) n P .any ops Q k listed a w:=by
 intro k
 induction k with
 | zero=>intro listed a w h;exact h
 | succ k ih =>
   intro listed a w h
   refine ⟨h.1,fun i hi=>?_⟩
   obtain ⟨_,o,ho,_⟩:=mem_ready.1 hi
   have h2:=h.2 i hi o ho
   unfold wpOpIn
   simp only [ho]
   split at h2
   ·rename_i hw
    rw [if_pos hw]
    refine ⟨fun f _=>trivial,?_⟩
    rw [Oper.semAt_plain _ _ _ (hq i o ho)]
    exact upon_move (fun u w' h=>ih _ _ _ h.2) (fun d w' h=>ih _ _ _ h.2) (fun _ _ h=>h) h2
   ·rename_i hw
    rw [if_neg hw]
    exact ⟨fun f _=>trivial,ih _ _ _ h2.2⟩
theorem anyR_first {i:Nat} {oi:Oper} {v:Value} (hi:ops[i]?=some oi) (hsel:∀ (j:Nat) (o:Oper) cs b,ops[j]?=some o→o.op≠.select cs b) (hQ:∀ c a w,Q (.panic c) (a.put oi.dst v) w→Q (.panic c) a w) :
  ∀ (k:Nat) (listed:Array Bool) (a:Act) (w:World),(∀ j oj,ops[j]?=some oj→j≠i→listed.getD j true=false→(∀ e ∈ oj.after,Region.binds .any e=true→e.on≠i)→oi.apart ops oj=true) →
    i ∈ Region.ready .any ops listed→YieldsIf P ops S oi v a→S w→anyR F n P ops Q S k (listed.setIfInBounds i true) (a.put oi.dst v) w→anyR F n P ops Q S (k + 1) listed a w:=by
 have now:∀ (a:Act) (w:World) (K:Act→World→Prop),YieldsIf P ops S oi v a→S w→K (a.put oi.dst v) w→opR F n P ops Q i K a w:=fun a w K hy hS hK o ho=>by
  rw [hi] at ho
  cases ho
  rcases hy with ⟨h1,h2⟩ | ⟨h1,rfl⟩
  ·rw [if_pos h1,h2 w hS];exact hK
  ·rw [if_neg (by rw [h1];decide)];exact hK
 intro k
 induction k with
 | zero =>
   intro listed a w _ hr hy hS H
   refine ⟨fun h=>(by rw [h] at hr;cases hr),fun j hj=>?_⟩
   by_cases hji:j=i
   ·subst hji;exact now a w _ hy hS ⟨hS,H⟩
   ·have:=ready_mono hj hji
    rw [H.1] at this
    cases this
 | succ k ih =>
   intro listed a w hfree hr hy hS H
   refine ⟨fun h=>(by rw [h] at hr;cases hr),fun j hj=>?_⟩
   by_cases hji:j=i
   ·subst hji;exact now a w _ hy hS ⟨hS,H⟩
   ·intro oj hoj
    obtain ⟨hjun,oj',hoj',hall⟩:=mem_ready.1 hj
    rw [hoj] at hoj'
    cases hoj'
    have h1:=H.2 j (ready_mono hj hji) oj hoj
    have hnot:∀ e ∈ oj.after,Region.binds .any e=true→e.on≠i:=fun e he hb heq=>by
     have q1:=hall e he hb
     have q0:=(mem_ready.1 hr).1
     rw [heq] at q1
     rcases Nat.lt_or_ge i listed.size with h' | h'
     ·simp [h'] at q0 q1;rw [q0] at q1;cases q1
     ·simp [Array.getElem?_eq_none h'] at q1
    obtain ⟨p1,p2,p3⟩:=Oper.apart_spec (hfree j oj hoj hji hjun hnot)
    have keep:∀ (b:Act),YieldsIf P ops S oi v b→∀ u,YieldsIf P ops S oi v (b.put oj.dst u):=fun b hb u=>hb.of_same (execOp_put oi (fun cs d=>hsel i oi cs d hi) b oj.dst u p3) (wanted_put oi b oj.dst u p3)
    have next:∀ (b:Act) (w':World),YieldsIf P ops S oi v b→S w'→anyR F n P ops Q S k ((listed.setIfInBounds i true).setIfInBounds j true) (b.put oi.dst v) w'→anyR F n P ops Q S (k + 1) (listed.setIfInBounds j true) b w':=fun b w' hb hS' hh=>by
     refine ih _ b w' (fun m om hm hmi hun hno=>hfree m om hm hmi ?_ hno) (ready_mono hr (fun e=>hji e.symm)) hb hS' ?_
     ·by_cases hmj:j=m
      ·subst hmj
       rcases Nat.lt_or_ge j listed.size with h' | h'
       ·simp [h'] at hun
       ·simp [Array.getElem?_eq_none h'] at hjun
      ·rwa [getD_set_ne true hmj] at hun
     ·rw [Array.setIfInBounds_comm _ _ (fun e=>hji e)]
      exact hh
    rw [wanted_put oj a oi.dst v p1] at h1
    split
    ·rename_i hw
     rw [if_pos hw,execOp_put oj (fun cs d=>hsel j oj cs d hoj) a oi.dst v p1] at h1
     refine upon_move (fun u w' h=>⟨h.1,next _ w' (keep a hy u) h.1 ?_⟩) (fun d w' h=>⟨h.1,next _ w' (keep { a with defers:=d :: a.defers } (YieldsIf.of_same (a':={ a with defers:=d :: a.defers }) hy rfl rfl) undef) h.1 ?_⟩) (fun c w' h=>hQ c a w' h) h1
     ·rw [← Act.put_comm a v u p2];exact h.2
     ·rw [← Act.put_comm _ v undef p2,← Act.put_defers];exact h.2
    ·rename_i hw
     rw [if_neg hw] at h1
     refine ⟨h1.1,next _ w (keep a hy undef) h1.1 ?_⟩
     rw [← Act.put_comm a v undef p2]
     exact h1.2
theorem anyR_take {i:Nat} {oi:Oper} {v:Value} {k:Nat} {listed:Array Bool} {a:Act} {w:World} (hi:ops[i]?=some oi) (hs:Region.noSelect ops=true) (hf:Region.free .any ops listed i=true) (hr:(Region.ready .any ops listed).contains i=true)
  (hQ:∀ c a w,Q (.panic c) (a.put oi.dst v) w→Q (.panic c) a w) (hy:YieldsIf P ops S oi v a) (hS:S w) (h:anyR F n P ops Q S k (listed.setIfInBounds i true) (a.put oi.dst v) w):anyR F n P ops Q S (k + 1) listed a w :=
 anyR_first hi (Region.noSelect_spec hs) hQ k listed a w (Region.free_spec hi hf) (by simpa using hr) hy hS h
theorem anyR_one {i:Nat} {o:Oper} {k:Nat} {listed:Array Bool} {a:Act} {w:World} (hr:Region.ready .any ops listed=[i]) (ho:ops[i]?=some o) (hw:Region.wanted o (yielded ops a.tmps)=true)
  (h:∀ K:Act→World→Prop,Hid (∀ a w,S w→anyR F n P ops Q S k (listed.setIfInBounds i true) a w→K a w)→o.uponIn F n P a K Q ((execOp a.eval o).run P w)):anyR F n P ops Q S (k + 1) listed a w:=by
 refine ⟨fun h0=>(by rw [hr] at h0;cases h0),fun j hj=>?_⟩
 rw [hr,List.mem_singleton] at hj
 subst hj
 intro o' ho'
 rw [ho] at ho'
 cases ho'
 rw [if_pos hw]
 exact h _ fun a w hS hh=>⟨hS,hh⟩
theorem anyR_done {listed:Array Bool} {a:Act} {w:World} (hr:Region.ready .any ops listed=[]) (h:Q .normal a w):∀ k,anyR F n P ops Q S k listed a w
 | 0=>⟨hr,h⟩
 | _ + 1=>⟨fun _=>h,by rw [hr];simp⟩
theorem wpIn_anyR {l id:Nat} {a:Act} {w:World} (hq:∀ (i:Nat) (o:Oper),ops[i]?=some o→∀ c,o.op≠.defer c) (hm:P.follows .mixedOrders=true) (hS:S w.drew)
  (h:S w.drew→anyR (Fence.wide.inRound l) n P ops Q S ops.size (Array.replicate ops.size false) a w.drew):(Code.region id ops true).wpIn (Fence.wide.inRound l) n P Q a w :=
 wpIn_region_any hm (anyR_in hq _ _ _ _ (h hS))
end
open Go.RowKit
variable {F:Fence} {n:Nat} {P:Program}
set_option maxHeartbeats 1000000 in
theorem range_y {σ α:Type} {g:Operand} {ps:Array Tmp} {assign body:Code} {Q:Exit→Act→World→Prop} {a:Act} {w:World}
  (hro:F.round=none) (h1:1≤n) {gf:Nat} {lb:Array Value} (hg:a.eval g=.func (.func gf) #[] lb) (hFg:F.fn gf) (eg:∀ args w,(callFunc gf args).run P w=.ok (.enter gf args) w)
  {encs:α→Array Value} {rel:Nat→Prop} {S Sp:List α→Prop} {w0:World} (hseq:SeqX F (n - 1) P gf lb encs rel S Sp w0) (hrw:Kps (fun k=>¬ rel k) w0 w) (hps:∀ x,(encs x).size=ps.size)
  (own:σ→Nat→Prop) (I:σ→List α→World→Prop) (Ix:Code→σ→List α→World→Prop) (s0:σ) (hrel:∀ k,rel k→k < w0.heap.size∧¬ own s0 k)
  (lean:Nat→Prop) (hln:∀ k,lean k→k < w.heap.size)
  (hI:∀ s pre W W',I s pre W→W.heap.size≤W'.heap.size→(∀ k,own s k∨lean k→W'.heap[k]?=W.heap[k]?)→I s pre W')
  (hIx:∀ c s pre W W',Ix c s pre W→W.heap.size≤W'.heap.size→(∀ k,own s k∨lean k→W'.heap[k]?=W.heap[k]?)→Ix c s pre W')
  (hlv:∀ s pre W,I s pre W→∀ k,own s k→k < W.heap.size) (h0:I s0 [] w) (Ax:σ→α→Act→World→Prop) (hAx:∀ s x a' W W',Ax s x a' W→W.heap.size≤W'.heap.size→(∀ k,w.heap.size + 2≤k→k < W.heap.size→W'.heap[k]?=W.heap[k]?)→Ax s x a' W')
  (hassign:∀ (l:Nat) (s:σ) (pre:List α) (x:α) (W:World) (K:Act→World→Prop),I s pre W→w.heap.size + 2≤W.heap.size→(∀ a' W',Below W.heap.size W W'→Ax s x a' W'→K a' W') →
   assign.wpIn (F.inRound l) (n - 1 - 1) P (Exit.then K (fun _ _ _=>False)) { tmps:=(ps.zip (encs x)).foldl (fun t (p,v)=>t.setIfInBounds p v) a.tmps,defers:=[] } W)
  (hbody:∀ (l:Nat) (s:σ) (pre:List α) (x:α) (a':Act) (W:World),I s pre W→Ax s x a' W→Sp (pre ++ [x])→w.heap.size + 2≤W.heap.size→body.wpIn (F.inRound l) (n - 1 - 1) P (postX own I Ix s (pre ++ [x]) W) a' W)
  (hdone:∀ (s:σ) (xs:List α) (W:World),Kps (own s0) w W→Newer own s0 s w→S xs→I s xs W→W.heap[w.heap.size]?=some (.deferred (some []))→¬ own s w.heap.size→Q .normal { a with defers:={ target:=.collected w.heap.size,args:=#[] } :: a.defers } W)
  (hstop:∀ (c:Code) (s:σ) (pre:List α) (W:World),Kps (own s0) w W→Newer own s0 s w→Sp pre→Ix c s pre W→W.heap[w.heap.size]?=some (.deferred (some []))→¬ own s w.heap.size→c.wpIn F n P Q { a with defers:={ target:=.collected w.heap.size,args:=#[] } :: a.defers } W) :
  (Code.rangeFunc g ps assign body).wpIn F n P Q a w:=by
 refine wpIn_rangeFunc fun fn hfn=>?_
 rw [hro]
 obtain ⟨rec,hrec⟩:∃ rec:LoopState→Option Code→Loop,rec=fun st pe=>{ state:=st,pending:=pe,fn,tmps:=a.tmps,params:=ps,assign,body,defers:=w.heap.size }:=⟨_,rfl⟩
 obtain ⟨W1,hW1⟩:∃ W1,(w.alloc (.deferred (some []))).alloc (.loop (rec .ready none))=W1:=⟨_,rfl⟩
 have bW:Below w.heap.size w W1:=by rw [← hW1];exact zxa (zxa (Below.refl _ _) _) _
 have sW:W1.heap.size=w.heap.size + 2:=by rw [← hW1];simp
 have hL1:W1.heap[w.heap.size + 1]?=some (.loop (rec .ready none)):=by
  rw [← hW1]
  have:=World.alloc_heap_new (w.alloc (.deferred (some []))) (.loop (rec .ready none))
  rwa [World.size_alloc] at this
 have hD1:W1.heap[w.heap.size]?=some (.deferred (some [])):=by
  rw [← hW1]
  exact (Below.heap_alloc _ _ _ (by simp)).trans (World.alloc_heap_new w _)
 -- what the caller owns besides: the record and the block for the rounds' deferred calls
 let G:Guest σ α:={
  own:=fun s k=>own s k∨k=w.heap.size∨k=w.heap.size + 1
  J:=fun s pre W=>I s pre W∧(∀ k,own s k→k≠w.heap.size∧k≠w.heap.size + 1)∧W.heap[w.heap.size + 1]?=some (.loop (rec .ready none))∧W.heap[w.heap.size]?=some (.deferred (some []))∧w.heap.size + 2≤W.heap.size
  Jx:=fun s pre W=>∃ c,Ix c s pre W∧(∀ k,own s k→k≠w.heap.size∧k≠w.heap.size + 1)∧W.heap[w.heap.size + 1]?=some (.loop (rec .done (some c)))∧W.heap[w.heap.size]?=some (.deferred (some []))∧w.heap.size + 2≤W.heap.size
  lean:=lean
  stay:=fun s pre W W' h hs hk=>⟨hI s pre W W' h.1 hs (fun k ho=>ho.elim (fun o=>hk k (.inl (.inl o))) (fun q=>hk k (.inr q))),h.2.1,(hk _ (.inl (.inr (.inr rfl)))).trans h.2.2.1,(hk _ (.inl (.inr (.inl rfl)))).trans h.2.2.2.1,Nat.le_trans h.2.2.2.2 hs⟩
  stayx:=fun s pre W W' h hs hk=>by
   obtain ⟨c,h1,h2,h3,h4,h5⟩:=h
   exact ⟨c,hIx c s pre W W' h1 hs (fun k ho=>ho.elim (fun o=>hk k (.inl (.inl o))) (fun q=>hk k (.inr q))),h2,(hk _ (.inl (.inr (.inr rfl)))).trans h3,(hk _ (.inl (.inr (.inl rfl)))).trans h4,Nat.le_trans h5 hs⟩
  lives:=fun s pre W h k ho=>by
   rcases ho with ho | rfl | rfl
   ·exact hlv s pre W h.1 k ho
   ·have:=h.2.2.2.2;omega
   ·have:=h.2.2.2.2;omega }
 have ap0:∀ k,own s0 k→k < w.heap.size:=fun k ho=>hlv s0 [] w h0 k ho
 refine ⟨w.heap.size + 1,[{ target:=.collected w.heap.size,args:=#[] }],W1,{ target:=.fn (.func gf) lb,args:=#[.func (.yield (w.heap.size + 1)) #[] #[]] },W1,gf,
  #[.func (.yield (w.heap.size + 1)) #[] #[]] ++ lb,W1,?_,?_,?_,?_,fun _=>h1,?_⟩
 ·rw [← hW1,hrec];exact run_enterLoop_outer _ _ _ _ _
 ·simp only [resolve,hg]
  simp [go_sem]
 ·intro f' hf'
  simp [Target.leads] at hf'
  subst hf'
  exact hFg
 ·simp [invoke,go_sem,eg]
 ·refine (hseq (w.heap.size + 1) σ G s0 W1 (hrw.trans (Kps.of_below (fun k=>¬ rel k) bW) (fun _ _ e=>e)) (fun k hk=>?_) (fun k hk=>Nat.lt_of_lt_of_le (hln k hk) bW.size) ?_ ?_).mono ?_
  ·obtain ⟨k1,k2⟩:=hrel k hk
   have hsz:=hrw.size
   refine ⟨k1,?_⟩
   rintro (h | rfl | rfl)
   ·exact k2 h
   ·omega
   ·omega
  ·-- a round
   rintro s pre x W ⟨hi,hap,hl,hk,hz⟩ hlen
   have hy:=run_yield (P:=P) (args:=encs x) hl (by rw [hrec];exact hps x)
   rw [hrec] at hy
   refine ⟨fn,_,assign,body,hy,roundIn_of_wpIn hfn (hassign _ s pre x W _ hi hz fun a' Wa bA hax=>?_)⟩
   have za:=bA.size
   have hla:Wa.heap[w.heap.size + 1]?=some (.loop (rec .ready none)):=(bA.block _ (by omega)).trans hl
   have hka:Wa.heap[w.heap.size]?=some (.deferred (some [])):=(bA.block _ (by omega)).trans hk
   refine ⟨_,run_beginRound hla (by rw [hrec]),?_⟩
   obtain ⟨W2,hW2⟩:∃ W2,Wa.putObj (w.heap.size + 1) (.loop { rec .ready none with state:=.busy })=W2:=⟨_,rfl⟩
   rw [hW2]
   have k2:Kps (G.own s) W W2:=by rw [← hW2];exact Kps.trans (Kps.of_below _ bA) (Kps.put (o:=G.own s) _ (.inr (.inr rfl))) (fun _ _ e=>e)
   have z2:W2.heap.size=Wa.heap.size:=by rw [← hW2];simp
   have l2:W2.heap[w.heap.size + 1]?=some (.loop { rec .ready none with state:=.busy }):=by rw [← hW2];exact World.putObj_heap_same (by omega)
   have d2:W2.heap[w.heap.size]?=some (.deferred (some [])):=by rw [← hW2];exact (World.putObj_heap_other (by omega)).trans hka
   have i2:I s pre W2:=hI s pre W W2 hi (by omega) (fun k ho=>by
    rw [← hW2]
    rcases ho with ho | ho
    ·exact (World.putObj_heap_other (hap k ho).2).trans (bA.block k (hlv s pre W hi k ho))
    ·have:=hln k ho
     exact (World.putObj_heap_other (by omega)).trans (bA.block k (by omega)))
   have a2:Ax s x a' W2:=hAx s x a' Wa W2 hax (by omega) (fun k hk _=>by rw [← hW2];exact World.putObj_heap_other (by omega))
   refine wpIn_mono (hbody _ s pre x a' W2 i2 a2 hlen (by omega)) ?_
   -- the round's end,whichever it is
   have fin:∀ (jump:Option Code) (s':σ) (W3:World),Kps (own s) W2 W3→Newer own s s' W2 →
     ∃ W4,(Instr.endRound (w.heap.size + 1) jump).run P W3=.ok (.bool jump.isNone) W4∧W4.heap[w.heap.size + 1]?=some (.loop (rec (if jump.isNone then .ready else .done) jump))∧W4.heap[w.heap.size]?=some (.deferred (some [])) ∧
       W3.heap.size≤W4.heap.size∧w.heap.size + 2≤W4.heap.size∧(∀ k,own s' k→k≠w.heap.size∧k≠w.heap.size + 1)∧(∀ k,own s' k∨lean k→W4.heap[k]?=W3.heap[k]?)∧Kps (G.own s) W W4∧Newer G.own s s' W:=fun jump s' W3 k3 n3=>by
    have l3:W3.heap[w.heap.size + 1]?=some (.loop { rec .ready none with state:=.busy }):=(k3.same _ (by omega) (fun e=>(hap _ e).2 rfl)).trans l2
    have d3:W3.heap[w.heap.size]?=some (.deferred (some [])):=(k3.same _ (by omega) (fun e=>(hap _ e).1 rfl)).trans d2
    have z3:=k3.size
    have hap':∀ k,own s' k→k≠w.heap.size∧k≠w.heap.size + 1:=fun k ho=>by
     rcases n3 k ho with h | h
     ·exact hap k h
     ·omega
    have hr:=run_endRound (P:=P) jump l3
    refine ⟨_,hr,?_,?_,by simp,by simp;omega,hap',fun k ho=>World.putObj_heap_other (ho.elim (fun o=>(hap' k o).2) (fun q=>by have:=hln k q;omega)),?_,?_⟩
    ·rw [hrec];exact World.putObj_heap_same (by omega)
    ·exact (World.putObj_heap_other (by omega)).trans d3
    ·refine Kps.trans (Kps.trans k2 k3 (fun i _ e=>.inl e)) (Kps.put (o:=G.own s) _ (.inr (.inr rfl))) (fun i _ e=>e)
    ·intro k ho
     rcases ho with ho | ho | ho
     ·rcases n3 k ho with h | h
      ·exact .inl (.inl h)
      ·exact .inr (by omega)
     ·exact .inl (.inr (.inl ho))
     ·exact .inl (.inr (.inr ho))
   rintro e a3 W3 hp
   cases e with
   | normal =>
     obtain ⟨s',hi3,k3,n3⟩:=hp
     obtain ⟨W4,hr,q1,q2,q3,q4,q5,q6,q7,q8⟩:=fin none s' W3 k3 n3
     exact ⟨_,_,hr,.inl ⟨rfl,s',⟨hI s' _ W3 W4 hi3 q3 q6,q5,q1,q2,q4⟩,q7,q8⟩⟩
   | ret =>
     obtain ⟨s',hi3,k3,n3⟩:=hp
     obtain ⟨W4,hr,q1,q2,q3,q4,q5,q6,q7,q8⟩:=fin (some .ret) s' W3 k3 n3
     exact ⟨_,_,hr,.inr ⟨rfl,s',⟨_,hIx _ s' _ W3 W4 hi3 q3 q6,q5,q1,q2,q4⟩,q7,q8⟩⟩
   | exit id =>
     obtain ⟨s',hi3,k3,n3⟩:=hp
     obtain ⟨W4,hr,q1,q2,q3,q4,q5,q6,q7,q8⟩:=fin (some (.exit id)) s' W3 k3 n3
     exact ⟨_,_,hr,.inr ⟨rfl,s',⟨_,hIx _ s' _ W3 W4 hi3 q3 q6,q5,q1,q2,q4⟩,q7,q8⟩⟩
   | goto t =>
     obtain ⟨s',hi3,k3,n3⟩:=hp
     obtain ⟨W4,hr,q1,q2,q3,q4,q5,q6,q7,q8⟩:=fin (some (.goto t)) s' W3 k3 n3
     exact ⟨_,_,hr,.inr ⟨rfl,s',⟨_,hIx _ s' _ W3 W4 hi3 q3 q6,q5,q1,q2,q4⟩,q7,q8⟩⟩
   | panic ch=>exact hp.elim
   | outgrown=>exact hp.elim
  ·exact ⟨hI s0 [] w W1 h0 (by omega) (fun k ho=>bW.block k (ho.elim (ap0 k) (hln k))),fun k ho=>by have:=ap0 k ho;omega,hL1,hD1,by omega⟩
  ·-- behind the iterator
   rintro e W2 ⟨⟨v,rfl⟩,s',kW,nW,hend⟩
   have kw:∀ W3,Kps (G.own s0) W1 W3→Kps (own s0) w W3:=fun W3 k=>⟨k.os.trans bW.os,k.tape.trans bW.tape,k.output.trans bW.output,by have:=k.size;omega,fun i hi ho=>(k.same i (by omega) (by rintro (h | h | h);exact ho h;omega;omega)).trans (bW.block i hi)⟩
   have nw:(∀ k,own s' k→k≠w.heap.size∧k≠w.heap.size + 1)→Newer own s0 s' w:=fun hap k ho=>by
    rcases nW k (.inl ho) with (h | h | h) | h
    ·exact .inl h
    ·exact absurd h (hap k ho).1
    ·exact absurd h (hap k ho).2
    ·exact .inr (by omega)
   rcases hend with ⟨xs,hS,hi,hap,hl,hd,hz⟩ | ⟨pre,hSp,c,hi,hap,hl,hd,hz⟩
   ·have hr:=run_endLoop (P:=P) hl (by rw [hrec];simp)
    have hr':(Instr.endLoop (w.heap.size + 1)).run P W2=.ok none (W2.putObj (w.heap.size + 1) (.loop { rec .ready none with state:=.exhausted })):=by rw [hr,hrec]
    refine ⟨none,_,hr',hdone s' xs _ (kw _ (Kps.trans kW (Kps.put (o:=G.own s0) _ (.inr (.inr rfl))) (fun i _ e=>e))) (nw hap) hS (hI s' xs W2 _ hi (by simp) (fun k ho=>World.putObj_heap_other (ho.elim (fun o=>(hap k o).2) (fun q=>by have:=hln k q;omega)))) ((World.putObj_heap_other (by omega)).trans hd) (fun h=>(hap _ h).1 rfl)⟩
   ·have hr:=run_endLoop (P:=P) hl (by rw [hrec];simp)
    have hr':(Instr.endLoop (w.heap.size + 1)).run P W2=.ok (some c) (W2.putObj (w.heap.size + 1) (.loop { rec .done (some c) with state:=.exhausted })):=by rw [hr,hrec]
    refine ⟨some c,_,hr',hstop c s' pre _ (kw _ (Kps.trans kW (Kps.put (o:=G.own s0) _ (.inr (.inr rfl))) (fun i _ e=>e))) (nw hap) hSp (hIx c s' pre W2 _ hi (by simp) (fun k ho=>World.putObj_heap_other (ho.elim (fun o=>(hap k o).2) (fun q=>by have:=hln k q;omega)))) ((World.putObj_heap_other (by omega)).trans hd) (fun h=>(hap _ h).1 rfl)⟩
end Go.Proofs.YtdhciadajendnaaGreat.P
