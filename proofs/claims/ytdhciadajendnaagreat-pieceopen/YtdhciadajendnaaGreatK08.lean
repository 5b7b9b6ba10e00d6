import Derived.Test.YtdhciadajendnaaGreatK07
import Derived.Deep.CutRange
import Derived.Deep.LoopGhost
set_option maxRecDepth 100000
namespace Go.Proofs.YtdhciadajendnaaGreat.P
open Go.RowKit
theorem Blk.new_drew' (T:TypeId) (w:World) (s:Rs):Blk T ((w.alloc (.cells #[.int .i64 s.a,.int .i64 s.s,.int .i64 s.b,.bool s.lf,.bool s.cr] T)).drew) w.heap.size s:=heap_alloc_new _ _
set_option maxHeartbeats 16000000 in
theorem Find_any (u:Option Addr) (xs:List It) (k n:Int) (w:World) (h:TT w (.agg #[.pointer u]) xs) (hw:wt xs≤4611686018427387904) :
  Calls Tryz.prog 93 #[.agg #[.pointer u],.int .i64 k,.int .i64 n] w fun e w'=>e=.returned (.int .i64 (rA.fnd k n Rs.zero xs:Nat))∧Below w.heap.size w w':=by
 by_cases hn:n≤0
 ·have HE:Hid (rA.fnd k n Rs.zero xs=0):=rA.fnd_here k n Rs.zero xs (by have:=rA.keyz k;have e:rA.key Rs.zero k=rA.key rA.zero k:=rfl;omega)
  clear h hw
  go_enter Tryz.func93,Tryz.ntmps93
  go_wp2_with fail
  go_ret
  exact ⟨by rw [HE.out];rfl,zxa (Below.refl _ _) _⟩
 obtain ⟨u',tr,hu,ht,hl,_⟩:=h
 obtain rfl:u=u':=by simpa using hu
 obtain ⟨w0,hw0⟩:∃ w0,w0=(w.alloc (.cells #[.pointer u] 90)).alloc (.cells #[.int .i64 0,.int .i64 0,.int .i64 0,.bool false,.bool false] 94):=⟨_,rfl⟩
 have hb0:Below w.heap.size w w0:=by rw [hw0];exact zxa (zxa (Below.refl _ _) _) _
 have hA:Blk 94 w0 (w.heap.size + 1) Rs.zero:=by
  have:=Blk.new 94 (w.alloc (.cells #[.pointer u] 90)) Rs.zero
  rw [World.size_alloc] at this
  rw [hw0];exact this
 have HT:=zh (ht.ext hb0)
 have HL:=zh hl
 have HB0:=zh hb0
 have HA:=zh hA
 have HW:=zh hw
 clear ht hl hb0 hu hw hA
 have hmt1:=m_meas
 have hmt2:=m_add
 have hmt3:=m_key
 have hnt1:=n_meas
 have hnt2:=n_add
 have hnt3:=n_key
 generalize hF:rA.fnd k n Rs.zero xs=F
 have HF:=zh hF
 clear hF
 go_enter Tryz.func93,Tryz.ntmps93
 go_wp2_with fail
 rw [← hw0]
 clear hw0
 go_loopg [8,9] xs.length (fun gk c p wr=>∃ (t:Tr It) (q:Option Addr) (d:List It),t.list.length≤gk∧c=.int .i64 d.length∧p=.pointer q∧Tin wr t q∧Hid (F=d.length + rA.fnd k n (rA.su d) t.list∧rA.key (rA.su d) k < n∧wt (d ++ t.list)≤4611686018427387904)∧Blk 94 wr (w.heap.size + 1) (rA.su d)∧Below w.heap.size w wr)
 case atStart=>exact ⟨tr,u,[],by rw [HL.out];exact Nat.le_refl _,rfl,rfl,HT.out,⟨by rw [HL.out,← HF.out,Alg.su_nil];simp;rfl,by rw [Alg.su_nil,rA.keyz];omega,by rw [HL.out];exact HW.out⟩,HA.out,HB0.out⟩
 case round =>
  obtain ⟨t,q,d,hgk,rfl,rfl,htq,HI,hB,hb⟩:=hrel
  cases t using Tr.ind with
  | nil =>
    simp only [Tin] at htq
    subst htq
    have HN:Hid (F=d.length + 1):=by
     obtain ⟨a1,a2,_⟩:=HI.out
     rw [Tr.list,Alg.fnd,if_neg (by omega)] at a1
     exact a1
    have hdl:d.length≤4611686018427387904:=by
     have:=HI.out.2.2
     have:=wt_len d
     rw [wt_app] at *
     omega
    generalize d.length=dl at *
    go_wp2_with fail
    go_ret
    exact ⟨by rw [HN.out];rfl,hb⟩
  | node l x r =>
    obtain ⟨g,lu,ru,rfl,hgl,h2,h3,c0,c1,c2,c3⟩:=htq.lt
    have HGK:Hid (l.list.length < gk∧r.list.length < gk):=by rw [Tr.list] at hgk;simp only [List.length_append,List.length_cons] at hgk;unfold Hid;omega
    clear hgk
    obtain ⟨i1,i2,i3⟩:=HI.out
    rw [Tr.list] at i1 i3
    have ew:=i3
    simp only [wt_app,wt_cons] at ew
    have b1:=wt_len d
    have b2:=wt_len l.list
    have HSZ:Hid (∀ w',Below wr.heap.size wr w'→szAt w' (.pointer (some ⟨g,0,none⟩))=l.list.length + 1 + r.list.length∧szAt w' (.pointer lu)=l.list.length∧szAt w' (.pointer ru)=r.list.length∧Tin w' l lu∧Tin w' r ru∧(C7s w' g x∧True∧w'.cell? ⟨g,7,none⟩=some (.pointer lu)∧w'.cell? ⟨g,8,none⟩=some (.pointer ru))∧Blk 94 w' (w.heap.size + 1) (rA.su d)):=fun w' hb' =>
     ⟨by rw [szAt_tin (htq.ext hb'),Tr.list];simp only [List.length_append,List.length_cons];omega,szAt_tin (h2.ext hb'),szAt_tin (h3.ext hb'),h2.ext hb',h3.ext hb',⟨(by first | trivial | exact C7.ext hb' hgl c0 | exact C5.ext hb' hgl c0 | exact (hb'.cell (p:=⟨g,0,none⟩) hgl).trans c0 | exact (hb'.cell (p:=⟨g,0,none⟩) hgl).trans c0),(by first | trivial | exact C7.ext hb' hgl c1 | exact C5.ext hb' hgl c1 | exact (hb'.cell (p:=⟨g,1,none⟩) hgl).trans c1 | exact (hb'.cell (p:=⟨g,1,none⟩) hgl).trans c1),(by first | trivial | exact C7.ext hb' hgl c2 | exact C5.ext hb' hgl c2 | exact (hb'.cell (p:=⟨g,7,none⟩) hgl).trans c2 | exact (hb'.cell (p:=⟨g,2,none⟩) hgl).trans c2),(by first | trivial | exact C7.ext hb' hgl c3 | exact C5.ext hb' hgl c3 | exact (hb'.cell (p:=⟨g,8,none⟩) hgl).trans c3 | exact (hb'.cell (p:=⟨g,3,none⟩) hgl).trans c3)⟩,hB.ext hb'⟩
    have TL:Hid (∀ w',Below wr.heap.size wr w'→Calls Tryz.prog 65 #[.pointer lu] w' fun e w''=>∃ s,Hid (s=rA.su l.list)∧e=.returned (.agg #[.int .i64 s.a,.int .i64 s.s,.int .i64 s.b,.bool s.lf,.bool s.cr])∧Below w'.heap.size w' w''):=fun w' hb'=>total_any l lu w' (h2.ext hb')
    have CL:Hid (∀ w',Below wr.heap.size wr w'→Calls Tryz.prog 101 #[.pointer lu] w' fun e w''=>e=.returned (.int .i64 l.list.length)∧w''=w'):=fun w' hb'=>count_any l lu w' (h2.ext hb')
    have A1:Hid (∀ s w',Hid (s=rA.su l.list)→Calls Tryz.prog 77 #[.agg #[.int .i64 (rA.su d).a,.int .i64 (rA.su d).s,.int .i64 (rA.su d).b,.bool (rA.su d).lf,.bool (rA.su d).cr],.agg #[.int .i64 s.a,.int .i64 s.s,.int .i64 s.b,.bool s.lf,.bool s.cr]] w' fun e w''=>∃ q,Hid (q=rA.su (d ++ l.list))∧e=.returned (.agg #[.int .i64 q.a,.int .i64 q.s,.int .i64 q.b,.bool q.lf,.bool q.cr])∧Below w'.heap.size w' w''):=fun s w' hs=>add_su d l.list _ s w' rfl hs (by rw [wt_app];omega)
    have MM:Hid (∀ w',Below wr.heap.size wr w'→Calls Tryz.prog 162 #[.agg #[.slice x.p x.n x.c,.int .i64 x.pl,.int .i64 x.sp.a,.int .i64 x.sp.s,.int .i64 x.sp.b,.bool x.sp.lf,.bool x.sp.cr]] w' fun e w''=>∃ s,Hid (s=rA.su [x])∧e=.returned (.agg #[.int .i64 s.a,.int .i64 s.s,.int .i64 s.b,.bool s.lf,.bool s.cr])∧Below w'.heap.size w' w''):=fun w' _=>(Measure_any x w').mono fun _ _ ⟨s,k1,k2,k3⟩=>⟨s,k1.out.trans (su_one x).symm,k2,k3⟩
    have A2:Hid (∀ q s w',Hid (q=rA.su (d ++ l.list))→Hid (s=rA.su [x])→Below wr.heap.size wr w'→Calls Tryz.prog 77 #[.agg #[.int .i64 q.a,.int .i64 q.s,.int .i64 q.b,.bool q.lf,.bool q.cr],.agg #[.int .i64 s.a,.int .i64 s.s,.int .i64 s.b,.bool s.lf,.bool s.cr]] w' fun e w''=>∃ q,Hid (q=rA.su (d ++ l.list ++ [x]))∧e=.returned (.agg #[.int .i64 q.a,.int .i64 q.s,.int .i64 q.b,.bool q.lf,.bool q.cr])∧Below w'.heap.size w' w''):=fun q s w' hq hs _=>add_su (d ++ l.list) [x] q s w' hq hs (by simp only [wt_app,wt_cons,wt_nil];omega)
    have e1:rA.add (rA.su d) (rA.su l.list)=rA.su (d ++ l.list):=(rA.su_app _ _).symm
    have e2:rA.add (rA.su (d ++ l.list)) (rA.meas x)=rA.su (d ++ l.list ++ [x]):=(rA.su_snoc _ _).symm
    have GO1:Hid (n≤rA.key (rA.su (d ++ l.list)) k→F=d.length + rA.fnd k n (rA.su d) l.list∧rA.key (rA.su d) k < n∧wt (d ++ l.list)≤4611686018427387904):=fun hk=>⟨by rw [i1,rA.fnd_left k n (x :: r.list) l.list _ (rA.ok d) (by rw [e1];exact hk)],i2,by rw [wt_app];omega⟩
    have GO2:Hid (rA.key (rA.su (d ++ l.list)) k < n→n≤rA.key (rA.su (d ++ l.list ++ [x])) k→F=d.length + (l.list.length + 1)):=fun hk hk2=>by
     rw [i1,rA.fnd_right k n (x :: r.list) l.list _ (rA.ok d) (by rw [e1];exact hk),e1,Alg.fnd,if_neg (by omega),e2,rA.fnd_here _ _ _ _ hk2]
    have GO3:Hid (rA.key (rA.su (d ++ l.list)) k < n→rA.key (rA.su (d ++ l.list ++ [x])) k < n→F=(d ++ l.list ++ [x]).length + rA.fnd k n (rA.su (d ++ l.list ++ [x])) r.list∧rA.key (rA.su (d ++ l.list ++ [x])) k < n∧wt ((d ++ l.list ++ [x]) ++ r.list)≤4611686018427387904):=fun hk hk2=>by
     refine ⟨?_,hk2,by simpa using i3⟩
     rw [i1,rA.fnd_right k n (x :: r.list) l.list _ (rA.ok d) (by rw [e1];exact hk),e1,Alg.fnd,if_neg (by omega),e2]
     simp only [List.length_append,List.length_cons,List.length_nil]
     omega
    have HB:=zh hb
    have d1:((l.list.length + 1:Nat):Int)≤4611686018427387904:=by omega
    have d2:((d.length + (l.list.length + 1):Nat):Int)≤4611686018427387904:=by omega
    have HLN:Hid (d.length + (l.list.length + 1)=(d ++ l.list ++ [x]).length):=by unfold Hid;simp only [List.length_append,List.length_cons,List.length_nil];omega
    have hszw:=hB.lt
    obtain ⟨z0,z1,z2,z3,zf⟩:=hB.cells
    have hn2:¬ g=w.heap.size + 1:=by
     intro e
     obtain ⟨g',lv',rv',e1,hg',_⟩:=htq
     obtain rfl:g=g':=by simpa using e1
     unfold Blk at hB
     rw [e,hB] at hg'
     simp at hg'
    clear htq h2 h3 e1 e2 i1 i2 i3 ew b1 b2 hB hb
    generalize hX1:rA.su d=sd at *
    generalize rA.su (d ++ l.list)=s1 at *
    generalize hX2:rA.su (d ++ l.list ++ [x])=s2 at *
    generalize rA.su l.list=sl at *
    generalize rA.su [x]=sx at *
    generalize hX3:l.list.length=nl at *
    generalize hX4:d.length=dl at *
    have ESD:=zh hX1
    have ES2:=zh hX2
    have ENL:=zh hX3
    have EDL:=zh hX4
    clear hX1 hX2 hX3 hX4
    have HCC:Hid (∀ w',Below wr.heap.size wr w'→w'.cell? ⟨g,7,none⟩=some (.pointer lu)∧(w'.cell? ⟨w.heap.size + 1,0,none⟩=some (.int .i64 sd.a)∧w'.cell? ⟨w.heap.size + 1,1,none⟩=some (.int .i64 sd.s)∧w'.cell? ⟨w.heap.size + 1,2,none⟩=some (.int .i64 sd.b)∧w'.cell? ⟨w.heap.size + 1,3,none⟩=some (.bool sd.lf)∧w'.cell? ⟨w.heap.size + 1,4,none⟩=some (.bool sd.cr))∧True∧True∧True):=fun w' h=>by
     obtain ⟨_,_,_,_,_,⟨k0,k1,k2,k3⟩,hk⟩:=HSZ.out w' h
     obtain ⟨y0,y1,y2,y3,_⟩:=hk.cells
     exact ⟨k2,y0,y1,y2,y3⟩
    go_upto_region 7 with fail
    go_cut [10] from 15 to 62 (fun p wF=>∃ tb:Nat,p=.pointer (some ⟨tb,0,none⟩)∧Hid (∃ q,q=s1∧Blk 94 wF tb q∧Below wr.heap.size wr wF∧wr.heap.size≤tb))
    case first =>
     clear c0 c1 c3 zf
     go_region_held3 (fun w'=>w'.cell? ⟨g,7,none⟩=some (.pointer lu)∧(w'.cell? ⟨w.heap.size + 1,0,none⟩=some (.int .i64 sd.a)∧w'.cell? ⟨w.heap.size + 1,1,none⟩=some (.int .i64 sd.s)∧w'.cell? ⟨w.heap.size + 1,2,none⟩=some (.int .i64 sd.b)∧w'.cell? ⟨w.heap.size + 1,3,none⟩=some (.bool sd.lf)∧w'.cell? ⟨w.heap.size + 1,4,none⟩=some (.bool sd.cr))∧True∧True∧True) (first | exact HCC.out _ (by repeat (first | exact HB2.out | exact HB1.out | exact Below.refl _ _ | apply Below.drew | refine zxa ?_ _ | refine Below.setCell ?_ (by first | exact Nat.le_refl _ | exact HB1.out.size) _)) | go_keep) (first
      | (go_at_call 65;refine (TL.out _ (by repeat (first | exact HB2.out | exact HB1.out | exact Below.refl _ _ | apply Below.drew | refine zxa ?_ _ | refine Below.setCell ?_ (by first | exact Nat.le_refl _ | exact HB1.out.size) _))).mono ?_;clear c2 z0 z1 z2 z3;rintro e w1 ⟨q1,HL1,rfl,hb1⟩;have HW1:=zh hb1;(first | (have hzC:wr.heap.size < w1.heap.size:=(by have:=hb1.size;simp at this;omega);have HT:=zh ((Blk.new_drew' 94 wr Rs.zero).ext HW1.out);obtain ⟨t0,t1,t2,t3,tf⟩:=HT.out.cells) | skip);have HB1:Hid (Below wr.heap.size wr w1):=zxt (by repeat (first | exact HB2.out | exact HB1.out | exact Below.refl _ _ | apply Below.drew | refine zxa ?_ _ | refine Below.setCell ?_ (by first | exact Nat.le_refl _ | exact HB1.out.size) _)) hb1;obtain ⟨c2,z0,z1,z2,z3⟩:=HCC.out w1 HB1.out;clear hb1)
      | (go_at_call 77;refine (A1.out _ _ HL1).mono ?_;clear c2 z0 z1 z2 z3;rintro e w2 ⟨q2,HQ2,rfl,hb2⟩;have HW2:=zh hb2;(first | (have HT2:=zh (HT.out.ext HW2.out);clear t0 t1 t2 t3 tf;obtain ⟨t0,t1,t2,t3,tf⟩:=HT2.out.cells) | (have hzB:w1.heap.size < w2.heap.size:=(by have:=hb2.size;simp at this;omega);have HT2:=zh ((Blk.new 94 w1 Rs.zero).ext HW2.out);obtain ⟨t0,t1,t2,t3,tf⟩:=HT2.out.cells) | skip);have HB2:Hid (Below wr.heap.size wr w2):=zxt (by repeat (first | exact HB2.out | exact HB1.out | exact Below.refl _ _ | apply Below.drew | refine zxa ?_ _ | refine Below.setCell ?_ (by first | exact Nat.le_refl _ | exact HB1.out.size) _)) hb2;obtain ⟨c2,z0,z1,z2,z3⟩:=HCC.out w2 HB2.out;clear hb2))
     all_goals
      go_wp2_with fail
      go_meet
      case rel =>
       first
        | (obtain ⟨p1,p2⟩:=HT2.out.put q2;exact ⟨_,rfl,q2,HQ2.out,p1,zbp HB2.out HB2.out.size p2 (by first | exact Nat.le_refl _ | exact HB1.out.size),by first | exact Nat.le_refl _ | exact HB1.out.size⟩)
        | exact ⟨_,rfl,q2,HQ2.out,Blk.new _ w2 _,zxa HB2.out _,HB2.out.size⟩
    obtain ⟨tb,rfl,HQ⟩:=hcut
    obtain ⟨qa,hqa,hBA,hbA,htb⟩:=HQ.out
    clear c0 c1 c2 c3 z0 z1 z2 z3 zf
    subst hqa
    generalize hWA:wc=WA at *
    clear hWA HQ HCC TL A1
    have HBA:=zh hbA
    have HTA:=zh hBA
    obtain ⟨a0,a1,a2,a3,_⟩:=hBA.cells
    obtain ⟨v1,v2,v3,TLL,TRR,⟨c0,c1,c2,c3⟩,hBS⟩:=HSZ.out WA hbA
    have HTL:=zh TLL
    have HTR:=zh TRR
    have HBS:=zh hBS
    have hszA:=hBA.lt
    clear hbA hBA TLL TRR hBS
    have KK:Hid (∀ (s:Rs) w',Calls Tryz.prog 161 #[.agg #[.int .i64 s.a,.int .i64 s.s,.int .i64 s.b,.bool s.lf,.bool s.cr],.int .i64 k] w' fun e w''=>e=.returned (.int .i64 (rA.key s k))∧Below w'.heap.size w' w''):=fun s w'=>Key_any s k w'
    clear v1 v2 v3
    by_cases hk1:n≤rA.key qa k
    ·have HG:=zh (GO1.out hk1)
     have KA:Hid (∀ w',Calls Tryz.prog 161 #[.agg #[.int .i64 qa.a,.int .i64 qa.s,.int .i64 qa.b,.bool qa.lf,.bool qa.cr],.int .i64 k] w' fun e w''=>e=.returned (.int .i64 (rA.key qa k))∧Below w'.heap.size w' w''):=fun w'=>KK.out qa w'
     clear GO1 GO2 GO3 KK
     generalize rA.key qa k=ka at *
     go_wp2_with (go_at_call 161;refine (KA.out _).mono ?_;clear c0 c1 c2 c3 a0 a1 a2 a3;rintro e w1 ⟨rfl,hb1⟩;have HB1:=zh (zxt HBA.out hb1);obtain ⟨_,_,_,_,_,⟨c0,c1,c2,c3⟩,_⟩:=HSZ.out w1 HB1.out;clear hb1)
     go_roundg l.list.length
     case measure=>rw [ENL.out];exact HGK.out.1
     case rel =>
      obtain ⟨_,_,_,TLL,_,_,hBS⟩:=HSZ.out w1 HB1.out
      exact ⟨l,lu,d,Nat.le_refl _,by rw [EDL.out],rfl,TLL,by have:=HG.out;rw [← EDL.out,← ESD.out] at this;exact this,by rw [ESD.out];exact hBS,HB.out.trans (HB1.out.mono (by omega))⟩
    ·have hk1':rA.key qa k < n:=Int.not_le.1 hk1
     have KA:Hid (∀ w',Calls Tryz.prog 161 #[.agg #[.int .i64 qa.a,.int .i64 qa.s,.int .i64 qa.b,.bool qa.lf,.bool qa.cr],.int .i64 k] w' fun e w''=>e=.returned (.int .i64 (rA.key qa k))∧Below w'.heap.size w' w''):=fun w'=>KK.out qa w'
     have KB:Hid (∀ w',Calls Tryz.prog 161 #[.agg #[.int .i64 s2.a,.int .i64 s2.s,.int .i64 s2.b,.bool s2.lf,.bool s2.cr],.int .i64 k] w' fun e w''=>e=.returned (.int .i64 (rA.key s2 k))∧Below w'.heap.size w' w''):=fun w'=>KK.out s2 w'
     have GA:=zh (GO2.out hk1')
     have GB:=zh (GO3.out hk1')
     clear GO1 GO2 GO3 KK
     generalize rA.key qa k=ka at *
     generalize hKB:rA.key s2 k=kb at *
     have EKB:=zh hKB
     clear hKB
     have hn1:¬ tb=w.heap.size + 1:=by omega
     have hkd:decide (n≤ka)=false:=by simp;omega
     have HN1:=zh hn1
     have HN2:=zh hn2
     clear hn1 hn2
     go_wp2_with fail
     refine (KA.out _).mono ?_
     rintro e w1 ⟨rfl,hb1⟩
     have HK1:=zh hb1
     clear hb1 c0 c1 c2 c3 a0 a1 a2 a3
     go_wp2_with fail
     have HB1:=zh (zxt HBA.out HK1.out)
     have H10:Hid (∀ w',Below w1.heap.size w1 w'→((w'.cell? ⟨tb,0,none⟩=some (.int .i64 qa.a)∧w'.cell? ⟨tb,1,none⟩=some (.int .i64 qa.s)∧w'.cell? ⟨tb,2,none⟩=some (.int .i64 qa.b)∧w'.cell? ⟨tb,3,none⟩=some (.bool qa.lf)∧w'.cell? ⟨tb,4,none⟩=some (.bool qa.cr))∧True∧True∧True∧C7s w' g x∧True)∧Blk 94 w' (w.heap.size + 1) sd):=fun w' h=>by
      obtain ⟨_,_,_,_,_,⟨k0,k1,_,_⟩,hk⟩:=HSZ.out w' (zxt HB1.out h)
      obtain ⟨y0,y1,y2,y3,_⟩:=((HTA.out.ext HK1.out).ext h).cells
      exact ⟨⟨y0,y1,y2,y3,k0,k1⟩,hk⟩
     obtain ⟨⟨a0,a1,a2,a3,c0,c1⟩,hZ⟩:=H10.out w1 (Below.refl _ _)
     obtain ⟨z0,z1,z2,z3,zf⟩:=hZ.cells
     go_region_held3 (fun w'=>(w'.cell? ⟨tb,0,none⟩=some (.int .i64 qa.a)∧w'.cell? ⟨tb,1,none⟩=some (.int .i64 qa.s)∧w'.cell? ⟨tb,2,none⟩=some (.int .i64 qa.b)∧w'.cell? ⟨tb,3,none⟩=some (.bool qa.lf)∧w'.cell? ⟨tb,4,none⟩=some (.bool qa.cr))∧True∧True∧True∧(w'.cell? ⟨g,0,none⟩=some (.slice x.p x.n x.c)∧w'.cell? ⟨g,1,none⟩=some (.int .i64 x.pl)∧w'.cell? ⟨g,2,none⟩=some (.int .i64 x.sp.a)∧w'.cell? ⟨g,3,none⟩=some (.int .i64 x.sp.s)∧w'.cell? ⟨g,4,none⟩=some (.int .i64 x.sp.b)∧w'.cell? ⟨g,5,none⟩=some (.bool x.sp.lf)∧w'.cell? ⟨g,6,none⟩=some (.bool x.sp.cr))∧True) (first | (simp only [zcs HN1.out,zcs HN2.out];exact ⟨a0,a1,a2,a3,c0,c1⟩) | exact ⟨a0,a1,a2,a3,c0,c1⟩ | exact (H10.out _ (by repeat (first | exact HD3.out | exact HD2.out | exact Below.refl _ _ | apply Below.drew))).1) (first
      | (go_at_call 162;refine (MM.out _ (by repeat (first | exact HB1.out | apply Below.drew))).mono ?_;clear a0 a1 a2 a3 c0 c1 z0 z1 z2 z3 zf hZ;rintro e w2 ⟨q3,HM3,rfl,hb2⟩;have HD2:=zh (zxt (by repeat (first | exact Below.refl _ _ | apply Below.drew)) hb2:Below w1.heap.size w1 w2);obtain ⟨⟨a0,a1,a2,a3,c0,c1⟩,hZ⟩:=H10.out w2 HD2.out;obtain ⟨z0,z1,z2,z3,zf⟩:=hZ.cells;clear hb2)
      | (go_at_call 77;refine (A2.out _ _ _ (show Hid (qa=qa) from rfl) HM3 (zxt HB1.out (by repeat (first | exact HD2.out | apply Below.drew)))).mono ?_;clear a0 a1 a2 a3 c0 c1 z0 z1 z2 z3 zf hZ;rintro e w3 ⟨q4,HQ4,rfl,hb3⟩;have HD3:=zh (zxt HD2.out (zxt (by repeat (first | exact Below.refl _ _ | apply Below.drew)) hb3):Below w1.heap.size w1 w3);obtain ⟨⟨a0,a1,a2,a3,c0,c1⟩,hZ⟩:=H10.out w3 HD3.out;obtain ⟨z0,z1,z2,z3,zf⟩:=hZ.cells;clear hb3))
     have E4:=HQ4.out
     subst E4
     obtain ⟨p1,p2⟩:=hZ.put q4
     have HZZ:=zh hZ
     have HP1:=zh p1
     have HP2:=zh p2
     obtain ⟨_,_,_,TL3,TR3,⟨_,_,_,g3⟩,_⟩:=HSZ.out w3 (zxt HB1.out HD3.out)
     obtain ⟨_,_,_,_,_,⟨_,_,g2,_⟩,_⟩:=HSZ.out w3 (zxt HB1.out HD3.out)
     have TLF:=zh (TL3.put hZ (by decide) p2)
     have TRF:=zh (TR3.put hZ (by decide) p2)
     have FB:=zh (zbp (HB.out.trans ((zxt HB1.out HD3.out).mono (by omega))) (by have:=HB1.out.size;have:=HD3.out.size;omega) p2 (by omega))
     obtain ⟨y0,y1,y2,y3,_⟩:=p1.cells
     have k2:((((((w3.setCell ⟨w.heap.size + 1,0,none⟩ (.int .i64 q4.a)).setCell ⟨w.heap.size + 1,1,none⟩ (.int .i64 q4.s)).setCell ⟨w.heap.size + 1,2,none⟩ (.int .i64 q4.b)).setCell ⟨w.heap.size + 1,3,none⟩ (.bool q4.lf)).setCell ⟨w.heap.size + 1,4,none⟩ (.bool q4.cr))).cell? ⟨g,7,none⟩=some (.pointer lu):=by simp only [zcs HN2.out];exact g2
     have k3:((((((w3.setCell ⟨w.heap.size + 1,0,none⟩ (.int .i64 q4.a)).setCell ⟨w.heap.size + 1,1,none⟩ (.int .i64 q4.s)).setCell ⟨w.heap.size + 1,2,none⟩ (.int .i64 q4.b)).setCell ⟨w.heap.size + 1,3,none⟩ (.bool q4.lf)).setCell ⟨w.heap.size + 1,4,none⟩ (.bool q4.cr))).cell? ⟨g,8,none⟩=some (.pointer ru):=by simp only [zcs HN2.out];exact g3
     clear TL3 TR3 g2 g3 hZ p1 p2 z0 z1 z2 z3 zf a0 a1 a2 a3 c0 c1
     generalize hWB:(((((w3.setCell ⟨w.heap.size + 1,0,none⟩ (.int .i64 q4.a)).setCell ⟨w.heap.size + 1,1,none⟩ (.int .i64 q4.s)).setCell ⟨w.heap.size + 1,2,none⟩ (.int .i64 q4.b)).setCell ⟨w.heap.size + 1,3,none⟩ (.bool q4.lf)).setCell ⟨w.heap.size + 1,4,none⟩ (.bool q4.cr))=WB at *
     clear hWB
     have CB:Hid (Calls Tryz.prog 101 #[.pointer lu] WB fun e w''=>e=.returned (.int .i64 nl)∧w''=WB):=by have:=count_any l lu WB TLF.out;rw [ENL.out] at this;exact this
     have PE:Hid (∀ w',Below WB.heap.size WB w'→Tin w' r ru∧Blk 94 w' (w.heap.size + 1) q4∧Below w.heap.size w w'∧w'.cell? ⟨g,8,none⟩=some (.pointer ru)):=fun w' h=>⟨TRF.out.ext h,HP1.out.ext h,FB.out.trans (h.mono FB.out.size),(h.cell (p:=⟨g,8,none⟩) (World.block_lt_of_cell? WB _ k3)).trans k3⟩
     by_cases hk2:n≤kb
     ·have GE:=zh (GA.out hk2)
      go_wp2_with fail
      refine CB.out.mono ?_
      rintro e w' ⟨rfl,rfl⟩
      go_wp2_with fail
      refine (KB.out _).mono ?_
      rintro e w5 ⟨rfl,hb5⟩
      have H5:=zh hb5
      clear hb5
      go_wp2_with fail
      go_ret
      exact ⟨ret_int (by have:=GE.out;omega),(PE.out _ H5.out).2.2.1⟩
     ·have hk2':kb < n:=by omega
      have GE:=zh (GB.out hk2')
      have hkd2:decide (n≤kb)=false:=by simp;omega
      go_wp2_with fail
      refine CB.out.mono ?_
      rintro e w' ⟨rfl,rfl⟩
      go_wp2_with fail
      refine (KB.out _).mono ?_
      rintro e w5 ⟨rfl,hb5⟩
      have H5:=zh hb5
      obtain ⟨_,_,_,k5⟩:=PE.out w5 hb5
      clear hb5 k2 k3
      go_wp2_with fail
      go_roundg r.list.length
      case measure=>exact HGK.out.2
      case rel =>
       obtain ⟨t5,b5,f5,_⟩:=PE.out w5 H5.out
       exact ⟨r,ru,d ++ l.list ++ [x],Nat.le_refl _,by have:=HLN.out;rw [← this];go_num,rfl,t5,by have:=GE.out;rw [← EKB.out,← ES2.out] at this;exact this,by rw [ES2.out];exact b5,f5⟩
end Go.Proofs.YtdhciadajendnaaGreat.P
