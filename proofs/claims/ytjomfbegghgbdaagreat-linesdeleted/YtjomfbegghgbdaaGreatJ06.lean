import Derived.Test.YtjomfbegghgbdaaGreatJ00
import Derived.Test.YtjomfbegghgbdaaGreatJ05
import Derived.Deep.CutRange
import Derived.Deep.LoopGhost
namespace Go.Proofs.YtjomfbegghgbdaaGreat.P
open Go.RowKit
def szAt (w:World):Value→Nat
 | .pointer (some a)=>match w.cell? ⟨a.block,9,none⟩ with
   | some (.int _ n)=>n.toNat
   | _=>0
 | _=>0
theorem szAt_tin {w:World} {t:Tr It} {u:Option Addr} (h:Tin w t u):szAt w (.pointer u)=t.list.length:=by
 cases t using Tr.ind with
 | nil=>simp only [Tin] at h;subst h;rfl
 | node l x r =>
   obtain ⟨g,lv,rv,rfl,hg,hl,hr⟩:=h
   have c4:w.cell? ⟨g,9,none⟩=some (.int .i64 ((l.list ++ x :: r.list).length:Nat)):=by first | trivial | (refine ⟨?_,?_,?_,?_,?_,?_,?_⟩ <;> (rw [cell_of_row w g _ _ _ _ hg];rfl)) | (refine ⟨?_,?_,?_,?_,?_⟩ <;> (rw [cell_of_row w g _ _ _ _ hg];rfl)) | (rw [cell_of_row w g _ _ _ _ hg];rfl)
   simp [szAt,c4,Tr.list]
   omega
def atL (l:List It) (i:Int):Option It:=if i < 0 then none else l[i.toNat]?
theorem atL_nil (i:Int):atL [] i=none:=by unfold atL;split <;> simp
theorem atL_here (l r:List It) (x:It):atL (l ++ x :: r) l.length=some x:=by
 unfold atL;rw [if_neg (by omega)];simp
theorem atL_left (l r:List It) (x:It) (i:Int) (h:i < l.length):atL (l ++ x :: r) i=atL l i:=by
 unfold atL
 split
 ·rfl
 ·rw [List.getElem?_append_left (by omega)]
theorem atL_right (l r:List It) (x:It) (i:Int) (h:l.length < i):atL (l ++ x :: r) i=atL r (i - (l.length + 1)):=by
 unfold atL
 rw [if_neg (by omega),if_neg (by omega),List.getElem?_append_right (by omega),show i.toNat - l.length=(i - (l.length + 1)).toNat + 1 by omega]
 rfl
def AtP (xs:List It) (i:Int) (x:It) (b:Bool):Prop:=(atL xs i=some x∧b=true)∨(atL xs i=none∧b=false∧x=It.zero)
set_option maxRecDepth 100000 in
set_option maxHeartbeats 2000000 in
theorem At_any (u:Option Addr) (xs:List It) (i:Int) (w:World) (h:TT w (.agg #[.pointer u]) xs) (hw:wt xs≤4611686018427387904) (hi:i≤9223372036854775807) :
  Calls Tryz.prog 80 #[.agg #[.pointer u],.int .i64 i] w fun e w'=>∃ x b,e=.returned (.tuple #[.agg #[.slice x.p x.n x.c,.int .i64 x.pl,.int .i64 x.sp.a,.int .i64 x.sp.s,.int .i64 x.sp.b,.bool x.sp.lf,.bool x.sp.cr],.bool b])∧AtP xs i x b∧Below w.heap.size w w':=by
 obtain ⟨u',tr,hu,ht,hl,_⟩:=h
 obtain rfl:u=u':=by simpa using hu
 obtain ⟨w0,hw0⟩:∃ w0,w0=(w.alloc (.cells #[.pointer u] 105)).alloc (.cells #[.slice none 0 0,.int .i64 0,.int .i64 0,.int .i64 0,.int .i64 0,.bool false,.bool false] 113):=⟨_,rfl⟩
 have hb0:Below w.heap.size w w0:=by rw [hw0];exact ext_alloc (ext_alloc (Below.refl _ _) _) _
 have hA:BlkI w0 (w.heap.size + 1) It.zero:=by
  have:=heap_alloc_new (w.alloc (.cells #[.pointer u] 105)) (.cells #[.slice none 0 0,.int .i64 0,.int .i64 0,.int .i64 0,.int .i64 0,.bool false,.bool false] 113)
  rw [World.size_alloc] at this
  rw [hw0];exact this
 have hlt:=hA.lt
 have HT:=hidIt (ht.ext hb0)
 have HL:=hidIt hl
 have HB0:=hidIt hb0
 have HW:=hidIt hw
 clear ht hl hb0 hu hw
 go_enter Tryz.func80,Tryz.ntmps80
 go_wp2_with fail
 rw [← hw0]
 clear hw0
 go_loopw [1,6] (fun i' p wr=>∃ (t:Tr It) (q:Option Addr) (j:Int),i'=.int .i64 j∧p=.pointer q∧Tin wr t q∧Hid (atL xs i=atL t.list j∧wt t.list≤4611686018427387904)∧j≤9223372036854775807∧wr=w0) (fun _ p wr=>szAt wr p)
 case atStart=>exact ⟨tr,u,i,rfl,rfl,HT.out,⟨by rw [HL.out],by rw [HL.out];exact HW.out⟩,hi,rfl⟩
 case round =>
  obtain ⟨t,q,j,rfl,rfl,htq,HA,hj,rfl⟩:=hrel
  obtain ⟨z0,z1,zf⟩:=hA.cells
  cases t using Tr.ind with
  | nil =>
    simp only [Tin] at htq
    subst htq
    go_wp2_with fail
    obtain ⟨p1,p2⟩:=hA.put It.zero
    have HN:atL xs i=none:=by rw [HA.out.1,Tr.list,atL_nil]
    exact bodyPost_ret (v:=.tuple #[.agg #[.slice none 0 0,.int .i64 0,.int .i64 0,.int .i64 0,.int .i64 0,.bool false,.bool false],.bool false]) (by simp [results,Tryz.results80,go_sem,z0,hlt]) rfl ⟨It.zero,false,rfl,.inr ⟨HN,rfl,rfl⟩,ext_alloc (below_put HB0.out (by omega) p2 (by omega)) _⟩
  | node l x r =>
    have hsz:=szAt_tin htq
    have HTQ:=hidIt htq
    obtain ⟨g,lu,ru,rfl,hgl,h2,h3,c0,c1,c2,c3⟩:=htq.lt
    have hlen:l.list.length≤4611686018427387904:=by
     have:=HA.out.2
     have:=wt_len l.list
     rw [Tr.list,wt_app] at *
     omega
    have HLL:=hidIt h2
    have HRR:=hidIt h3
    have K:Hid (Calls Tryz.prog 114 #[.pointer lu] wr fun e w''=>e=.returned (.int .i64 l.list.length)∧w''=wr):=count_any l lu wr h2
    have sl:=szAt_tin h2
    have sr:=szAt_tin h3
    have HS:Hid (szAt wr (.pointer (some ⟨g,0,none⟩))=l.list.length + 1 + r.list.length∧szAt wr (.pointer lu)=l.list.length∧szAt wr (.pointer ru)=r.list.length):=⟨by rw [hsz,Tr.list];simp;omega,sl,sr⟩
    clear htq h2 h3 hsz sl sr
    rcases Int.lt_trichotomy j l.list.length with hj1 | hj1 | hj1
    ·have hne:¬ j=(l.list.length:Int):=by omega
     have HN:Hid (atL xs i=atL l.list j∧wt l.list≤4611686018427387904):=by
      obtain ⟨a1,a2⟩:=HA.out
      rw [Tr.list] at a1 a2
      rw [wt_app] at a2
      exact ⟨by rw [a1,atL_left _ _ _ _ hj1],by omega⟩
     generalize l.list.length=nl at *
     go_wp2_with (go_at_call 114;refine K.out.mono ?_;rintro e w1 ⟨rfl,rfl⟩)
     go_roundw
     case rel=>exact ⟨l,lu,j,rfl,rfl,HLL.out,HN,hj,trivial⟩
     case measure=>rw [HS.out.1,HS.out.2.1];omega
    ·have HN:Hid (atL xs i=some x):=by
      obtain ⟨a1,a2⟩:=HA.out
      rw [Tr.list] at a1
      unfold Hid
      rw [a1,hj1,atL_here]
     generalize l.list.length=nl at *
     subst hj1
     go_wp2_with (go_at_call 114;refine K.out.mono ?_;rintro e w1 ⟨rfl,rfl⟩)
     obtain ⟨p1,p2⟩:=hA.put x
     exact bodyPost_ret (v:=.tuple #[.agg #[.slice x.p x.n x.c,.int .i64 x.pl,.int .i64 x.sp.a,.int .i64 x.sp.s,.int .i64 x.sp.b,.bool x.sp.lf,.bool x.sp.cr],.bool true]) (by simp [results,Tryz.results80,go_sem,z0]) rfl ⟨x,true,rfl,.inl ⟨HN.out,rfl⟩,below_put HB0.out (by omega) p2 (by omega)⟩
    ·have hne:¬ j=(l.list.length:Int):=by omega
     have hge:¬ j < (l.list.length:Int):=by omega
     have HN:Hid (atL xs i=atL r.list (j - (l.list.length + 1))∧wt r.list≤4611686018427387904):=by
      obtain ⟨a1,a2⟩:=HA.out
      rw [Tr.list] at a1 a2
      rw [wt_app,wt_cons] at a2
      exact ⟨by rw [a1,atL_right _ _ _ _ hj1],by omega⟩
     generalize l.list.length=nl at *
     go_wp2_with (go_at_call 114;refine K.out.mono ?_;rintro e w1 ⟨rfl,rfl⟩)
     go_roundw
     case rel=>exact ⟨r,ru,_,rfl,rfl,HRR.out,HN,by omega,trivial⟩
     case measure=>rw [HS.out.1,HS.out.2.2];omega
end Go.Proofs.YtjomfbegghgbdaaGreat.P

namespace Go.Proofs.YtjomfbegghgbdaaGreat.P
open Go.RowKit
theorem Blk.new_drew' (T:TypeId) (w:World) (s:Rs):Blk T ((w.alloc (.cells #[.int .i64 s.a,.int .i64 s.s,.int .i64 s.b,.bool s.lf,.bool s.cr] T)).drew) w.heap.size s:=heap_alloc_new _ _
set_option maxRecDepth 100000 in
set_option maxHeartbeats 16000000 in
theorem Find_any (u:Option Addr) (xs:List It) (k n:Int) (w:World) (h:TT w (.agg #[.pointer u]) xs) (hw:wt xs≤4611686018427387904) :
  Calls Tryz.prog 79 #[.agg #[.pointer u],.int .i64 k,.int .i64 n] w fun e w'=>e=.returned (.int .i64 (rA.fnd k n Rs.zero xs:Nat))∧Below w.heap.size w w':=by
 by_cases hn:n≤0
 ·have HE:Hid (rA.fnd k n Rs.zero xs=0):=rA.fnd_here k n Rs.zero xs (by have:=rA.keyz k;have e:rA.key Rs.zero k=rA.key rA.zero k:=rfl;omega)
  clear h hw
  go_enter Tryz.func79,Tryz.ntmps79
  go_wp2_with fail
  go_ret
  exact ⟨by rw [HE.out];rfl,ext_alloc (Below.refl _ _) _⟩
 obtain ⟨u',tr,hu,ht,hl,_⟩:=h
 obtain rfl:u=u':=by simpa using hu
 obtain ⟨w0,hw0⟩:∃ w0,w0=(w.alloc (.cells #[.pointer u] 105)).alloc (.cells #[.int .i64 0,.int .i64 0,.int .i64 0,.bool false,.bool false] 110):=⟨_,rfl⟩
 have hb0:Below w.heap.size w w0:=by rw [hw0];exact ext_alloc (ext_alloc (Below.refl _ _) _) _
 have hA:Blk 110 w0 (w.heap.size + 1) Rs.zero:=by
  have:=Blk.new 110 (w.alloc (.cells #[.pointer u] 105)) Rs.zero
  rw [World.size_alloc] at this
  rw [hw0];exact this
 have HT:=hidIt (ht.ext hb0)
 have HL:=hidIt hl
 have HB0:=hidIt hb0
 have HA:=hidIt hA
 have HW:=hidIt hw
 clear ht hl hb0 hu hw hA
 have hmt1:=m_meas
 have hmt2:=m_add
 have hmt3:=m_key
 have hnt1:=n_meas
 have hnt2:=n_add
 have hnt3:=n_key
 generalize hF:rA.fnd k n Rs.zero xs=F
 have HF:=hidIt hF
 clear hF
 go_enter Tryz.func79,Tryz.ntmps79
 go_wp2_with fail
 rw [← hw0]
 clear hw0
 go_loopg [8,9] xs.length (fun gk c p wr=>∃ (t:Tr It) (q:Option Addr) (d:List It),t.list.length≤gk∧c=.int .i64 d.length∧p=.pointer q∧Tin wr t q∧Hid (F=d.length + rA.fnd k n (rA.su d) t.list∧rA.key (rA.su d) k < n∧wt (d ++ t.list)≤4611686018427387904)∧Blk 110 wr (w.heap.size + 1) (rA.su d)∧Below w.heap.size w wr)
 case atStart=>exact ⟨tr,u,[],by rw [HL.out];exact Nat.le_refl _,rfl,rfl,HT.out,⟨by rw [HL.out,← HF.out,Alg.su_nil];simp;rfl,by rw [Alg.su_nil,rA.keyz];omega,by rw [HL.out];exact HW.out⟩,HA.out,HB0.out⟩
 case round =>
  obtain ⟨t,q,d,hgk,rfl,rfl,htq,HI,hB,hb⟩:=hrel
  cases t using Tr.ind with
  | nil =>
    simp only [Tin] at htq
    subst htq
    have HN:Hid (F=d.length + 1):=by
     obtain ⟨a1,a2,_⟩:=HI.out
     rw [Tr.list,Alg.fnd,if_neg (by omega)] at a1
     exact a1
    have hdl:d.length≤4611686018427387904:=by
     have:=HI.out.2.2
     have:=wt_len d
     rw [wt_app] at *
     omega
    generalize d.length=dl at *
    go_wp2_with fail
    go_ret
    exact ⟨by rw [HN.out];rfl,hb⟩
  | node l x r =>
    obtain ⟨g,lu,ru,rfl,hgl,h2,h3,c0,c1,c2,c3⟩:=htq.lt
    have HGK:Hid (l.list.length < gk∧r.list.length < gk):=by rw [Tr.list] at hgk;simp only [List.length_append,List.length_cons] at hgk;unfold Hid;omega
    clear hgk
    obtain ⟨i1,i2,i3⟩:=HI.out
    rw [Tr.list] at i1 i3
    have ew:=i3
    simp only [wt_app,wt_cons] at ew
    have b1:=wt_len d
    have b2:=wt_len l.list
    have HSZ:Hid (∀ w',Below wr.heap.size wr w'→szAt w' (.pointer (some ⟨g,0,none⟩))=l.list.length + 1 + r.list.length∧szAt w' (.pointer lu)=l.list.length∧szAt w' (.pointer ru)=r.list.length∧Tin w' l lu∧Tin w' r ru∧((w'.cell? ⟨g,0,none⟩=some (.slice x.p x.n x.c)∧w'.cell? ⟨g,1,none⟩=some (.int .i64 x.pl)∧w'.cell? ⟨g,2,none⟩=some (.int .i64 x.sp.a)∧w'.cell? ⟨g,3,none⟩=some (.int .i64 x.sp.s)∧w'.cell? ⟨g,4,none⟩=some (.int .i64 x.sp.b)∧w'.cell? ⟨g,5,none⟩=some (.bool x.sp.lf)∧w'.cell? ⟨g,6,none⟩=some (.bool x.sp.cr))∧True∧w'.cell? ⟨g,7,none⟩=some (.pointer lu)∧w'.cell? ⟨g,8,none⟩=some (.pointer ru))∧Blk 110 w' (w.heap.size + 1) (rA.su d)):=fun w' hb' =>
     ⟨by rw [szAt_tin (htq.ext hb'),Tr.list];simp only [List.length_append,List.length_cons];omega,szAt_tin (h2.ext hb'),szAt_tin (h3.ext hb'),h2.ext hb',h3.ext hb',⟨(by first | trivial | exact C7.ext hb' hgl c0 | exact C5.ext hb' hgl c0 | exact (hb'.cell (p:=⟨g,0,none⟩) hgl).trans c0 | exact (hb'.cell (p:=⟨g,0,none⟩) hgl).trans c0),(by first | trivial | exact C7.ext hb' hgl c1 | exact C5.ext hb' hgl c1 | exact (hb'.cell (p:=⟨g,1,none⟩) hgl).trans c1 | exact (hb'.cell (p:=⟨g,1,none⟩) hgl).trans c1),(by first | trivial | exact C7.ext hb' hgl c2 | exact C5.ext hb' hgl c2 | exact (hb'.cell (p:=⟨g,7,none⟩) hgl).trans c2 | exact (hb'.cell (p:=⟨g,2,none⟩) hgl).trans c2),(by first | trivial | exact C7.ext hb' hgl c3 | exact C5.ext hb' hgl c3 | exact (hb'.cell (p:=⟨g,8,none⟩) hgl).trans c3 | exact (hb'.cell (p:=⟨g,3,none⟩) hgl).trans c3)⟩,hB.ext hb'⟩
    have TL:Hid (∀ w',Below wr.heap.size wr w'→Calls Tryz.prog 98 #[.pointer lu] w' fun e w''=>∃ s,Hid (s=rA.su l.list)∧e=.returned (.agg #[.int .i64 s.a,.int .i64 s.s,.int .i64 s.b,.bool s.lf,.bool s.cr])∧Below w'.heap.size w' w''):=fun w' hb'=>total_any l lu w' (h2.ext hb')
    have CL:Hid (∀ w',Below wr.heap.size wr w'→Calls Tryz.prog 114 #[.pointer lu] w' fun e w''=>e=.returned (.int .i64 l.list.length)∧w''=w'):=fun w' hb'=>count_any l lu w' (h2.ext hb')
    have A1:Hid (∀ s w',Hid (s=rA.su l.list)→Calls Tryz.prog 83 #[.agg #[.int .i64 (rA.su d).a,.int .i64 (rA.su d).s,.int .i64 (rA.su d).b,.bool (rA.su d).lf,.bool (rA.su d).cr],.agg #[.int .i64 s.a,.int .i64 s.s,.int .i64 s.b,.bool s.lf,.bool s.cr]] w' fun e w''=>∃ q,Hid (q=rA.su (d ++ l.list))∧e=.returned (.agg #[.int .i64 q.a,.int .i64 q.s,.int .i64 q.b,.bool q.lf,.bool q.cr])∧Below w'.heap.size w' w''):=fun s w' hs=>add_su d l.list _ s w' rfl hs (by rw [wt_app];omega)
    have MM:Hid (∀ w',Below wr.heap.size wr w'→Calls Tryz.prog 165 #[.agg #[.slice x.p x.n x.c,.int .i64 x.pl,.int .i64 x.sp.a,.int .i64 x.sp.s,.int .i64 x.sp.b,.bool x.sp.lf,.bool x.sp.cr]] w' fun e w''=>∃ s,Hid (s=rA.su [x])∧e=.returned (.agg #[.int .i64 s.a,.int .i64 s.s,.int .i64 s.b,.bool s.lf,.bool s.cr])∧Below w'.heap.size w' w''):=fun w' _=>(Measure_any x w').mono fun _ _ ⟨s,k1,k2,k3⟩=>⟨s,k1.out.trans (su_one x).symm,k2,k3⟩
    have A2:Hid (∀ q s w',Hid (q=rA.su (d ++ l.list))→Hid (s=rA.su [x])→Below wr.heap.size wr w'→Calls Tryz.prog 83 #[.agg #[.int .i64 q.a,.int .i64 q.s,.int .i64 q.b,.bool q.lf,.bool q.cr],.agg #[.int .i64 s.a,.int .i64 s.s,.int .i64 s.b,.bool s.lf,.bool s.cr]] w' fun e w''=>∃ q,Hid (q=rA.su (d ++ l.list ++ [x]))∧e=.returned (.agg #[.int .i64 q.a,.int .i64 q.s,.int .i64 q.b,.bool q.lf,.bool q.cr])∧Below w'.heap.size w' w''):=fun q s w' hq hs _=>add_su (d ++ l.list) [x] q s w' hq hs (by simp only [wt_app,wt_cons,wt_nil];omega)
    have e1:rA.add (rA.su d) (rA.su l.list)=rA.su (d ++ l.list):=(rA.su_app _ _).symm
    have e2:rA.add (rA.su (d ++ l.list)) (rA.meas x)=rA.su (d ++ l.list ++ [x]):=(rA.su_snoc _ _).symm
    have GO1:Hid (n≤rA.key (rA.su (d ++ l.list)) k→F=d.length + rA.fnd k n (rA.su d) l.list∧rA.key (rA.su d) k < n∧wt (d ++ l.list)≤4611686018427387904):=fun hk=>⟨by rw [i1,rA.fnd_left k n (x :: r.list) l.list _ (rA.ok d) (by rw [e1];exact hk)],i2,by rw [wt_app];omega⟩
    have GO2:Hid (rA.key (rA.su (d ++ l.list)) k < n→n≤rA.key (rA.su (d ++ l.list ++ [x])) k→F=d.length + (l.list.length + 1)):=fun hk hk2=>by
     rw [i1,rA.fnd_right k n (x :: r.list) l.list _ (rA.ok d) (by rw [e1];exact hk),e1,Alg.fnd,if_neg (by omega),e2,rA.fnd_here _ _ _ _ hk2]
    have GO3:Hid (rA.key (rA.su (d ++ l.list)) k < n→rA.key (rA.su (d ++ l.list ++ [x])) k < n→F=(d ++ l.list ++ [x]).length + rA.fnd k n (rA.su (d ++ l.list ++ [x])) r.list∧rA.key (rA.su (d ++ l.list ++ [x])) k < n∧wt ((d ++ l.list ++ [x]) ++ r.list)≤4611686018427387904):=fun hk hk2=>by
     refine ⟨?_,hk2,by simpa using i3⟩
     rw [i1,rA.fnd_right k n (x :: r.list) l.list _ (rA.ok d) (by rw [e1];exact hk),e1,Alg.fnd,if_neg (by omega),e2]
     simp only [List.length_append,List.length_cons,List.length_nil]
     omega
    have HB:=hidIt hb
    have d1:((l.list.length + 1:Nat):Int)≤4611686018427387904:=by omega
    have d2:((d.length + (l.list.length + 1):Nat):Int)≤4611686018427387904:=by omega
    have HLN:Hid (d.length + (l.list.length + 1)=(d ++ l.list ++ [x]).length):=by unfold Hid;simp only [List.length_append,List.length_cons,List.length_nil];omega
    have hszw:=hB.lt
    obtain ⟨z0,z1,z2,z3,zf⟩:=hB.cells
    have hn2:¬ g=w.heap.size + 1:=by
     intro e
     obtain ⟨g',lv',rv',e1,hg',_⟩:=htq
     obtain rfl:g=g':=by simpa using e1
     unfold Blk at hB
     rw [e,hB] at hg'
     simp at hg'
    clear htq h2 h3 e1 e2 i1 i2 i3 ew b1 b2 hB hb
    generalize hX1:rA.su d=sd at *
    generalize rA.su (d ++ l.list)=s1 at *
    generalize hX2:rA.su (d ++ l.list ++ [x])=s2 at *
    generalize rA.su l.list=sl at *
    generalize rA.su [x]=sx at *
    generalize hX3:l.list.length=nl at *
    generalize hX4:d.length=dl at *
    have ESD:=hidIt hX1
    have ES2:=hidIt hX2
    have ENL:=hidIt hX3
    have EDL:=hidIt hX4
    clear hX1 hX2 hX3 hX4
    have HCC:Hid (∀ w',Below wr.heap.size wr w'→w'.cell? ⟨g,7,none⟩=some (.pointer lu)∧(w'.cell? ⟨w.heap.size + 1,0,none⟩=some (.int .i64 sd.a)∧w'.cell? ⟨w.heap.size + 1,1,none⟩=some (.int .i64 sd.s)∧w'.cell? ⟨w.heap.size + 1,2,none⟩=some (.int .i64 sd.b)∧w'.cell? ⟨w.heap.size + 1,3,none⟩=some (.bool sd.lf)∧w'.cell? ⟨w.heap.size + 1,4,none⟩=some (.bool sd.cr))∧True∧True∧True):=fun w' h=>by
     obtain ⟨_,_,_,_,_,⟨k0,k1,k2,k3⟩,hk⟩:=HSZ.out w' h
     obtain ⟨y0,y1,y2,y3,_⟩:=hk.cells
     exact ⟨k2,y0,y1,y2,y3⟩
    go_upto_region 7 with fail
    go_cut [10] from 15 to 62 (fun p wF=>∃ tb:Nat,p=.pointer (some ⟨tb,0,none⟩)∧Hid (∃ q,q=s1∧Blk 110 wF tb q∧Below wr.heap.size wr wF∧wr.heap.size≤tb))
    case first =>
     clear c0 c1 c3 zf
     go_region_held3 (fun w'=>w'.cell? ⟨g,7,none⟩=some (.pointer lu)∧(w'.cell? ⟨w.heap.size + 1,0,none⟩=some (.int .i64 sd.a)∧w'.cell? ⟨w.heap.size + 1,1,none⟩=some (.int .i64 sd.s)∧w'.cell? ⟨w.heap.size + 1,2,none⟩=some (.int .i64 sd.b)∧w'.cell? ⟨w.heap.size + 1,3,none⟩=some (.bool sd.lf)∧w'.cell? ⟨w.heap.size + 1,4,none⟩=some (.bool sd.cr))∧True∧True∧True) (first | exact HCC.out _ (by repeat (first | exact HB2.out | exact HB1.out | exact Below.refl _ _ | apply Below.drew | refine ext_alloc ?_ _ | refine Below.setCell ?_ (by first | exact Nat.le_refl _ | exact HB1.out.size) _)) | go_keep) (first
      | (go_at_call 98;refine (TL.out _ (by repeat (first | exact HB2.out | exact HB1.out | exact Below.refl _ _ | apply Below.drew | refine ext_alloc ?_ _ | refine Below.setCell ?_ (by first | exact Nat.le_refl _ | exact HB1.out.size) _))).mono ?_;clear c2 z0 z1 z2 z3;rintro e w1 ⟨q1,HL1,rfl,hb1⟩;have HW1:=hidIt hb1;(first | (have hzC:wr.heap.size < w1.heap.size:=(by have:=hb1.size;simp at this;omega);have HT:=hidIt ((Blk.new_drew' 110 wr Rs.zero).ext HW1.out);obtain ⟨t0,t1,t2,t3,tf⟩:=HT.out.cells) | skip);have HB1:Hid (Below wr.heap.size wr w1):=ext_trans (by repeat (first | exact HB2.out | exact HB1.out | exact Below.refl _ _ | apply Below.drew | refine ext_alloc ?_ _ | refine Below.setCell ?_ (by first | exact Nat.le_refl _ | exact HB1.out.size) _)) hb1;obtain ⟨c2,z0,z1,z2,z3⟩:=HCC.out w1 HB1.out;clear hb1)
      | (go_at_call 83;refine (A1.out _ _ HL1).mono ?_;clear c2 z0 z1 z2 z3;rintro e w2 ⟨q2,HQ2,rfl,hb2⟩;have HW2:=hidIt hb2;(first | (have HT2:=hidIt (HT.out.ext HW2.out);clear t0 t1 t2 t3 tf;obtain ⟨t0,t1,t2,t3,tf⟩:=HT2.out.cells) | (have hzB:w1.heap.size < w2.heap.size:=(by have:=hb2.size;simp at this;omega);have HT2:=hidIt ((Blk.new 110 w1 Rs.zero).ext HW2.out);obtain ⟨t0,t1,t2,t3,tf⟩:=HT2.out.cells) | skip);have HB2:Hid (Below wr.heap.size wr w2):=ext_trans (by repeat (first | exact HB2.out | exact HB1.out | exact Below.refl _ _ | apply Below.drew | refine ext_alloc ?_ _ | refine Below.setCell ?_ (by first | exact Nat.le_refl _ | exact HB1.out.size) _)) hb2;obtain ⟨c2,z0,z1,z2,z3⟩:=HCC.out w2 HB2.out;clear hb2))
     all_goals
      go_wp2_with fail
      go_meet
      case rel =>
       first
        | (obtain ⟨p1,p2⟩:=HT2.out.put q2;exact ⟨_,rfl,q2,HQ2.out,p1,below_put HB2.out HB2.out.size p2 (by first | exact Nat.le_refl _ | exact HB1.out.size),by first | exact Nat.le_refl _ | exact HB1.out.size⟩)
        | exact ⟨_,rfl,q2,HQ2.out,Blk.new _ w2 _,ext_alloc HB2.out _,HB2.out.size⟩
    obtain ⟨tb,rfl,HQ⟩:=hcut
    obtain ⟨qa,hqa,hBA,hbA,htb⟩:=HQ.out
    clear c0 c1 c2 c3 z0 z1 z2 z3 zf
    subst hqa
    generalize hWA:wc=WA at *
    clear hWA HQ HCC TL A1
    have HBA:=hidIt hbA
    have HTA:=hidIt hBA
    obtain ⟨a0,a1,a2,a3,_⟩:=hBA.cells
    obtain ⟨v1,v2,v3,TLL,TRR,⟨c0,c1,c2,c3⟩,hBS⟩:=HSZ.out WA hbA
    have HTL:=hidIt TLL
    have HTR:=hidIt TRR
    have HBS:=hidIt hBS
    have hszA:=hBA.lt
    clear hbA hBA TLL TRR hBS
    have KK:Hid (∀ (s:Rs) w',Calls Tryz.prog 164 #[.agg #[.int .i64 s.a,.int .i64 s.s,.int .i64 s.b,.bool s.lf,.bool s.cr],.int .i64 k] w' fun e w''=>e=.returned (.int .i64 (rA.key s k))∧Below w'.heap.size w' w''):=fun s w'=>Key_any s k w'
    clear v1 v2 v3
    by_cases hk1:n≤rA.key qa k
    ·have HG:=hidIt (GO1.out hk1)
     have KA:Hid (∀ w',Calls Tryz.prog 164 #[.agg #[.int .i64 qa.a,.int .i64 qa.s,.int .i64 qa.b,.bool qa.lf,.bool qa.cr],.int .i64 k] w' fun e w''=>e=.returned (.int .i64 (rA.key qa k))∧Below w'.heap.size w' w''):=fun w'=>KK.out qa w'
     clear GO1 GO2 GO3 KK
     generalize rA.key qa k=ka at *
     go_wp2_with (go_at_call 164;refine (KA.out _).mono ?_;clear c0 c1 c2 c3 a0 a1 a2 a3;rintro e w1 ⟨rfl,hb1⟩;have HB1:=hidIt (ext_trans HBA.out hb1);obtain ⟨_,_,_,_,_,⟨c0,c1,c2,c3⟩,_⟩:=HSZ.out w1 HB1.out;clear hb1)
     go_roundg l.list.length
     case measure=>rw [ENL.out];exact HGK.out.1
     case rel =>
      obtain ⟨_,_,_,TLL,_,_,hBS⟩:=HSZ.out w1 HB1.out
      exact ⟨l,lu,d,Nat.le_refl _,by rw [EDL.out],rfl,TLL,by have:=HG.out;rw [← EDL.out,← ESD.out] at this;exact this,by rw [ESD.out];exact hBS,HB.out.trans (HB1.out.mono (by omega))⟩
    ·have hk1':rA.key qa k < n:=Int.not_le.1 hk1
     have KA:Hid (∀ w',Calls Tryz.prog 164 #[.agg #[.int .i64 qa.a,.int .i64 qa.s,.int .i64 qa.b,.bool qa.lf,.bool qa.cr],.int .i64 k] w' fun e w''=>e=.returned (.int .i64 (rA.key qa k))∧Below w'.heap.size w' w''):=fun w'=>KK.out qa w'
     have KB:Hid (∀ w',Calls Tryz.prog 164 #[.agg #[.int .i64 s2.a,.int .i64 s2.s,.int .i64 s2.b,.bool s2.lf,.bool s2.cr],.int .i64 k] w' fun e w''=>e=.returned (.int .i64 (rA.key s2 k))∧Below w'.heap.size w' w''):=fun w'=>KK.out s2 w'
     have GA:=hidIt (GO2.out hk1')
     have GB:=hidIt (GO3.out hk1')
     clear GO1 GO2 GO3 KK
     generalize rA.key qa k=ka at *
     generalize hKB:rA.key s2 k=kb at *
     have EKB:=hidIt hKB
     clear hKB
     have hn1:¬ tb=w.heap.size + 1:=by omega
     have hkd:decide (n≤ka)=false:=by simp;omega
     have HN1:=hidIt hn1
     have HN2:=hidIt hn2
     clear hn1 hn2
     go_wp2_with fail
     refine (KA.out _).mono ?_
     rintro e w1 ⟨rfl,hb1⟩
     have HK1:=hidIt hb1
     clear hb1 c0 c1 c2 c3 a0 a1 a2 a3
     go_wp2_with fail
     have HB1:=hidIt (ext_trans HBA.out HK1.out)
     have H10:Hid (∀ w',Below w1.heap.size w1 w'→((w'.cell? ⟨tb,0,none⟩=some (.int .i64 qa.a)∧w'.cell? ⟨tb,1,none⟩=some (.int .i64 qa.s)∧w'.cell? ⟨tb,2,none⟩=some (.int .i64 qa.b)∧w'.cell? ⟨tb,3,none⟩=some (.bool qa.lf)∧w'.cell? ⟨tb,4,none⟩=some (.bool qa.cr))∧True∧True∧True∧(w'.cell? ⟨g,0,none⟩=some (.slice x.p x.n x.c)∧w'.cell? ⟨g,1,none⟩=some (.int .i64 x.pl)∧w'.cell? ⟨g,2,none⟩=some (.int .i64 x.sp.a)∧w'.cell? ⟨g,3,none⟩=some (.int .i64 x.sp.s)∧w'.cell? ⟨g,4,none⟩=some (.int .i64 x.sp.b)∧w'.cell? ⟨g,5,none⟩=some (.bool x.sp.lf)∧w'.cell? ⟨g,6,none⟩=some (.bool x.sp.cr))∧True)∧Blk 110 w' (w.heap.size + 1) sd):=fun w' h=>by
      obtain ⟨_,_,_,_,_,⟨k0,k1,_,_⟩,hk⟩:=HSZ.out w' (ext_trans HB1.out h)
      obtain ⟨y0,y1,y2,y3,_⟩:=((HTA.out.ext HK1.out).ext h).cells
      exact ⟨⟨y0,y1,y2,y3,k0,k1⟩,hk⟩
     obtain ⟨⟨a0,a1,a2,a3,c0,c1⟩,hZ⟩:=H10.out w1 (Below.refl _ _)
     obtain ⟨z0,z1,z2,z3,zf⟩:=hZ.cells
     go_region_held3 (fun w'=>(w'.cell? ⟨tb,0,none⟩=some (.int .i64 qa.a)∧w'.cell? ⟨tb,1,none⟩=some (.int .i64 qa.s)∧w'.cell? ⟨tb,2,none⟩=some (.int .i64 qa.b)∧w'.cell? ⟨tb,3,none⟩=some (.bool qa.lf)∧w'.cell? ⟨tb,4,none⟩=some (.bool qa.cr))∧True∧True∧True∧(w'.cell? ⟨g,0,none⟩=some (.slice x.p x.n x.c)∧w'.cell? ⟨g,1,none⟩=some (.int .i64 x.pl)∧w'.cell? ⟨g,2,none⟩=some (.int .i64 x.sp.a)∧w'.cell? ⟨g,3,none⟩=some (.int .i64 x.sp.s)∧w'.cell? ⟨g,4,none⟩=some (.int .i64 x.sp.b)∧w'.cell? ⟨g,5,none⟩=some (.bool x.sp.lf)∧w'.cell? ⟨g,6,none⟩=some (.bool x.sp.cr))∧True) (first | (simp only [cell_set_other HN1.out,cell_set_other HN2.out];exact ⟨a0,a1,a2,a3,c0,c1⟩) | exact ⟨a0,a1,a2,a3,c0,c1⟩ | exact (H10.out _ (by repeat (first | exact HD3.out | exact HD2.out | exact Below.refl _ _ | apply Below.drew))).1) (first
      | (go_at_call 165;refine (MM.out _ (by repeat (first | exact HB1.out | apply Below.drew))).mono ?_;clear a0 a1 a2 a3 c0 c1 z0 z1 z2 z3 zf hZ;rintro e w2 ⟨q3,HM3,rfl,hb2⟩;have HD2:=hidIt (ext_trans (by repeat (first | exact Below.refl _ _ | apply Below.drew)) hb2:Below w1.heap.size w1 w2);obtain ⟨⟨a0,a1,a2,a3,c0,c1⟩,hZ⟩:=H10.out w2 HD2.out;obtain ⟨z0,z1,z2,z3,zf⟩:=hZ.cells;clear hb2)
      | (go_at_call 83;refine (A2.out _ _ _ (show Hid (qa=qa) from rfl) HM3 (ext_trans HB1.out (by repeat (first | exact HD2.out | apply Below.drew)))).mono ?_;clear a0 a1 a2 a3 c0 c1 z0 z1 z2 z3 zf hZ;rintro e w3 ⟨q4,HQ4,rfl,hb3⟩;have HD3:=hidIt (ext_trans HD2.out (ext_trans (by repeat (first | exact Below.refl _ _ | apply Below.drew)) hb3):Below w1.heap.size w1 w3);obtain ⟨⟨a0,a1,a2,a3,c0,c1⟩,hZ⟩:=H10.out w3 HD3.out;obtain ⟨z0,z1,z2,z3,zf⟩:=hZ.cells;clear hb3))
     have E4:=HQ4.out
     subst E4
     obtain ⟨p1,p2⟩:=hZ.put q4
     have HZZ:=hidIt hZ
     have HP1:=hidIt p1
     have HP2:=hidIt p2
     obtain ⟨_,_,_,TL3,TR3,⟨_,_,_,g3⟩,_⟩:=HSZ.out w3 (ext_trans HB1.out HD3.out)
     obtain ⟨_,_,_,_,_,⟨_,_,g2,_⟩,_⟩:=HSZ.out w3 (ext_trans HB1.out HD3.out)
     have TLF:=hidIt (TL3.put hZ (by decide) p2)
     have TRF:=hidIt (TR3.put hZ (by decide) p2)
     have FB:=hidIt (below_put (HB.out.trans ((ext_trans HB1.out HD3.out).mono (by omega))) (by have:=HB1.out.size;have:=HD3.out.size;omega) p2 (by omega))
     obtain ⟨y0,y1,y2,y3,_⟩:=p1.cells
     have k2:((((((w3.setCell ⟨w.heap.size + 1,0,none⟩ (.int .i64 q4.a)).setCell ⟨w.heap.size + 1,1,none⟩ (.int .i64 q4.s)).setCell ⟨w.heap.size + 1,2,none⟩ (.int .i64 q4.b)).setCell ⟨w.heap.size + 1,3,none⟩ (.bool q4.lf)).setCell ⟨w.heap.size + 1,4,none⟩ (.bool q4.cr))).cell? ⟨g,7,none⟩=some (.pointer lu):=by simp only [cell_set_other HN2.out];exact g2
     have k3:((((((w3.setCell ⟨w.heap.size + 1,0,none⟩ (.int .i64 q4.a)).setCell ⟨w.heap.size + 1,1,none⟩ (.int .i64 q4.s)).setCell ⟨w.heap.size + 1,2,none⟩ (.int .i64 q4.b)).setCell ⟨w.heap.size + 1,3,none⟩ (.bool q4.lf)).setCell ⟨w.heap.size + 1,4,none⟩ (.bool q4.cr))).cell? ⟨g,8,none⟩=some (.pointer ru):=by simp only [cell_set_other HN2.out];exact g3
     clear TL3 TR3 g2 g3 hZ p1 p2 z0 z1 z2 z3 zf a0 a1 a2 a3 c0 c1
     generalize hWB:(((((w3.setCell ⟨w.heap.size + 1,0,none⟩ (.int .i64 q4.a)).setCell ⟨w.heap.size + 1,1,none⟩ (.int .i64 q4.s)).setCell ⟨w.heap.size + 1,2,none⟩ (.int .i64 q4.b)).setCell ⟨w.heap.size + 1,3,none⟩ (.bool q4.lf)).setCell ⟨w.heap.size + 1,4,none⟩ (.bool q4.cr))=WB at *
     clear hWB
     have CB:Hid (Calls Tryz.prog 114 #[.pointer lu] WB fun e w''=>e=.returned (.int .i64 nl)∧w''=WB):=by have:=count_any l lu WB TLF.out;rw [ENL.out] at this;exact this
     have PE:Hid (∀ w',Below WB.heap.size WB w'→Tin w' r ru∧Blk 110 w' (w.heap.size + 1) q4∧Below w.heap.size w w'∧w'.cell? ⟨g,8,none⟩=some (.pointer ru)):=fun w' h=>⟨TRF.out.ext h,HP1.out.ext h,FB.out.trans (h.mono FB.out.size),(h.cell (p:=⟨g,8,none⟩) (World.block_lt_of_cell? WB _ k3)).trans k3⟩
     by_cases hk2:n≤kb
     ·have GE:=hidIt (GA.out hk2)
      go_wp2_with fail
      refine CB.out.mono ?_
      rintro e w' ⟨rfl,rfl⟩
      go_wp2_with fail
      refine (KB.out _).mono ?_
      rintro e w5 ⟨rfl,hb5⟩
      have H5:=hidIt hb5
      clear hb5
      go_wp2_with fail
      go_ret
      exact ⟨ret_int (by have:=GE.out;omega),(PE.out _ H5.out).2.2.1⟩
     ·have hk2':kb < n:=by omega
      have GE:=hidIt (GB.out hk2')
      have hkd2:decide (n≤kb)=false:=by simp;omega
      go_wp2_with fail
      refine CB.out.mono ?_
      rintro e w' ⟨rfl,rfl⟩
      go_wp2_with fail
      refine (KB.out _).mono ?_
      rintro e w5 ⟨rfl,hb5⟩
      have H5:=hidIt hb5
      obtain ⟨_,_,_,k5⟩:=PE.out w5 hb5
      clear hb5 k2 k3
      go_wp2_with fail
      go_roundg r.list.length
      case measure=>exact HGK.out.2
      case rel =>
       obtain ⟨t5,b5,f5,_⟩:=PE.out w5 H5.out
       exact ⟨r,ru,d ++ l.list ++ [x],Nat.le_refl _,by have:=HLN.out;rw [← this];go_num,rfl,t5,by have:=GE.out;rw [← EKB.out,← ES2.out] at this;exact this,by rw [ES2.out];exact b5,f5⟩
end Go.Proofs.YtjomfbegghgbdaaGreat.P

namespace Go.Proofs.YtjomfbegghgbdaaGreat.P
open Go.RowKit
set_option maxRecDepth 100000 in
set_option maxHeartbeats 4000000 in
theorem Upto_any (u:Option Addr) (xs:List It) (i:Int) (w:World) (h:TT w (.agg #[.pointer u]) xs) (hw:wt xs≤4611686018427387904) (hi:i≤9223372036854775807) :
  Calls Tryz.prog 81 #[.agg #[.pointer u],.int .i64 i] w fun e w'=>∃ s,Hid (s=rA.su (xs.take i.toNat))∧e=.returned (.agg #[.int .i64 s.a,.int .i64 s.s,.int .i64 s.b,.bool s.lf,.bool s.cr])∧Below w.heap.size w w':=by
 obtain ⟨u',tr,hu,ht,hl,_⟩:=h
 obtain rfl:u=u':=by simpa using hu
 obtain ⟨w0,hw0⟩:∃ w0,w0=((w.alloc (.cells #[.pointer u] 105)).alloc (.cells #[.int .i64 0,.int .i64 0,.int .i64 0,.bool false,.bool false] 110)).alloc (.cells #[.int .i64 0,.int .i64 0,.int .i64 0,.bool false,.bool false] 110):=⟨_,rfl⟩
 have hb0:Below w.heap.size w w0:=by rw [hw0];exact ext_alloc (ext_alloc (ext_alloc (Below.refl _ _) _) _) _
 have hA:Blk 110 w0 (w.heap.size + 1) Rs.zero:=by
  have:=Blk.new 110 (w.alloc (.cells #[.pointer u] 105)) Rs.zero
  rw [World.size_alloc] at this
  rw [hw0];exact this.ext (ext_alloc (Below.refl _ _) _)
 have hB:Blk 110 w0 (w.heap.size + 2) Rs.zero:=by
  have:=Blk.new 110 ((w.alloc (.cells #[.pointer u] 105)).alloc (.cells #[.int .i64 0,.int .i64 0,.int .i64 0,.bool false,.bool false] 110)) Rs.zero
  rw [World.size_alloc,World.size_alloc] at this
  rw [hw0];exact this
 have HT:=hidIt (ht.ext hb0)
 have HL:=hidIt hl
 have HB0:=hidIt hb0
 have HA:=hidIt hA
 have HBB:=hidIt hB
 have HW:=hidIt hw
 clear ht hl hb0 hu hw hA hB
 have hmt1:=m_meas
 have hmt2:=m_add
 have hnt1:=n_meas
 have hnt2:=n_add
 go_enter Tryz.func81,Tryz.ntmps81
 go_wp2_with fail
 rw [← hw0]
 clear hw0
 go_loopg [1,6] xs.length (fun gk c p wr=>∃ (t:Tr It) (q:Option Addr) (d:List It) (j:Int),t.list.length≤gk∧c=.int .i64 j∧p=.pointer q∧Tin wr t q∧Hid (xs.take i.toNat=d ++ t.list.take j.toNat∧wt (d ++ t.list)≤4611686018427387904∧j≤9223372036854775807)∧Blk 110 wr (w.heap.size + 2) (rA.su d)∧Blk 110 wr (w.heap.size + 1) Rs.zero∧Below w.heap.size w wr)
 case atStart=>exact ⟨tr,u,[],i,by rw [HL.out];exact Nat.le_refl _,rfl,rfl,HT.out,⟨by rw [HL.out];rfl,by rw [HL.out];exact HW.out,hi⟩,HBB.out,HA.out,HB0.out⟩
 case round =>
  obtain ⟨t,q,d,j,hgk,rfl,rfl,htq,HI,hB,hA,hb⟩:=hrel
  have hszB:=hB.lt
  cases t using Tr.ind with
  | nil =>
    simp only [Tin] at htq
    subst htq
    obtain ⟨b0,b1,b2,b3,_⟩:=hB.cells
    obtain ⟨a0,a1,a2,a3,af⟩:=hA.cells
    have HE:Hid (rA.su d=rA.su (xs.take i.toNat)):=by rw [HI.out.1];simp [Tr.list,Hid]
    obtain ⟨p1,p2⟩:=hA.put (rA.su d)
    have HP:=hidIt (below_put hb (by omega) p2 (by omega))
    clear p1 p2
    generalize rA.su d=sd at *
    go_wp2_with fail
    exact bodyPost_ret (v:=.agg #[.int .i64 sd.a,.int .i64 sd.s,.int .i64 sd.b,.bool sd.lf,.bool sd.cr]) (by simp [results,Tryz.results81,go_sem,a0]) rfl ⟨sd,HE,rfl,HP.out⟩
  | node l x r =>
    obtain ⟨g,lu,ru,rfl,hgl,h2,h3,c0,c1,c2,c3⟩:=htq.lt
    have HGK:Hid (l.list.length < gk∧r.list.length < gk):=by rw [Tr.list] at hgk;simp only [List.length_append,List.length_cons] at hgk;unfold Hid;omega
    clear hgk
    obtain ⟨i1,i2,i3⟩:=HI.out
    rw [Tr.list] at i1 i2
    have ew:=i2
    simp only [wt_app,wt_cons] at ew
    have b2:=wt_len l.list
    have hn2:¬ g=w.heap.size + 2:=by
     intro e
     obtain ⟨g',lv',rv',e1,hg',_⟩:=htq
     obtain rfl:g=g':=by simpa using e1
     unfold Blk at hB
     rw [e,hB] at hg'
     simp at hg'
    have CL:Hid (Calls Tryz.prog 114 #[.pointer lu] wr fun e w''=>e=.returned (.int .i64 l.list.length)∧w''=wr):=count_any l lu wr h2
    by_cases hj:j≤(l.list.length:Int)
    ·have HG:Hid (xs.take i.toNat=d ++ l.list.take j.toNat∧wt (d ++ l.list)≤4611686018427387904∧j≤9223372036854775807):=⟨by rw [i1,List.take_append_of_le_length (by omega)],by rw [wt_app];omega,i3⟩
     have H2:=hidIt h2
     clear h2 h3 htq hn2
     generalize hX:l.list.length=nl at *
     have ENL:=hidIt hX
     clear hX
     go_wp2_with fail
     refine CL.out.mono ?_
     rintro e w' ⟨rfl,rfl⟩
     go_wp2_with fail
     go_roundg l.list.length
     case measure=>rw [ENL.out];exact HGK.out.1
     case rel=>exact ⟨l,lu,d,j,Nat.le_refl _,rfl,rfl,H2.out,HG.out,hB,hA,hb⟩
    ·have hj':(l.list.length:Int) < j:=Int.not_le.1 hj
     have HG:Hid (xs.take i.toNat=(d ++ l.list ++ [x]) ++ r.list.take (j - (l.list.length + 1)).toNat∧wt ((d ++ l.list ++ [x]) ++ r.list)≤4611686018427387904∧j - (l.list.length + 1)≤9223372036854775807):=⟨by rw [i1,show j.toNat=l.list.length + ((j - (l.list.length + 1)).toNat + 1) by omega,List.take_length_add_append,List.take_succ_cons];simp,by simpa using i2,by omega⟩
     have TL:Hid (∀ w',Below wr.heap.size wr w'→Calls Tryz.prog 98 #[.pointer lu] w' fun e w''=>∃ s,Hid (s=rA.su l.list)∧e=.returned (.agg #[.int .i64 s.a,.int .i64 s.s,.int .i64 s.b,.bool s.lf,.bool s.cr])∧Below w'.heap.size w' w''):=fun w' hb'=>total_any l lu w' (h2.ext hb')
     have A1:Hid (∀ s w',Hid (s=rA.su l.list)→Calls Tryz.prog 83 #[.agg #[.int .i64 (rA.su d).a,.int .i64 (rA.su d).s,.int .i64 (rA.su d).b,.bool (rA.su d).lf,.bool (rA.su d).cr],.agg #[.int .i64 s.a,.int .i64 s.s,.int .i64 s.b,.bool s.lf,.bool s.cr]] w' fun e w''=>∃ q,Hid (q=rA.su (d ++ l.list))∧e=.returned (.agg #[.int .i64 q.a,.int .i64 q.s,.int .i64 q.b,.bool q.lf,.bool q.cr])∧Below w'.heap.size w' w''):=fun s w' hs=>add_su d l.list _ s w' rfl hs (by rw [wt_app];omega)
     have MM:Hid (∀ w',Calls Tryz.prog 165 #[.agg #[.slice x.p x.n x.c,.int .i64 x.pl,.int .i64 x.sp.a,.int .i64 x.sp.s,.int .i64 x.sp.b,.bool x.sp.lf,.bool x.sp.cr]] w' fun e w''=>∃ s,Hid (s=rA.su [x])∧e=.returned (.agg #[.int .i64 s.a,.int .i64 s.s,.int .i64 s.b,.bool s.lf,.bool s.cr])∧Below w'.heap.size w' w''):=fun w'=>(Measure_any x w').mono fun _ _ ⟨s,k1,k2,k3⟩=>⟨s,k1.out.trans (su_one x).symm,k2,k3⟩
     have A2:Hid (∀ q s w',Hid (q=rA.su (d ++ l.list))→Hid (s=rA.su [x])→Calls Tryz.prog 83 #[.agg #[.int .i64 q.a,.int .i64 q.s,.int .i64 q.b,.bool q.lf,.bool q.cr],.agg #[.int .i64 s.a,.int .i64 s.s,.int .i64 s.b,.bool s.lf,.bool s.cr]] w' fun e w''=>∃ q,Hid (q=rA.su (d ++ l.list ++ [x]))∧e=.returned (.agg #[.int .i64 q.a,.int .i64 q.s,.int .i64 q.b,.bool q.lf,.bool q.cr])∧Below w'.heap.size w' w''):=fun q s w' hq hs=>add_su (d ++ l.list) [x] q s w' hq hs (by simp only [wt_app,wt_cons,wt_nil];omega)
     have HCC:Hid (∀ w',Below wr.heap.size wr w'→((w'.cell? ⟨g,0,none⟩=some (.slice x.p x.n x.c)∧w'.cell? ⟨g,1,none⟩=some (.int .i64 x.pl)∧w'.cell? ⟨g,2,none⟩=some (.int .i64 x.sp.a)∧w'.cell? ⟨g,3,none⟩=some (.int .i64 x.sp.s)∧w'.cell? ⟨g,4,none⟩=some (.int .i64 x.sp.b)∧w'.cell? ⟨g,5,none⟩=some (.bool x.sp.lf)∧w'.cell? ⟨g,6,none⟩=some (.bool x.sp.cr))∧True∧w'.cell? ⟨g,7,none⟩=some (.pointer lu)∧w'.cell? ⟨g,8,none⟩=some (.pointer ru))∧Blk 110 w' (w.heap.size + 2) (rA.su d)∧Blk 110 w' (w.heap.size + 1) Rs.zero∧Tin w' r ru):=fun w' hb'=>⟨⟨(by first | trivial | exact C7.ext hb' hgl c0 | exact C5.ext hb' hgl c0 | exact (hb'.cell (p:=⟨g,0,none⟩) hgl).trans c0 | exact (hb'.cell (p:=⟨g,0,none⟩) hgl).trans c0),(by first | trivial | exact C7.ext hb' hgl c1 | exact C5.ext hb' hgl c1 | exact (hb'.cell (p:=⟨g,1,none⟩) hgl).trans c1 | exact (hb'.cell (p:=⟨g,1,none⟩) hgl).trans c1),(by first | trivial | exact C7.ext hb' hgl c2 | exact C5.ext hb' hgl c2 | exact (hb'.cell (p:=⟨g,7,none⟩) hgl).trans c2 | exact (hb'.cell (p:=⟨g,2,none⟩) hgl).trans c2),(by first | trivial | exact C7.ext hb' hgl c3 | exact C5.ext hb' hgl c3 | exact (hb'.cell (p:=⟨g,8,none⟩) hgl).trans c3 | exact (hb'.cell (p:=⟨g,3,none⟩) hgl).trans c3)⟩,hB.ext hb',hA.ext hb',h3.ext hb'⟩
     have HB:=hidIt hb
     have HN2:=hidIt hn2
     have hjb:j≤9223372036854775807:=i3
     have hnb:(l.list.length:Int)≤4611686018427387904:=by omega
     obtain ⟨z0,z1,z2,z3,zf⟩:=hB.cells
     clear h2 h3 htq hn2 i1 i2 i3 ew b2 hb hB hA
     generalize hX1:rA.su d=sd at *
     generalize rA.su (d ++ l.list)=s1 at *
     generalize hX2:rA.su (d ++ l.list ++ [x])=s2 at *
     generalize rA.su l.list=sl at *
     generalize rA.su [x]=sx at *
     generalize l.list.length=nl at *
     have ES2:=hidIt hX2
     clear hX1 hX2
     go_wp2_with fail
     refine CL.out.mono ?_
     rintro e w' ⟨rfl,rfl⟩
     go_upto_region 7 with fail
     go_cut [] from 10 to 47 (fun wF=>Hid (Blk 110 wF (w.heap.size + 2) s2∧Blk 110 wF (w.heap.size + 1) Rs.zero∧Tin wF r ru∧Below w.heap.size w wF∧wF.cell? ⟨g,8,none⟩=some (.pointer ru)))
     case first =>
      refine wp_region_held_drew (S:=fun w''=>(w''.cell? ⟨g,0,none⟩=some (.slice x.p x.n x.c)∧w''.cell? ⟨g,1,none⟩=some (.int .i64 x.pl)∧w''.cell? ⟨g,2,none⟩=some (.int .i64 x.sp.a)∧w''.cell? ⟨g,3,none⟩=some (.int .i64 x.sp.s)∧w''.cell? ⟨g,4,none⟩=some (.int .i64 x.sp.b)∧w''.cell? ⟨g,5,none⟩=some (.bool x.sp.lf)∧w''.cell? ⟨g,6,none⟩=some (.bool x.sp.cr))∧True∧w''.cell? ⟨g,7,none⟩=some (.pointer lu)) (by kernel_rfl) (by first | exact ⟨c0,c1,c2⟩ | (dsimp only;go_keep)) (fun hHeld=>?_)
      refine tkH 2 rfl ?_
      try simp only [Act.put,tS]
      refine tkH 3 rfl ?_
      try simp only [Act.put]
      refine tkH 4 rfl ?_
      try simp only [Act.put]
      refine tkH 5 rfl ?_
      try simp only [Act.put]
      refine tkH 9 rfl ?_
      try simp only [Act.put]
      refine tkH 10 rfl ?_
      try simp only [Act.put]
      refine tkH 11 rfl ?_
      try simp only [Act.put]
      refine tkH 12 rfl ?_
      try simp only [Act.put]
      refine tkH 13 rfl ?_
      try simp only [Act.put]
      refine wpAnyH_ready (rs:=[0,6]) (by kernel_rfl) (by simp) ?_
      refine AllReadyH.cons (o:=_) rfl (fun K hK=>?_) ?_
      ·go_simp
       refine hK.out _ _ (by first | exact ⟨c0,c1,c2⟩ | go_keep) (fun hHeld=>?_)
       clear hK K
       try simp only [Act.put,tS]
       refine tkH 1 rfl ?_
       try simp only [Act.put,tS]
       refine rdH 6 rfl fun K hK=>?_
       go_simp
       refine (TL.out _ (by repeat (first | exact HB4.out | exact HB3.out | exact HB2.out | exact HB1.out | exact Below.refl _ _ | apply Below.drew))).mono ?_;rintro e w1 ⟨q1,HL1,rfl,hbb⟩;have HB1:Hid (Below w'.heap.size w' w1):=ext_trans (by repeat (first | exact HB4.out | exact HB3.out | exact HB2.out | exact HB1.out | exact Below.refl _ _ | apply Below.drew)) hbb;clear hbb c0 c1 c2 z0 z1 z2 z3 zf;obtain ⟨⟨c0,c1,c2,_⟩,hkk,_⟩:=HCC.out w1 HB1.out;obtain ⟨z0,z1,z2,z3,zf⟩:=hkk.cells;try go_wp2_with fail
       refine hK.out _ _ (⟨c0,c1,c2⟩) (fun hHeld=>?_)
       clear hK K
       try simp only [Act.put,tS]
       refine rdH 7 rfl fun K hK=>?_
       go_simp
       refine (A1.out _ _ HL1).mono ?_;rintro e w2 ⟨q2,HQ2,rfl,hbb⟩;have HB2:Hid (Below w'.heap.size w' w2):=ext_trans (by repeat (first | exact HB4.out | exact HB3.out | exact HB2.out | exact HB1.out | exact Below.refl _ _ | apply Below.drew)) hbb;clear hbb c0 c1 c2 z0 z1 z2 z3 zf;obtain ⟨⟨c0,c1,c2,_⟩,hkk,_⟩:=HCC.out w2 HB2.out;obtain ⟨z0,z1,z2,z3,zf⟩:=hkk.cells;try go_wp2_with fail
       refine hK.out _ _ (⟨c0,c1,c2⟩) (fun hHeld=>?_)
       clear hK K
       try simp only [Act.put,tS]
       refine tkH 8 rfl ?_
       try simp only [Act.put,tS]
       refine rdH 14 rfl fun K hK=>?_
       go_simp
       refine (MM.out _).mono ?_;rintro e w3 ⟨q3,HQ3,rfl,hbb⟩;have HB3:Hid (Below w'.heap.size w' w3):=ext_trans (by repeat (first | exact HB4.out | exact HB3.out | exact HB2.out | exact HB1.out | exact Below.refl _ _ | apply Below.drew)) hbb;clear hbb c0 c1 c2 z0 z1 z2 z3 zf;obtain ⟨⟨c0,c1,c2,_⟩,hkk,_⟩:=HCC.out w3 HB3.out;obtain ⟨z0,z1,z2,z3,zf⟩:=hkk.cells;try go_wp2_with fail
       refine hK.out _ _ (⟨c0,c1,c2⟩) (fun hHeld=>?_)
       clear hK K
       try simp only [Act.put,tS]
       refine rdH 15 rfl fun K hK=>?_
       go_simp
       refine (A2.out _ _ _ HQ2 HQ3).mono ?_;rintro e w4 ⟨q4,HQ4,rfl,hbb⟩;have HB4:Hid (Below w'.heap.size w' w4):=ext_trans (by repeat (first | exact HB4.out | exact HB3.out | exact HB2.out | exact HB1.out | exact Below.refl _ _ | apply Below.drew)) hbb;clear hbb c0 c1 c2 z0 z1 z2 z3 zf;obtain ⟨⟨c0,c1,c2,_⟩,hkk,_⟩:=HCC.out w4 HB4.out;obtain ⟨z0,z1,z2,z3,zf⟩:=hkk.cells;try go_wp2_with fail
       refine hK.out _ _ (⟨c0,c1,c2⟩) (fun hHeld=>?_)
       clear hK K
       try simp only [Act.put,tS]
       refine rdH 16 rfl fun K hK=>?_
       go_simp
       refine hK.out _ _ (by simp only [cell_set_other HN2.out];exact ⟨c0,c1,c2⟩) (fun hHeld=>?_)
       clear hK K
       try simp only [Act.put,tS]
       refine wpAnyH_done (by kernel_rfl) ?_ _
       go_wp2_with fail
       go_meet
       case rel =>
        obtain ⟨⟨_,_,_,k3⟩,hk,hk0,hr⟩:=HCC.out w4 HB4.out
        obtain ⟨p1,p2⟩:=hk.put q4
        have E:=HQ4.out
        subst E
        exact ⟨p1,hk0.other p2 (by omega),hr.put hk (by decide) p2,below_put (HB.out.trans (HB4.out.mono (by omega))) (by have:=HB4.out.size;omega) p2 (by omega),by simp only [cell_set_other HN2.out];exact k3⟩
      refine AllReadyH.cons (o:=_) rfl (fun K hK=>?_) AllReadyH.nil
      go_simp
      refine (TL.out _ (by repeat (first | exact HB4.out | exact HB3.out | exact HB2.out | exact HB1.out | exact Below.refl _ _ | apply Below.drew))).mono ?_;rintro e w1 ⟨q1,HL1,rfl,hbb⟩;have HB1:Hid (Below w'.heap.size w' w1):=ext_trans (by repeat (first | exact HB4.out | exact HB3.out | exact HB2.out | exact HB1.out | exact Below.refl _ _ | apply Below.drew)) hbb;clear hbb c0 c1 c2 z0 z1 z2 z3 zf;obtain ⟨⟨c0,c1,c2,_⟩,hkk,_⟩:=HCC.out w1 HB1.out;obtain ⟨z0,z1,z2,z3,zf⟩:=hkk.cells;try go_wp2_with fail
      refine hK.out _ _ (⟨c0,c1,c2⟩) (fun hHeld=>?_)
      clear hK K
      try simp only [Act.put,tS]
      refine rdH 0 rfl fun K hK=>?_
      go_simp
      refine hK.out _ _ (⟨c0,c1,c2⟩) (fun hHeld=>?_)
      clear hK K
      try simp only [Act.put,tS]
      refine tkH 1 rfl ?_
      try simp only [Act.put,tS]
      refine rdH 7 rfl fun K hK=>?_
      go_simp
      refine (A1.out _ _ HL1).mono ?_;rintro e w2 ⟨q2,HQ2,rfl,hbb⟩;have HB2:Hid (Below w'.heap.size w' w2):=ext_trans (by repeat (first | exact HB4.out | exact HB3.out | exact HB2.out | exact HB1.out | exact Below.refl _ _ | apply Below.drew)) hbb;clear hbb c0 c1 c2 z0 z1 z2 z3 zf;obtain ⟨⟨c0,c1,c2,_⟩,hkk,_⟩:=HCC.out w2 HB2.out;obtain ⟨z0,z1,z2,z3,zf⟩:=hkk.cells;try go_wp2_with fail
      refine hK.out _ _ (⟨c0,c1,c2⟩) (fun hHeld=>?_)
      clear hK K
      try simp only [Act.put,tS]
      refine tkH 8 rfl ?_
      try simp only [Act.put,tS]
      refine rdH 14 rfl fun K hK=>?_
      go_simp
      refine (MM.out _).mono ?_;rintro e w3 ⟨q3,HQ3,rfl,hbb⟩;have HB3:Hid (Below w'.heap.size w' w3):=ext_trans (by repeat (first | exact HB4.out | exact HB3.out | exact HB2.out | exact HB1.out | exact Below.refl _ _ | apply Below.drew)) hbb;clear hbb c0 c1 c2 z0 z1 z2 z3 zf;obtain ⟨⟨c0,c1,c2,_⟩,hkk,_⟩:=HCC.out w3 HB3.out;obtain ⟨z0,z1,z2,z3,zf⟩:=hkk.cells;try go_wp2_with fail
      refine hK.out _ _ (⟨c0,c1,c2⟩) (fun hHeld=>?_)
      clear hK K
      try simp only [Act.put,tS]
      refine rdH 15 rfl fun K hK=>?_
      go_simp
      refine (A2.out _ _ _ HQ2 HQ3).mono ?_;rintro e w4 ⟨q4,HQ4,rfl,hbb⟩;have HB4:Hid (Below w'.heap.size w' w4):=ext_trans (by repeat (first | exact HB4.out | exact HB3.out | exact HB2.out | exact HB1.out | exact Below.refl _ _ | apply Below.drew)) hbb;clear hbb c0 c1 c2 z0 z1 z2 z3 zf;obtain ⟨⟨c0,c1,c2,_⟩,hkk,_⟩:=HCC.out w4 HB4.out;obtain ⟨z0,z1,z2,z3,zf⟩:=hkk.cells;try go_wp2_with fail
      refine hK.out _ _ (⟨c0,c1,c2⟩) (fun hHeld=>?_)
      clear hK K
      try simp only [Act.put,tS]
      refine rdH 16 rfl fun K hK=>?_
      go_simp
      refine hK.out _ _ (by simp only [cell_set_other HN2.out];exact ⟨c0,c1,c2⟩) (fun hHeld=>?_)
      clear hK K
      try simp only [Act.put,tS]
      refine wpAnyH_done (by kernel_rfl) ?_ _
      go_wp2_with fail
      go_meet
      case rel =>
       obtain ⟨⟨_,_,_,k3⟩,hk,hk0,hr⟩:=HCC.out w4 HB4.out
       obtain ⟨p1,p2⟩:=hk.put q4
       have E:=HQ4.out
       subst E
       exact ⟨p1,hk0.other p2 (by omega),hr.put hk (by decide) p2,below_put (HB.out.trans (HB4.out.mono (by omega))) (by have:=HB4.out.size;omega) p2 (by omega),by simp only [cell_set_other HN2.out];exact k3⟩
     have HQ:=hcut
     obtain ⟨f1,f2,f3,f4,f5⟩:=HQ.out
     have F1:=hidIt f1
     have F2:=hidIt f2
     have F3:=hidIt f3
     have F4:=hidIt f4
     clear f1 f2 f3 f4 hcut HQ c0 c1 c2 c3 z0 z1 z2 z3 zf
     go_wp2_with fail
     go_roundg r.list.length
     case measure=>exact HGK.out.2
     case rel=>exact ⟨r,ru,d ++ l.list ++ [x],_,Nat.le_refl _,rfl,rfl,F3.out,HG.out,by rw [ES2.out];exact F1.out,F2.out,F4.out⟩
end Go.Proofs.YtjomfbegghgbdaaGreat.P
