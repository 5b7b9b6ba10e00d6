import Derived.Test.YtdhciadajendnaaGreatK16
import Derived.Deep.LoopGhost
import Derived.Deep.CutRange
import Derived.Deep.CutBlock
set_option maxRecDepth 100000
namespace Go.Proofs.YtdhciadajendnaaGreat.P
open Go.RowKit
def sg (a k:Int):Rs:=⟨1,k,if a=10∨a=13 then 1 else 0,decide (a=10),decide (a=13)⟩
theorem size_nn (enc a:Int):0≤Cx.size enc a:=by unfold Cx.size;split <;> omega
theorem sg_ok (a k:Int) (h:0≤k):Rs.Ok (sg a k):=by
 unfold sg
 refine ⟨by simp,h,?_,?_,fun h=>by simp at h⟩
 ·simp only;split <;> omega
 ·simp only [decide_eq_true_eq];intro e;rw [if_pos (.inl e)];omega
def aA (enc:Int):Alg Int Rs where
 zero:=Rs.zero
 add:=Rs.add
 meas:=fun a=>sg a (Cx.size enc a)
 key:=Rs.key
 Ok:=Rs.Ok
 okz:=Rs.ok_zero
 okm:=fun a=>sg_ok a _ (size_nn enc a)
 oka:=fun _ _ ha hb=>Rs.ok_add ha hb
 assoc:=Rs.assoc
 zadd:=fun a _=>Rs.zadd a
 addz:=Rs.addz
 mono:=Rs.mono
 keyz:=fun k=>by unfold Rs.key Rs.zero;simp
def spn (enc:Int) (l:List Int):Rs:=(aA enc).su l
theorem spn_app (enc:Int) (a b:List Int):spn enc (a ++ b)=Rs.add (spn enc a) (spn enc b):=(aA enc).su_app a b
theorem spn_snoc (enc:Int) (a:List Int) (x:Int):spn enc (a ++ [x])=Rs.add (spn enc a) (sg x (Cx.size enc x)):=(aA enc).su_snoc a x
theorem spn_cons (enc:Int) (x:Int) (l:List Int):spn enc (x :: l)=Rs.add (sg x (Cx.size enc x)) (spn enc l):=(aA enc).su_cons x l
theorem spn_ok (enc:Int) (l:List Int):Rs.Ok (spn enc l):=(aA enc).ok l
theorem add_as (x y:Rs) (hx:Rs.Ok x) (hy:Rs.Ok y):(Rs.add x y).a=x.a + y.a∧(Rs.add x y).s=x.s + y.s:=by
 unfold Rs.add
 by_cases h1:x.a=0
 ·rw [if_pos h1,hx.z h1];exact ⟨(Int.zero_add _).symm,(Int.zero_add _).symm⟩
 ·rw [if_neg h1]
  by_cases h2:y.a=0
  ·rw [if_pos h2,hy.z h2];exact ⟨(Int.add_zero _).symm,(Int.add_zero _).symm⟩
  ·rw [if_neg h2];exact ⟨rfl,rfl⟩
theorem spn_as (enc:Int) (l:List Int) (h:∀ a ∈ l,Cx.fits enc a=true):(spn enc l).a=l.length∧(spn enc l).s=(Cx.encB enc l).length:=by
 induction l with
 | nil=>exact ⟨rfl,rfl⟩
 | cons x l ih =>
   obtain ⟨i1,i2⟩:=ih (fun a ha=>h a (List.mem_cons_of_mem _ ha))
   obtain ⟨k1,k2⟩:=add_as (sg x (Cx.size enc x)) (spn enc l) (sg_ok x _ (size_nn enc x)) (spn_ok enc l)
   rw [spn_cons,k1,k2,i1,i2,Cx.encB_cons,List.length_append,List.length_cons]
   have e:Cx.size enc x=(Cx.put enc x).length:=by unfold Cx.size;rw [if_pos (h x List.mem_cons_self)]
   refine ⟨?_,?_⟩
   ·show (1:Int) + _=_
    omega
   ·show Cx.size enc x + _=_
    rw [e];omega
theorem single_any (a k:Int) (w:World):Calls Tryz.prog 78 #[.int .i64 a,.int .i64 k] w fun e w'=>e=.returned (.agg #[.int .i64 (sg a k).a,.int .i64 (sg a k).s,.int .i64 (sg a k).b,.bool (sg a k).lf,.bool (sg a k).cr])∧Below w.heap.size w w':=by
 by_cases h1:a=10
 ·subst h1
  go_enter Tryz.func78,Tryz.ntmps78
  go_wp2_with fail
  exact bodyPost_ret (v:=.agg #[.int .i64 1,.int .i64 k,.int .i64 1,.bool true,.bool false]) (by simp [results,Tryz.results78,go_sem]) rfl ⟨rfl,by repeat (first | exact Below.refl _ _ | refine zxa ?_ _)⟩
 by_cases h2:a=13
 ·subst h2
  go_enter Tryz.func78,Tryz.ntmps78
  go_wp2_with fail
  exact bodyPost_ret (v:=.agg #[.int .i64 1,.int .i64 k,.int .i64 1,.bool false,.bool true]) (by simp [results,Tryz.results78,go_sem]) rfl ⟨rfl,by repeat (first | exact Below.refl _ _ | refine zxa ?_ _)⟩
 ·have e:sg a k=⟨1,k,0,false,false⟩:=by unfold sg;rw [if_neg (by omega)];simp [h1,h2]
  have b1:(a == 10)=false:=by simp [h1]
  have b2:(a == 13)=false:=by simp [h2]
  rw [e]
  clear e
  go_enter Tryz.func78,Tryz.ntmps78
  go_wp2_with fail
  exact bodyPost_ret (v:=.agg #[.int .i64 1,.int .i64 k,.int .i64 0,.bool false,.bool false]) (by simp [results,Tryz.results78,go_sem]) rfl ⟨rfl,by repeat (first | exact Below.refl _ _ | refine zxa ?_ _)⟩
def tg (pl k:Int):Int:=if pl=-1 then -1 else pl + k
theorem tag_any (x:It) (k:Int) (w:World) (h0:-1≤x.pl) (hk:0≤k) (h1:x.pl + k≤9223372036854775807):Calls Tryz.prog 107 #[.agg #[.slice x.p x.n x.c,.int .i64 x.pl,.int .i64 x.sp.a,.int .i64 x.sp.s,.int .i64 x.sp.b,.bool x.sp.lf,.bool x.sp.cr],.int .i64 k] w fun e w'=>e=.returned (.int .i64 (tg x.pl k))∧Below w.heap.size w w':=by
 obtain ⟨p,n,c,pl,sp,ok⟩:=x
 simp only at *
 by_cases h:pl=-1
 ·have e:tg pl k=-1:=by unfold tg;rw [if_pos h]
  rw [e,h]
  go_enter Tryz.func107,Tryz.ntmps107
  go_wp2_with fail
  go_ret
  exact ⟨rfl,zxa (Below.refl _ _) _⟩
 ·have e:tg pl k=pl + k:=by unfold tg;rw [if_neg h]
  have hb:(pl == -1)=false:=by simp [h]
  rw [e]
  clear e
  go_enter Tryz.func107,Tryz.ntmps107
  go_wp2_with fail
  go_ret
  exact ⟨rfl,zxa (Below.refl _ _) _⟩
theorem Next_any (enc:Int) (he:Cx.En enc) (v:Value) (zs:List Int) (n:Nat) (w:World) (h:Rd .u8 w v zs) (hb:Byt zs) (hn:n < zs.length) :
  Calls Tryz.prog 33 #[.int .i64 enc,v,.int .i64 n] w fun e w'=>e=.returned (.tuple #[.int .i64 (Cx.fst enc (zs.drop n)).1,.int .i64 (Cx.fst enc (zs.drop n)).2])∧Below w.heap.size w w':=by
 rcases he with rfl | rfl | rfl | rfl
 ·exact Next_1 v zs n w h hb hn
 ·exact Next_2 v zs n w h hb hn
 ·exact Next_3 v zs n w h hb hn
 ·exact Next_4 v zs n w h hb hn
theorem Prev_any (enc:Int) (he:Cx.En enc) (v:Value) (zs:List Int) (n:Nat) (w:World) (h:Rd .u8 w v zs) (hb:Byt zs) (h0:0 < n) (hn:n≤zs.length) :
  Calls Tryz.prog 111 #[.int .i64 enc,v,.int .i64 n] w fun e w'=>e=.returned (.tuple #[.int .i64 (Cx.lst enc (zs.take n)).1,.int .i64 (Cx.lst enc (zs.take n)).2])∧Below w.heap.size w w':=by
 rcases he with rfl | rfl | rfl | rfl
 ·exact Prev_1 v zs n w h hb h0 hn
 ·exact Prev_2 v zs n w h hb h0 hn
 ·exact Prev_3 v zs n w h hb h0 hn
 ·exact Prev_4 v zs n w h hb h0 hn
theorem endsWith_any (enc:Int) (he:Cx.En enc) (v:Value) (zs:List Int) (a:Int) (w:World) (h:Rd .u8 w v zs) (hb:Byt zs) (h0:0 < zs.length) :
  Calls Tryz.prog 76 #[.int .i64 enc,v,.int .i64 a] w fun e w'=>e=.returned (.bool (decide ((Cx.lst enc zs).1=a)))∧Below w.heap.size w w':=by
 have PV:=zh (Prev_any enc he v zs zs.length w h hb h0 (Nat.le_refl _))
 rw [List.take_length] at PV
 obtain ⟨ao,cap,rfl,_⟩:=h
 generalize (Cx.lst enc zs).1=q at *
 generalize (Cx.lst enc zs).2=q2 at *
 by_cases hq:q=a
 ·have hq':(q == a)=true:=by simp [hq]
  have hd:decide (q=a)=true:=by simp [hq]
  rw [hd]
  clear hq hd
  go_enter Tryz.func76,Tryz.ntmps76
  go_wp2_with (go_at_call 111;refine PV.out.mono ?_;rintro e w1 ⟨rfl,hb1⟩;have HB1:=zh hb1;clear hb1)
  go_ret
  exact ⟨rfl,HB1.out⟩
 ·have hq':(q == a)=false:=by simp [hq]
  have hd:decide (q=a)=false:=by simp [hq]
  rw [hd]
  clear hd
  go_enter Tryz.func76,Tryz.ntmps76
  go_wp2_with (go_at_call 111;refine PV.out.mono ?_;rintro e w1 ⟨rfl,hb1⟩;have HB1:=zh hb1;clear hb1)
  go_ret
  exact ⟨rfl,HB1.out⟩
open Go.RowKit
def off (enc:Int) (zs:List Int) (j:Nat):Nat:=(Cx.encB enc ((Cx.dec enc zs).take j)).length
theorem off_le (enc:Int) (he:Cx.En enc) (zs:List Int) (hB:Byt zs) (j:Nat) (h:j≤(Cx.dec enc zs).length):off enc zs j≤zs.length:=(Cx.dec_cut enc he j zs hB h).1
theorem off_step (enc:Int) (he:Cx.En enc) (zs:List Int) (hB:Byt zs) (j:Nat) (h:j < (Cx.dec enc zs).length) :
  off enc zs j < zs.length∧∃ (a:Int) (s:Nat),Cx.fst enc (zs.drop (off enc zs j))=(a,(s:Int))∧(Cx.dec enc zs)[j]?=some a∧off enc zs (j + 1)=off enc zs j + s∧1≤s∧Cx.fits enc a=true∧Cx.size enc a=s:=by
 obtain ⟨h1,h2,h3⟩:=Cx.dec_cut enc he j zs hB (by omega)
 have e0:(Cx.encB enc ((Cx.dec enc zs).take j)).length=off enc zs j:=rfl
 rw [e0] at h1 h2 h3
 have hne:zs.drop (off enc zs j)≠[]:=by
  intro e
  rw [e,Cx.dec_nil] at h2
  have:=congrArg List.length h2
  rw [List.length_nil,List.length_drop] at this
  omega
 have hlt:off enc zs j < zs.length:=by
  have:0 < (zs.drop (off enc zs j)).length:=List.length_pos_iff.2 hne
  rw [List.length_drop] at this
  omega
 obtain ⟨a,s,hf,s1,s2,hp,hl,hfit,hd⟩:=Cx.dec_step enc he (zs.drop (off enc zs j)) (hB.drop _) hne
 have hj:(Cx.dec enc zs)[j]?=some a:=by
  have:=congrArg (fun l=>l[0]?) h2
  simp only [List.getElem?_drop,Nat.add_zero] at this
  rw [← this,hd];rfl
 refine ⟨hlt,a,s,hf,hj,?_,s1,hfit,?_⟩
 ·show (Cx.encB enc ((Cx.dec enc zs).take (j + 1))).length=_
  rw [List.take_add_one,hj,Option.toList_some,Cx.encB_app,List.length_append,e0]
  congr 1
  simp [Cx.encB,hl]
 ·unfold Cx.size;rw [if_pos hfit,hl]
theorem off_one (enc:Int) (he:Cx.En enc) (zs:List Int) (hB:Byt zs) (h:zs.length=(Cx.dec enc zs).length):∀ j,j≤(Cx.dec enc zs).length→off enc zs j=j:=by
 have lo:∀ j,j≤(Cx.dec enc zs).length→j≤off enc zs j:=by
  intro j
  induction j with
  | zero=>intro _;exact Nat.zero_le _
  | succ j ih =>
    intro hj
    obtain ⟨_,a,s,_,_,h1,h2,_⟩:=off_step enc he zs hB j (by omega)
    have:=ih (by omega)
    omega
 have hi:∀ d j,j + d=(Cx.dec enc zs).length→off enc zs j + d≤zs.length:=by
  intro d
  induction d with
  | zero=>intro j hj;rw [Nat.add_zero] at hj ⊢;exact off_le enc he zs hB j (by omega)
  | succ d ih =>
    intro j hj
    obtain ⟨_,a,s,_,_,h1,h2,_⟩:=off_step enc he zs hB j (by omega)
    have:=ih (j + 1) (by omega)
    omega
 intro j hj
 have h1:=lo j hj
 have h2:=hi ((Cx.dec enc zs).length - j) j (by omega)
 omega
set_option maxHeartbeats 1000000 in
theorem skip_any (enc:Int) (he:Cx.En enc) (x:It) (zs:List Int) (n:Nat) (w:World) (hR:Rd .u8 w (.slice x.p x.n x.c) zs) (hB:Byt zs) (hl:zs.length≤4611686018427387904) (ha:x.sp.a=(Cx.dec enc zs).length) (hn:n≤(Cx.dec enc zs).length) :
  Calls Tryz.prog 106 #[.agg #[.slice x.p x.n x.c,.int .i64 x.pl,.int .i64 x.sp.a,.int .i64 x.sp.s,.int .i64 x.sp.b,.bool x.sp.lf,.bool x.sp.cr],.int .i64 enc,.int .i64 n] w fun e w'=>e=.returned (.int .i64 (off enc zs n:Nat))∧Below w.heap.size w w':=by
 have hxn:x.n=zs.length:=by obtain ⟨_,_,e,_⟩:=hR;simp only [Value.slice.injEq] at e;exact e.2.1
 obtain ⟨p,xn,c,pl,⟨a,s,b,lf,cr⟩,ok⟩:=x
 simp only at *
 subst hxn
 have hdl:(Cx.dec enc zs).length≤zs.length:=Cx.dec_len enc _ _
 by_cases h1:zs.length=(Cx.dec enc zs).length
 ·have HE:=zh (off_one enc he zs hB h1 n hn)
  have hz:((zs.length:Int) == a)=true:=by rw [ha,h1];simp
  clear ha
  rw [HE.out]
  go_enter Tryz.func106,Tryz.ntmps106
  go_wp2_with fail
  go_ret
  exact ⟨rfl,zxa (Below.refl _ _) _⟩
 ·have hz:((zs.length:Int) == a)=false:=by rw [ha];simp;omega
  have hz':¬ (zs.length:Int)=a:=by rw [ha];omega
  obtain ⟨w0,hw0⟩:∃ w0,w0=w.alloc (.cells #[.slice p zs.length c,.int .i64 pl,.int .i64 a,.int .i64 s,.int .i64 b,.bool lf,.bool cr] 97):=⟨_,rfl⟩
  have hb0:Below w.heap.size w w0:=by rw [hw0];exact zxa (Below.refl _ _) _
  have HB0:=zh hb0
  have hX:w0.heap[w.heap.size]?=some (.cells #[.slice p zs.length c,.int .i64 pl,.int .i64 a,.int .i64 s,.int .i64 b,.bool lf,.bool cr] 97 (0,0)):=by rw [hw0];exact heap_alloc_new _ _
  have hzl:w.heap.size < w0.heap.size:=(Array.getElem?_eq_some_iff.1 hX).1
  have d0:w0.cell? ⟨w.heap.size,0,none⟩=some (.slice p zs.length c):=by rw [cell_of_row w0 _ _ _ _ _ hX];rfl
  have HC:Hid (∀ w',Below w0.heap.size w0 w'→w'.cell? ⟨w.heap.size,0,none⟩=some (.slice p zs.length c)∧Rd .u8 w' (.slice p zs.length c) zs):=fun w' h=>⟨(h.cell (p:=⟨w.heap.size,0,none⟩) hzl).trans d0,(hR.ext hb0).ext h⟩
  have ST:=zh (off_step enc he zs hB)
  have HLE:=zh (off_le enc he zs hB)
  have HBY:=zh hB
  have HEN:=zh he
  clear ha hX d0 hR hb0 hB he
  go_enter Tryz.func106,Tryz.ntmps106
  go_upto_region 4 with fail
  rw [← hw0]
  clear hw0
  go_wp2_with fail
  go_loopg [7,19] n (fun gk k p wr=>∃ j:Nat,j + gk=n∧k=.int .i64 (off enc zs j:Nat)∧p=.int .i64 (j:Nat)∧Hid (Below w0.heap.size w0 wr))
  case atStart=>exact ⟨0,by omega,rfl,rfl,Below.refl _ _⟩
  case round =>
   obtain ⟨j,hj,rfl,rfl,HB⟩:=hrel
   by_cases hi:j < n
   ·have hi':(j:Int) < (n:Int):=by omega
    obtain ⟨q1,q,sz,hf,hq,ho,hs1,hfit,hsz⟩:=ST.out j (by omega)
    have hle:=HLE.out (j + 1) (by omega)
    obtain ⟨c0,hrd⟩:=HC.out wr HB.out
    have NX:=zh (Next_any enc HEN.out _ zs (off enc zs j) wr hrd HBY.out q1)
    rw [hf] at NX
    have HO:=zh ho
    rw [ho] at hle
    clear hrd ho hq hfit hsz hf
    generalize off enc zs j=k at *
    go_wp2_with (go_at_call 33;refine NX.out.mono ?_;clear c0;rintro e w1 ⟨rfl,hb1⟩;have HB1:=zh (zxt HB.out hb1);clear hb1)
    go_roundg (n - (j + 1))
    case rel=>exact ⟨j + 1,by omega,by rw [HO.out];go_num,by go_num,HB1.out⟩
    case measure=>omega
   ·have hi':¬ (j:Int) < (n:Int):=by omega
    obtain rfl:j=n:=by omega
    have HBE:=zh (zxt HB0.out HB.out)
    go_wp2_with fail
    go_ret
    exact ⟨rfl,HBE.out⟩
open Go.RowKit
def bhd (s h:Rs) (nx:Int):Rs:=⟨s.a - h.a,s.s - h.s,s.b - h.b + (if h.cr=true∧nx=10 then 1 else 0),decide (nx=10),s.cr⟩
theorem spn_lf (enc y:Int) (l:List Int):(spn enc (y :: l)).lf=decide (y=10):=by
 rw [spn_cons]
 unfold Rs.add
 rw [if_neg (by simp [sg])]
 split
 ·rfl
 ·rfl
theorem spn_pos (enc:Int) (l:List Int) (h:l≠[]):0 < (spn enc l).a:=by
 cases l with
 | nil=>exact absurd rfl h
 | cons y l =>
   rw [spn_cons,(add_as _ _ (sg_ok y _ (size_nn enc y)) (spn_ok enc l)).1]
   have:=(spn_ok enc l).a0
   show 0 < (1:Int) + _
   omega
theorem spn_b (enc:Int) (l:List Int):(spn enc l).b≤l.length:=by
 induction l with
 | nil=>exact Int.le_refl _
 | cons x l ih =>
   rw [spn_cons,List.length_cons]
   have k:(sg x (Cx.size enc x)).b≤1:=by unfold sg;simp only;split <;> omega
   have m:=Rs.mlt_range (sg x (Cx.size enc x)) (spn enc l)
   unfold Rs.add
   split
   ·omega
   ·split
    ·omega
    ·simp only;omega
theorem bhd_spn (enc:Int) (h:List Int) (y:Int) (r:List Int) (hh:h≠[]):bhd (spn enc (h ++ y :: r)) (spn enc h) y=spn enc (y :: r):=by
 have p1:=spn_pos enc h hh
 have p2:=spn_pos enc (y :: r) (by simp)
 have hl:=spn_lf enc y r
 rw [spn_app]
 generalize spn enc h=a at *
 generalize spn enc (y :: r)=b at *
 unfold Rs.add
 rw [if_neg (by omega),if_neg (by omega)]
 unfold bhd Rs.mlt
 obtain ⟨b1,b2,b3,b4,b5⟩:=b
 simp only at *
 subst hl
 simp only [Rs.mk.injEq,decide_eq_true_eq]
 refine ⟨by omega,by omega,?_,by simp,by simp⟩
 split <;> omega
set_option maxHeartbeats 1000000 in
theorem behind_any (s h:Rs) (nx:Int) (w:World) (h1:0≤s.a - h.a∧s.a≤4611686018427387904∧0≤h.a) (h2:0≤s.s - h.s∧s.s≤4611686018427387904∧0≤h.s) (h3:-1≤s.b - h.b∧s.b≤4611686018427387904∧0≤h.b) :
  Calls Tryz.prog 134 #[.agg #[.int .i64 s.a,.int .i64 s.s,.int .i64 s.b,.bool s.lf,.bool s.cr],.agg #[.int .i64 h.a,.int .i64 h.s,.int .i64 h.b,.bool h.lf,.bool h.cr],.int .i64 nx] w fun e w'=>e=.returned (.agg #[.int .i64 (bhd s h nx).a,.int .i64 (bhd s h nx).s,.int .i64 (bhd s h nx).b,.bool (bhd s h nx).lf,.bool (bhd s h nx).cr])∧Below w.heap.size w w':=by
 obtain ⟨a1,s1,b1,f1,r1⟩:=s
 obtain ⟨a2,s2,b2,f2,r2⟩:=h
 simp only at *
 have MT:Hid (∀ w',Calls Tryz.prog 112 #[.agg #[.int .i64 a2,.int .i64 s2,.int .i64 b2,.bool f2,.bool r2],.agg #[.int .i64 (a1 - a2),.int .i64 (s1 - s2),.int .i64 (b1 - b2),.bool (decide (nx=10)),.bool r1]] w' fun e w''=>e=.returned (.bool (r2 && decide (nx=10)))∧Below w'.heap.size w' w''):=fun w'=>melt_any ⟨a2,s2,b2,f2,r2⟩ ⟨a1 - a2,s1 - s2,b1 - b2,decide (nx=10),r1⟩ w'
 obtain ⟨w4,hw4⟩:∃ w4,w4=(((w.alloc (.cells #[.int .i64 a1,.int .i64 s1,.int .i64 b1,.bool f1,.bool r1] 94)).alloc (.cells #[.int .i64 a2,.int .i64 s2,.int .i64 b2,.bool f2,.bool r2] 94)).alloc (.cells #[.int .i64 0,.int .i64 0,.int .i64 0,.bool false,.bool false] 94)).alloc (.cells #[.int .i64 (a1 - a2),.int .i64 (s1 - s2),.int .i64 (b1 - b2),.bool (decide (nx=10)),.bool r1] 94):=⟨_,rfl⟩
 have HB4:Hid (Below w.heap.size w w4):=by unfold Hid;rw [hw4];repeat (first | exact Below.refl _ _ | refine zxa ?_ _)
 have K1:Hid (Blk 94 w4 (w.heap.size + 3) ⟨a1 - a2,s1 - s2,b1 - b2,decide (nx=10),r1⟩):=by
  unfold Hid Blk
  rw [hw4]
  have e:w.heap.size + 3=(((w.alloc (.cells #[.int .i64 a1,.int .i64 s1,.int .i64 b1,.bool f1,.bool r1] 94)).alloc (.cells #[.int .i64 a2,.int .i64 s2,.int .i64 b2,.bool f2,.bool r2] 94)).alloc (.cells #[.int .i64 0,.int .i64 0,.int .i64 0,.bool false,.bool false] 94)).heap.size:=by simp
  rw [e];exact heap_alloc_new _ _
 have K2:Hid (Blk 94 w4 (w.heap.size + 2) Rs.zero):=by
  unfold Hid
  rw [hw4]
  have e:w.heap.size + 2=((w.alloc (.cells #[.int .i64 a1,.int .i64 s1,.int .i64 b1,.bool f1,.bool r1] 94)).alloc (.cells #[.int .i64 a2,.int .i64 s2,.int .i64 b2,.bool f2,.bool r2] 94)).heap.size:=by simp
  rw [e]
  exact (Blk.new 94 _ Rs.zero).ext (zxa (Below.refl _ _) _)
 obtain ⟨nb,hnb⟩:∃ nb:Bool,nb=decide (nx=10):=⟨_,rfl⟩
 have HNB:=zh hnb
 have hnb':(nx == 10)=nb:=by rw [hnb];rfl
 unfold bhd
 simp only
 rw [← hnb] at hw4 MT K1 ⊢
 have EB:Hid ((if r2=true∧nx=10 then (1:Int) else 0)=if (r2 && nb)=true then 1 else 0):=by unfold Hid;rw [hnb];simp only [Bool.and_eq_true,decide_eq_true_eq]
 rw [EB.out]
 clear hnb EB
 generalize (r2 && nb)=mb at MT ⊢
 go_enter Tryz.func134,Tryz.ntmps134
 go_wp2_with fail
 rw [← hw4]
 clear hw4
 refine (MT.out w4).mono ?_
 rintro e w5 ⟨rfl,hb5⟩
 have HB5:=zh (zxt HB4.out hb5)
 have G1:=zh (K1.out.ext hb5)
 have G2:=zh (K2.out.ext hb5)
 clear hb5 MT K1 K2 HB4
 obtain ⟨c0,_,_,_,cf⟩:=G1.out.cells
 obtain ⟨d0,_,_,_,df⟩:=G2.out.cells
 have l1:=G1.out.lt
 have l2:=G2.out.lt
 simp only at c0 d0
 cases mb
 ·go_wp2_with fail
  obtain ⟨p1,p2⟩:=G2.out.put ⟨a1 - a2,s1 - s2,b1 - b2,nb,r1⟩
  exact bodyPost_ret (v:=.agg #[.int .i64 (a1 - a2),.int .i64 (s1 - s2),.int .i64 (b1 - b2),.bool nb,.bool r1]) (by simp [results,Tryz.results134,go_sem,d0]) rfl ⟨by simp,zbp HB5.out HB5.out.size p2 (by omega)⟩
 ·go_wp2_with fail
  obtain ⟨n1,n2⟩:=set1 G1.out 2 (.int .i64 (b1 - b2 + 1))
  obtain ⟨p1,p2⟩:=(G2.out.other n2 (by omega)).put ⟨a1 - a2,s1 - s2,b1 - b2 + 1,nb,r1⟩
  have q1:(w5.setCell ⟨w.heap.size + 3,2,none⟩ (.int .i64 (b1 - b2 + 1))).heap.size=w5.heap.size:=by simp
  exact bodyPost_ret (v:=.agg #[.int .i64 (a1 - a2),.int .i64 (s1 - s2),.int .i64 (b1 - b2 + 1),.bool nb,.bool r1]) (by simp [results,Tryz.results134,go_sem,d0]) rfl ⟨by simp,zbp (zbp HB5.out HB5.out.size n2 (by omega)) (by rw [q1];exact HB5.out.size) p2 (by omega)⟩
open Go.RowKit
structure Gr (enc:Int) (g:List Int):Prop where
 ne:g≠[]
 fit:∀ a ∈ g,Cx.fits enc a=true
 dec:Cx.dec enc (Cx.encB enc g)=g
def ln (enc:Int) (g:List Int):Nat:=(Cx.encB enc g).length
theorem ln_nil (enc:Int):ln enc []=0:=rfl
theorem ln_app (enc:Int) (a b:List Int):ln enc (a ++ b)=ln enc a + ln enc b:=by unfold ln;rw [Cx.encB_app,List.length_append]
theorem ln_one (enc a:Int):ln enc [a]=(Cx.put enc a).length:=by simp [ln,Cx.encB]
theorem ln_cons (enc a:Int) (l:List Int):ln enc (a :: l)=(Cx.put enc a).length + ln enc l:=by unfold ln;rw [Cx.encB_cons,List.length_append]
theorem ln_ge (enc:Int) (g:List Int):g.length≤ln enc g:=by
 induction g with
 | nil=>exact Nat.le_refl _
 | cons a g ih=>rw [ln_cons,List.length_cons];have:=(Cx.put_len enc a).1;omega
theorem ln_le (enc:Int) (g:List Int):ln enc g≤4 * g.length:=by
 induction g with
 | nil=>exact Nat.le_refl _
 | cons a g ih=>rw [ln_cons,List.length_cons];have:=(Cx.put_len enc a).2;omega
theorem encB_byt (enc:Int) (g:List Int) (h:∀ a ∈ g,Cx.fits enc a=true):Byt (Cx.encB enc g):=by
 induction g with
 | nil=>intro z hz;cases hz
 | cons a g ih =>
   rw [Cx.encB_cons]
   intro z hz
   rcases List.mem_append.1 hz with h1 | h1
   ·exact Cx.put_byt enc a (h a List.mem_cons_self) z h1
   ·exact ih (fun b hb=>h b (List.mem_cons_of_mem _ hb)) z h1
theorem size_fit (enc a:Int) (h:Cx.fits enc a=true):Cx.size enc a=(Cx.put enc a).length:=by unfold Cx.size;rw [if_pos h]
theorem Gr.one {enc a:Int} (he:Cx.En enc) (h:Cx.fits enc a=true):Gr enc [a]:=⟨by simp,by simpa using h,by rw [show Cx.encB enc [a]=Cx.put enc a by simp [Cx.encB]];exact Cx.dec_put enc a he h⟩
theorem Gr.snoc {enc a:Int} {g:List Int} (he:Cx.En enc) (hg:Gr enc g) (h:Cx.fits enc a=true) (hl:(Cx.lst enc (Cx.encB enc (g ++ [a]))).1=a):Gr enc (g ++ [a]):=by
 refine ⟨by simp,fun b hb=>(List.mem_append.1 hb).elim (hg.fit b) (fun e=>by rw [List.mem_singleton] at e;subst e;exact h),?_⟩
 have e:Cx.encB enc (g ++ [a])=Cx.encB enc g ++ Cx.put enc a:=by rw [Cx.encB_app];simp [Cx.encB]
 rw [e] at hl ⊢
 rw [Cx.dec_snoc enc he _ a (encB_byt enc g hg.fit) (Cx.put_byt enc a h) (Cx.put_ne enc a) hl,hg.dec]
theorem Gr.pos {enc:Int} {g:List Int} (h:Gr enc g):0 < g.length:=List.length_pos_iff.2 h.ne
theorem Gr.lpos {enc:Int} {g:List Int} (h:Gr enc g):0 < ln enc g:=Nat.lt_of_lt_of_le h.pos (ln_ge enc g)
theorem Gr.byt {enc:Int} {g:List Int} (h:Gr enc g):Byt (Cx.encB enc g):=encB_byt enc g h.fit
theorem spn_a (enc:Int) (g:List Int) (h:∀ a ∈ g,Cx.fits enc a=true):(spn enc g).a=g.length∧(spn enc g).s=ln enc g:=spn_as enc g h
theorem off_gr {enc:Int} {g:List Int} (h:Gr enc g) (j:Nat):off enc (Cx.encB enc g) j=ln enc (g.take j):=by unfold off;rw [h.dec];rfl
theorem Gr.cut {enc:Int} {g:List Int} (he:Cx.En enc) (h:Gr enc g) (n:Nat) (h0:0 < n) (hn:n < g.length):Gr enc (g.take n)∧Gr enc (g.drop n):=by
 obtain ⟨k1,k2,k3⟩:=Cx.dec_cut enc he n (Cx.encB enc g) h.byt (by rw [h.dec];omega)
 rw [h.dec] at k1 k2 k3
 have e:Cx.encB enc g=Cx.encB enc (g.take n) ++ Cx.encB enc (g.drop n):=by rw [← Cx.encB_app,List.take_append_drop]
 refine ⟨⟨fun e=>?_,fun a ha=>h.fit a (List.mem_of_mem_take ha),?_⟩,⟨fun e=>?_,fun a ha=>h.fit a (List.mem_of_mem_drop ha),?_⟩⟩
 ·have:=congrArg List.length e;rw [List.length_take,List.length_nil] at this;omega
 ·rw [e,List.take_left' rfl] at k3;exact k3
 ·have:=congrArg List.length e;rw [List.length_drop,List.length_nil] at this;omega
 ·rw [e,List.drop_left' rfl] at k2;exact k2
theorem Gr.load {enc:Int} (he:Cx.En enc) {L:List Int} (hL:Byt L) {g:List Int} {i:Nat} (hg:((Cx.dec enc L).drop i).take g.length=g) (hi:i + g.length≤(Cx.dec enc L).length) (hn:g≠[]) :
  Gr enc g∧(L.drop (off enc L i)).take (ln enc g)=Cx.encB enc g∧off enc L i + ln enc g=off enc L (i + g.length)∧off enc L i + ln enc g≤L.length:=by
 obtain ⟨b1,b2⟩:=Cx.back_all enc he _ L (Nat.le_refl _) hL
 obtain ⟨k1,k2,k3⟩:=Cx.dec_cut enc he i L hL (by omega)
 have e0:(Cx.encB enc ((Cx.dec enc L).take i)).length=off enc L i:=rfl
 rw [e0] at k1 k2 k3
 have hfit:∀ a ∈ g,Cx.fits enc a=true:=fun a ha=>by rw [← hg] at ha;exact b2 a (List.mem_of_mem_drop (List.mem_of_mem_take ha))
 obtain ⟨m1,m2,m3⟩:=Cx.dec_cut enc he g.length (L.drop (off enc L i)) (hL.drop _) (by rw [k2,List.length_drop];omega)
 rw [k2,hg] at m1 m2 m3
 have e1:(Cx.encB enc g).length=ln enc g:=rfl
 rw [e1] at m1 m2 m3
 have e2:(L.drop (off enc L i)).take (ln enc g)=Cx.encB enc g:=by
  have:=(Cx.back_all enc he _ ((L.drop (off enc L i)).take (ln enc g)) (Nat.le_refl _) ((hL.drop _).take _)).1
  rw [m3] at this
  exact this.symm
 rw [List.length_drop] at m1
 refine ⟨⟨hn,hfit,?_⟩,e2,?_,by omega⟩
 ·rw [← e2];exact m3
 ·unfold off
  rw [show (Cx.dec enc L).take (i + g.length)=(Cx.dec enc L).take i ++ g by rw [List.take_add,hg],Cx.encB_app,List.length_append]
  rfl
def mkx (enc:Int) (b o pl:Nat) (g:List Int):It:=⟨some ⟨b,o + pl,none⟩,ln enc g,ln enc g,(pl:Int),spn enc g,spn_ok enc g⟩
def mks (enc:Int) (b o:Nat):Nat→List (List Int)→List It
 | _,[]=>[]
 | pl,g :: gs=>mkx enc b o pl g :: mks enc b o (pl + ln enc g) gs
theorem mks_snoc (enc:Int) (b o:Nat) (g:List Int):∀ (gs:List (List Int)) (pl:Nat),mks enc b o pl (gs ++ [g])=mks enc b o pl gs ++ [mkx enc b o (pl + ln enc gs.flatten) g]:=by
 intro gs
 induction gs with
 | nil=>intro pl;rfl
 | cons h gs ih =>
   intro pl
   rw [List.cons_append,mks,ih,mks,List.cons_append,List.flatten_cons,ln_app,Nat.add_assoc]
theorem mks_len (enc:Int) (b o:Nat):∀ (gs:List (List Int)) (pl:Nat),(mks enc b o pl gs).length=gs.length:=by
 intro gs
 induction gs with
 | nil=>intro pl;rfl
 | cons h gs ih=>intro pl;rw [mks,List.length_cons,ih,List.length_cons]
def ctn (enc:Int):Int→List Int→List (Int × Int)
 | _,[]=>[]
 | pl,a :: g=>(a,pl) :: ctn enc (tg pl ((Cx.put enc a).length:Nat)) g
theorem tg_new (k:Int):tg (-1) k=-1:=rfl
theorem tg_tg (pl:Int) (h:-1≤pl) (j k:Int) (hj:0≤j):tg (tg pl j) k=tg pl (j + k):=by
 unfold tg
 by_cases e:pl=-1
 ·rw [if_pos e,if_pos rfl,if_pos e]
 ·rw [if_neg e,if_neg (by omega),if_neg e];omega
theorem tg_zero (pl:Int):tg pl 0=pl:=by unfold tg;split <;> omega
theorem tg_ge (pl:Int) (h:-1≤pl) (j:Int) (hj:0≤j):-1≤tg pl j:=by unfold tg;split <;> omega
theorem ctn_app (enc:Int) (b:List Int):∀ (a:List Int) (pl:Int),-1≤pl→ctn enc pl (a ++ b)=ctn enc pl a ++ ctn enc (tg pl (ln enc a:Nat)) b:=by
 intro a
 induction a with
 | nil=>intro pl _;rw [ln_nil];show _=ctn enc (tg pl 0) b;rw [tg_zero];rfl
 | cons x a ih =>
   intro pl h
   rw [List.cons_append,ctn,ih _ (tg_ge pl h _ (by omega)),tg_tg pl h _ _ (by omega),ctn,List.cons_append,ln_cons]
   congr 4
theorem ctn_len (enc:Int):∀ (g:List Int) (pl:Int),(ctn enc pl g).length=g.length:=by
 intro g
 induction g with
 | nil=>intro pl;rfl
 | cons a g ih=>intro pl;rw [ctn,List.length_cons,ih,List.length_cons]
theorem ctn_fst (enc:Int):∀ (g:List Int) (pl:Int),(ctn enc pl g).map Prod.fst=g:=by
 intro g
 induction g with
 | nil=>intro pl;rfl
 | cons a g ih=>intro pl;rw [ctn,List.map_cons,ih]
theorem ctn_take (enc:Int) (g:List Int) (pl:Int) (h:-1≤pl) (n:Nat):(ctn enc pl g).take n=ctn enc pl (g.take n)∧(ctn enc pl g).drop n=ctn enc (tg pl (ln enc (g.take n):Nat)) (g.drop n):=by
 have e:=ctn_app enc (g.drop n) (g.take n) pl h
 rw [List.take_append_drop] at e
 by_cases hn:n≤g.length
 ·have hl:(ctn enc pl (g.take n)).length=n:=by rw [ctn_len,List.length_take];omega
  rw [e]
  exact ⟨List.take_left' hl,List.drop_left' hl⟩
 ·rw [List.take_of_length_le (by rw [ctn_len];omega),List.drop_eq_nil_of_le (by rw [ctn_len];omega),List.take_of_length_le (by omega),List.drop_eq_nil_of_le (by omega)]
  exact ⟨rfl,rfl⟩
theorem ctn_new (enc:Int) (g:List Int):ctn enc (-1) g=g.map fun a=>(a,-1):=by
 induction g with
 | nil=>rfl
 | cons a g ih=>rw [ctn,tg_new,ih,List.map_cons]
end Go.Proofs.YtdhciadajendnaaGreat.P
