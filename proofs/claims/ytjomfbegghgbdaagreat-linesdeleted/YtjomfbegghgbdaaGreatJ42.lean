import Derived.Test.YtjomfbegghgbdaaGreatJ00
import Derived.Test.YtjomfbegghgbdaaGreatJ39
import Derived.Test.YtjomfbegghgbdaaGreatJ37
import Derived.Test.YtjomfbegghgbdaaGreatJ41
namespace Go.Proofs.YtjomfbegghgbdaaGreat.P
open Go.RowKit
def flC (L:List (List Int)):List Int:=L.flatMap fun c=>(-9999) :: c
theorem flC_snoc (L:List (List Int)) (c:List Int):flC (L ++ [c])=flC L ++ (-9999) :: c:=by unfold flC;rw [List.flatMap_append];simp
theorem lnsC_take {enc:Int} {A:List Int} {i:Nat} (h:(i:Int) < cnt enc A):(lnsC enc A).take (i + 1)=(lnsC enc A).take i ++ [lnC enc A i]:=by
 rw [List.take_add_one,lnsC_at h];rfl
theorem ctF_all (enc:Int) (A:List Int):∀ i:Nat,(i:Int)≤cnt enc A→ctF enc A (-1) (-1) i=flC (((lnsC enc A).take i).map Prod.fst):=by
 intro i
 induction i with
 | zero=>intro _;rfl
 | succ i ih =>
   intro h
   rw [ctF_succ,ih (by omega),lnsC_take (by omega),List.map_append,if_neg (by omega)]
   exact (flC_snoc _ _).symm
theorem ctF_but (enc:Int) (A:List Int) (f l:Nat) (hfl:f≤l):∀ i:Nat,(i:Int)≤cnt enc A→ctF enc A (f:Nat) (l:Nat) i=flC ((((lnsC enc A).take i).take f ++ ((lnsC enc A).take i).drop (l + 1)).map Prod.fst):=by
 intro i
 induction i with
 | zero=>intro _;simp [ctF,flC]
 | succ i ih =>
   intro h
   have hx:((lnsC enc A).take i).length=i:=by rw [List.length_take,lnsC_len];omega
   rw [ctF_succ,ih (by omega),lnsC_take (by omega)]
   generalize (lnsC enc A).take i=X at *
   generalize lnC enc A i=c at *
   have hx2:(X ++ [c]).length=i + 1:=by rw [List.length_append,hx];rfl
   by_cases h1:i < f
   ·have e1:X.take f=X:=List.take_of_length_le (by omega)
    have e2:(X ++ [c]).take f=X ++ [c]:=List.take_of_length_le (by omega)
    have e3:X.drop (l + 1)=[]:=List.drop_of_length_le (by omega)
    have e4:(X ++ [c]).drop (l + 1)=[]:=List.drop_of_length_le (by omega)
    rw [if_neg (by omega),e1,e2,e3,e4,List.append_nil,List.append_nil,List.map_append]
    exact (flC_snoc _ _).symm
   ·have e2:(X ++ [c]).take f=X.take f:=List.take_append_of_le_length (by omega)
    rw [e2]
    by_cases h2:i≤l
    ·have e3:X.drop (l + 1)=[]:=List.drop_of_length_le (by omega)
     have e4:(X ++ [c]).drop (l + 1)=[]:=List.drop_of_length_le (by omega)
     rw [if_pos (by omega),e3,e4,List.append_nil]
    ·have e4:(X ++ [c]).drop (l + 1)=X.drop (l + 1) ++ [c]:=List.drop_append_of_le_length (by omega)
     rw [if_neg (by omega),e4,← List.append_assoc,List.map_append (l₂:=[c])]
     exact (flC_snoc _ _).symm
theorem ctF_del {enc:Int} {A B:List Int} {f l:Nat} (h:Del enc A B f l) (hfl:f≤l) (m k:Nat) (hm:cnt enc A=m) (hk:cnt enc B=k):ctF enc B (-1) (-1) k=ctF enc A (f:Nat) (l:Nat) m:=by
 rw [ctF_all enc B k (by omega),ctF_but enc A f l hfl m (by omega),List.take_of_length_le (by rw [lnsC_len];omega),List.take_of_length_le (l:=lnsC enc A) (by rw [lnsC_len];omega),h.ct]
theorem sub_more (A:List Int):sub A 0 ((A.length:Nat) + 1)=A:=by
 unfold sub clp
 by_cases h0:A.length=0
 ·obtain rfl:=List.length_eq_zero_iff.1 h0
  simp
 ·rw [if_neg (by omega)]
  simp only
  rw [show (max (0:Int) 0).toNat=0 by omega,show (min (((A.length:Nat):Int) + 1) (A.length:Int)).toNat - 0=A.length by omega,List.drop_zero,List.take_length]
theorem del_o0 {enc:Int} {A:List Int} {f l m:Nat} (hm:cnt enc A=m) (hl:l < m) (hfl:f≤l) {k le af tf an ab:Int} (hk:k=(f:Int) - 1) (hla:(⟨af,tf,an,ab⟩:Ln)=lnA enc A k) (hle:le=lnE enc A k) :
  (le=0∧af=tf∧(l:Int)=((m - 1:Nat):Int)) ↔ (0 < f∧(lnK enc A ((f:Int) - 1)).f=(lnK enc A ((f:Int) - 1)).t∧(l:Int)=cnt enc A - 1):=by
 rcases Nat.eq_zero_or_pos f with h0 | h0
 ·subst h0
  have h2:le=2:=by rw [hle,hk];unfold lnE;rw [if_pos (.inl (by omega))]
  exact ⟨fun h=>by omega,fun h=>by omega⟩
 ·have hct:=cnt_tail enc A
  have hb:((f - 1:Nat):Int)≤(spn enc A).b:=by rw [hm] at hct;split at hct <;> omega
  obtain ⟨g1,g2⟩:=lnA_inT (enc:=enc) (A:=A) hb
  rw [show ((f - 1:Nat):Int)=(f:Int) - 1 by omega] at g1 g2
  rw [hk] at hla hle
  rw [g1] at hla
  rw [← hla,hm,hle,g2]
  exact ⟨fun ⟨_,h2,h3⟩=>⟨h0,h2,by omega⟩,fun ⟨_,h2,h3⟩=>⟨rfl,h2,by omega⟩⟩
theorem OwnI.kpT {T:TypeId} {w w':World} {base g:Nat} {v:Value} {zs:List Int} (h:OwnI w base v zs) (hk:Kps (fun k=>k=g) w w') (hg:Typ T w g) (hT:T≠3):OwnI w' base v zs:=by
 obtain ⟨h1,h2⟩:=id h
 refine ⟨h1,?_⟩
 rcases h2 with h2 | ⟨k,cap,cur,hv,hb,hgg,r⟩
 ·exact .inl h2
 ·refine .inr ⟨k,cap,cur,hv,hb,(hk.same k (Array.getElem?_eq_some_iff.1 hgg).1 (fun e=>?_)).trans hgg,r⟩
  subst e
  exact hT (Typ.uniq hg ⟨_,hgg⟩)
theorem Sm.oth4 {enc:Int} {W w w':World} {bo t g:Nat} {v:Value} {A:List Int} (h:Sm enc W bo t v w A) (hk:w.grownBy w' (some g)) (hg:Typ 53 w g) (hge:W.heap.size≤g):Sm enc W bo t v w' A:=by
 have hkk:Kps (fun k=>k=g) w w':=Kps.grown hk (fun j e _=>(Option.some.inj e).symm)
 have h1:bo≠g:=fun e=>by
  have h1:Typ 29 w bo:=⟨_,h.bx⟩
  rw [e] at h1
  exact absurd (Typ.uniq h1 hg) (by decide)
 have h2:g≠t:=fun e=>by
  rw [e] at hg
  exact absurd (Typ.uniq hg h.tz.typ) (by decide)
 exact ⟨(hkk.same bo (Array.getElem?_eq_some_iff.1 h.bx).1 h1).trans h.bx,h.tz.other hkk hg (by decide) (by decide) h2,h.bl.trans (hkk.below h.bl.size (fun k e=>by rw [e];exact hge)),h.b1,h.b2⟩
theorem bx_ext {w w':World} {b:Nat} {o:Obj} (h:w.heap[b]?=some o) (hb:Below w.heap.size w w'):w'.heap[b]?=some o:=(hb.block b (Array.getElem?_eq_some_iff.1 h).1).trans h
theorem bx_kps {w w':World} {b g:Nat} {cs:Array Value} {T U:TypeId} (h:w.heap[b]?=some (.cells cs T (0,0))) (hk:Kps (fun k=>k=g) w w') (hg:Typ U w g) (hT:T≠U):w'.heap[b]?=some (.cells cs T (0,0)) :=
 (hk.same b (Array.getElem?_eq_some_iff.1 h).1 (fun e=>hT (Typ.uniq ⟨_,by rw [← e];exact h⟩ hg))).trans h
set_option maxRecDepth 100000 in
set_option maxHeartbeats 16000000 in
theorem ldel_any (x0:Int) (ad:Option Addr) (nd cd:Nat) (D:List Int) (z1 z2:Int) (W:World) (hD:Rd .u8 W (.slice ad nd cd) D) (hB:Byt D) (hz1:-9223372036854775808≤z1∧z1≤9223372036854775807) (hz2:-9223372036854775808≤z2∧z2≤9223372036854775807) :
  Calls Tryz.prog 6 #[.agg #[.int .i64 x0,.slice ad nd cd],.int .i64 z1,.int .i64 z2] W fun e W'=>e=.returned (.bool true)∧Below W.heap.size W W':=by
 obtain ⟨w0,hw0,hb0⟩:∃ w0,w0=W.alloc (.cells #[.int .i64 x0,.slice ad nd cd] 24)∧Below W.heap.size W w0:=⟨_,rfl,ext_alloc (Below.refl _ _) _⟩
 have OP:=hidIt (opened_any x0 (.slice ad nd cd) D w0 (hD.ext hb0) hB)
 rw [hw0] at OP
 have HB0:=hidIt hb0
 have HW0:=hidIt hw0
 clear hw0 hb0 hD hB
 go_enter Tryz.func6,Tryz.ntmps6
 go_upto_region 2 with (go_at_call 18;refine OP.out.mono ?_;rintro e w1 ⟨t,v,rfl,ho,hb⟩;obtain ⟨enc,A,hen,hov,htz,hln,htw⟩:=ho.out;obtain ⟨av,cv,rfl⟩:=hov.form;have HTZ:=hidIt htz;have HEN:=hidIt hen;have HLN:=hidIt hln;have HTW:=hidIt htw;have HOV1:=hidIt hov;have HB1:=hidIt hb;have hlA:=htz.len;clear ho hb hen hov htz hln htw;(try dsimp only))
 rw [← HW0.out] at HTW HB1
 generalize hw2:World.alloc _ _=w2
 have HBx2:Hid (Below w1.heap.size w1 w2):=by unfold Hid;rw [← hw2];exact ext_alloc (Below.refl _ _) _
 have HS2:Hid (Sm enc W w1.heap.size t (.slice av A.length cv) w2 A):=by
  unfold Hid
  have hb:=HBx2.out
  have h1:Below W.heap.size W w1:=HB0.out.trans (HB1.out.mono HB0.out.size)
  exact ⟨by rw [← hw2];exact heap_alloc_new _ _,HTZ.out.ext hb,h1.trans (hb.mono h1.size),h1.size,Nat.le_trans HB0.out.size HTW.out⟩
 have HOV2:=hidIt (HOV1.out.ext HBx2.out)
 have HLV:Hid (w2.cell? ⟨w1.heap.size,1,none⟩=some (.slice av A.length cv)):=(cells2 HS2.out.bx).2.2.1
 clear hw2 OP HTZ HTW HB1 HW0 HB0 HOV1 HBx2 w0
 generalize w1.heap.size=bo at *
 have s0:=HS2.out.cell
 have s1:=HLV.out
 have CN:=hidIt (Count_z enc w2 t A HS2.out.tz)
 obtain ⟨hc1,hc2⟩:=cnt_rng enc A
 obtain ⟨m,hm⟩:∃ m:Nat,cnt enc A=m:=⟨(cnt enc A).toNat,by omega⟩
 have HCM:=hidIt hm
 rw [hm] at CN hc1 hc2
 have h1:¬ (m:Int) < 1:=by omega
 have h2:¬ ((A.length:Int) + 1 < (m:Int)):=by omega
 have hwl:IntKind.i64.wrap ((A.length:Int) + 1)=(A.length:Int) + 1:=by rw [IntKind.wrap_i64];omega
 clear hm
 go_upto_region 5 with (go_at_call 19;refine CN.out.mono ?_;rintro e w3 ⟨rfl,hb⟩;have HB3:=hidIt hb;clear hb;(try dsimp only))
 have HS3:=hidIt (HS2.out.ext HB3.out)
 have HOV:=hidIt (HOV2.out.ext HB3.out)
 clear s0 s1
 have s0:=HS3.out.cell
 have s1:=(cells2 HS3.out.bx).2.2.1
 clear CN HB3 HS2 HLV HOV2
 go_upto_region 7 with fail
 clear h1 h2
 have hw1:IntKind.i64.wrap ((m:Int) - 1)=((m - 1:Nat):Int):=by rw [IntKind.wrap_i64];omega
 have WI:=hidIt (within_any z1 (m - 1) w3 hz1 (by omega))
 go_upto_region 8 with (go_at_call 22;refine WI.out.mono ?_;rintro e w4 ⟨f,rfl,hf,hw⟩;rw [hw];clear hw;(try dsimp only))
 clear WI
 have hw2:IntKind.i64.wrap (((m - 1:Nat):Int) - (f:Int))=((m - 1 - f:Nat):Int):=by rw [IntKind.wrap_i64];omega
 have WI:=hidIt (within_any z2 (m - 1 - f) w3 hz2 (by omega))
 have hw3:Hid (∀ d:Nat,d≤m - 1 - f→∃ l:Nat,l=f + d∧IntKind.i64.wrap ((f:Int) + (d:Int))=(l:Int)):=fun d hd=>⟨f + d,rfl,by rw [IntKind.wrap_i64];omega⟩
 go_upto_region 9 with (go_at_call 22;refine WI.out.mono ?_;rintro e w5 ⟨d,rfl,hd,hw⟩;obtain ⟨l,hl,hw4⟩:=hw3.out d hd;have HDL:=hidIt hl;clear hl;rw [hw];clear hw;(try dsimp only))
 clear WI hw3
 have HLF:Hid (f≤l∧l < m∧(l:Int) < cnt enc A):=by
  have:=HDL.out
  exact ⟨by omega,by omega,by rw [HCM.out];omega⟩
 clear hw1 hw2
 obtain ⟨F,T,hwh,hFT,hTA,hall,hcs⟩:=wh_in (enc:=enc) (A:=A) HLF.out.1 HLF.out.2.2
 have HWH:=hidIt hwh
 have HALL:=hidIt hall
 clear hall hcs
 have WZ:=hidIt (Whole_z enc w3 t A f l HS3.out.tz)
 rw [hwh] at WZ
 dsimp only at WZ
 clear hwh
 go_upto_region 10 with (go_at_call 29;refine WZ.out.mono ?_;rintro e y ⟨rfl,hb⟩;have HB3:=hidIt hb;clear hb;(try dsimp only))
 clear WZ
 generalize hy2:World.alloc _ _=y2
 have HY2:Hid (Below w3.heap.size w3 y2∧y2.heap[y.heap.size]?=some (.cells #[.int .i64 (F:Nat),.int .i64 (T:Nat),.int .i64 1] 56 (0,0))):=by unfold Hid;rw [← hy2];exact ⟨ext_alloc HB3.out _,heap_alloc_new _ _⟩
 clear hy2 HB3
 generalize y.heap.size=sb at *
 have HS4:=hidIt (HS3.out.ext HY2.out.1)
 have HOV4:=hidIt (HOV.out.ext HY2.out.1)
 have HSB:=hidIt HY2.out.2
 clear s0 s1 HY2 HS3 HOV
 obtain ⟨_,s0,s1,_⟩:=cells2 HS4.out.bx
 obtain ⟨_,p0,p1,p2,_⟩:=cells3 HSB.out
 have q1:¬ ((F:Nat):Int) < 0:=by omega
 have q2:¬ ((T:Nat):Int) < ((F:Nat):Int):=by omega
 have q3:¬ (A.length:Int) < ((T:Nat):Int):=by omega
 go_upto_region 12 with fail
 clear q1 q2 q3
 obtain ⟨cc,hcc⟩:∃ cc,cc=decide (0 < F∧T < A.length∧A[F - 1]?=some 13∧A[T]?=some 10):=⟨_,rfl⟩
 go_cut [115] from 86 to 115 (fun v wF=>v=.bool cc∧wF=y2)
 case first =>
  by_cases h0:0 < F
  ·have h0I:(0:Int) < (F:Int):=by omega
   by_cases h1:T < A.length
   ·have h1I:(T:Int) < (A.length:Int):=by omega
    have hw1:IntKind.i64.wrap ((F:Int) - 1)=((F - 1:Nat):Int):=by rw [IntKind.wrap_i64];omega
    obtain ⟨b,o,hab,hbl,ca,_⟩:=rd_at HOV4.out.rdi (F - 1) (by omega)
    obtain ⟨b',o',hab',hbl',cb,_⟩:=rd_at HOV4.out.rdi T h1
    rw [hab] at hab'
    cases hab'
    subst hab
    obtain ⟨x,hx⟩:∃ x,A[F - 1]?=some x:=⟨_,List.getElem?_eq_getElem (by omega)⟩
    obtain ⟨y,hy⟩:∃ y,A[T]?=some y:=⟨_,List.getElem?_eq_getElem h1⟩
    rw [hx,Option.getD_some] at ca
    rw [hy,Option.getD_some] at cb
    have h1p:((F - 1:Nat):Int) < (A.length:Int):=by omega
    rw [hx,hy] at hcc
    by_cases h13:x=13
    ·have hx13:(x == 13)=true:=by simpa using h13
     by_cases h10:y=10
     ·have hy10:(y == 10)=true:=by simpa using h10
      have hct:cc=true:=by rw [hcc];simp [h0,h1,h13,h10]
      have HCT:=hidIt hct
      clear hcc hct h13 h10 hx hy
      go_wp2_with fail
      go_meet
      case rel=>exact ⟨by rw [HCT.out],rfl⟩
     ·have hy10:(y == 10)=false:=by simpa using h10
      have hct:cc=false:=by rw [hcc];simp [h10]
      have HCT:=hidIt hct
      clear hcc hct h13 h10 hx hy
      go_wp2_with fail
      go_meet
      case rel=>exact ⟨by rw [HCT.out],rfl⟩
    ·have hx13:(x == 13)=false:=by simpa using h13
     have hct:cc=false:=by rw [hcc];simp [h13]
     have HCT:=hidIt hct
     clear hcc hct h13 hx hy
     go_wp2_with fail
     go_meet
     case rel=>exact ⟨by rw [HCT.out],rfl⟩
   ·have h1I:¬ (T:Int) < (A.length:Int):=by omega
    have hct:cc=false:=by rw [hcc];simp [h1]
    have HCT:=hidIt hct
    clear hcc hct
    go_wp2_with fail
    go_meet
    case rel=>exact ⟨by rw [HCT.out],rfl⟩
  ·have h0I:¬ (0:Int) < (F:Int):=by omega
   have hct:cc=false:=by rw [hcc];simp [h0]
   have HCT:=hidIt hct
   clear hcc hct
   go_wp2_with fail
   go_meet
   case rel=>exact ⟨by rw [HCT.out],rfl⟩
 obtain ⟨rfl,hwc⟩:=hcut
 rw [hwc]
 clear hwc
 cases cc with
 | true =>
   go_wp2_with fail
   go_ret
   exact ⟨rfl,HS4.out.bl⟩
 | false =>
   have HNE:Hid (¬ (0 < F∧T < A.length∧A[F - 1]?=some 13∧A[T]?=some 10)):=of_decide_eq_false hcc.symm
   clear hcc
   have KZ:=hidIt (Kinds_z enc y2 t A HS4.out.tz)
   obtain ⟨k0,hk0⟩:∃ k0,k0=kC (al enc A) 0:=⟨_,rfl⟩
   rw [← hk0] at KZ
   have HK0:=hidIt hk0
   generalize kC (al enc A) 1=k1 at KZ
   generalize kC (al enc A) 2=k2 at KZ
   generalize kC (al enc A) 3=k3 at KZ
   clear hk0
   go_upto_region 15 with (go_at_call 28;refine KZ.out.mono ?_;rintro e y ⟨rfl,hb⟩;have HB5:=hidIt hb;clear hb;(try dsimp only))
   clear KZ
   generalize hy5:World.alloc _ _=y5
   have HY5:Hid (Below y2.heap.size y2 y5∧y5.heap[y.heap.size]?=some (.cells #[.int .i64 (k0:Nat),.int .i64 (k1:Nat),.int .i64 (k2:Nat),.int .i64 (k3:Nat)] 53 (0,0))∧W.heap.size≤y.heap.size):=by unfold Hid;rw [← hy5];exact ⟨ext_alloc HB5.out _,heap_alloc_new _ _,Nat.le_trans HS4.out.bl.size HB5.out.size⟩
   clear hy5 HB5
   generalize y.heap.size=kb at *
   have HS5:=hidIt (HS4.out.ext HY5.out.1)
   have HOV5:=hidIt (HOV4.out.ext HY5.out.1)
   have HSB5:=hidIt (bx_ext HSB.out HY5.out.1)
   have HKB:=hidIt HY5.out.2.1
   have HKW:=hidIt HY5.out.2.2
   clear s0 s1 p0 p1 p2 HY5 HS4 HOV4 HSB
   obtain ⟨_,s0,s1,_⟩:=cells2 HS5.out.bx
   obtain ⟨k,hk⟩:∃ k:Int,k=(f:Int) - 1:=⟨_,rfl⟩
   have hw5:IntKind.i64.wrap ((f:Int) - 1)=k:=by rw [IntKind.wrap_i64,hk];omega
   have HKK:=hidIt hk
   clear hk
   have AZ:=hidIt (At_z enc y5 t A k HS5.out.tz)
   obtain ⟨la,hla⟩:∃ la,la=lnA enc A k:=⟨_,rfl⟩
   obtain ⟨le,hle⟩:∃ le,le=lnE enc A k:=⟨_,rfl⟩
   rw [← hla,← hle] at AZ
   have HLA:=hidIt hla
   have HLE:=hidIt hle
   clear hla hle
   obtain ⟨af,tf,an,ab⟩:=la
   dsimp only at AZ
   go_upto_region 16 with (go_at_call 27;refine AZ.out.mono ?_;rintro e y ⟨rfl,hb⟩;have HB5:=hidIt hb;clear hb;(try dsimp only))
   clear AZ hw5
   generalize hy6:World.alloc _ _=y6
   have HY6:Hid (Below y5.heap.size y5 y6∧y6.heap[y.heap.size]?=some (.cells #[.int .i64 af,.int .i64 tf,.int .i64 an,.int .i64 ab] 50 (0,0))):=by unfold Hid;rw [← hy6];exact ⟨ext_alloc HB5.out _,heap_alloc_new _ _⟩
   clear hy6 HB5
   generalize y.heap.size=gl at *
   have HS6:=hidIt (HS5.out.ext HY6.out.1)
   have HOV6:=hidIt (HOV5.out.ext HY6.out.1)
   have HSB6:=hidIt (bx_ext HSB5.out HY6.out.1)
   have HKB6:=hidIt (bx_ext HKB.out HY6.out.1)
   have HLB:=hidIt HY6.out.2
   clear s0 s1 HY6 HS5 HOV5 HSB5 HKB
   obtain ⟨_,l0,l1,_,_,_⟩:=cells4 HLB.out
   obtain ⟨_,e0,_,_,_,ef⟩:=cells4 HKB6.out
   obtain ⟨o0,ho0⟩:∃ o0:Nat,o0=if le=0∧af=tf∧(l:Int)=((m - 1:Nat):Int) then 0 else k0:=⟨_,rfl⟩
   have HO0:=hidIt ho0
   have hw1:IntKind.i64.wrap ((m:Int) - 1)=((m - 1:Nat):Int):=by rw [IntKind.wrap_i64];omega
   obtain ⟨q,hq⟩:∃ q:Bool,q=decide (le=0∧af=tf∧(l:Int)=((m - 1:Nat):Int)):=⟨_,rfl⟩
   clear ho0
   go_cut [141] from 127 to 141 (fun v wF=>v=.bool q∧wF=y6)
   case first =>
    by_cases h1:le=0
    ·have e1:(le == 0)=true:=by simpa using h1
     by_cases h2:af=tf
     ·have e2:(af == tf)=true:=by simpa using h2
      by_cases h3:(l:Int)=((m - 1:Nat):Int)
      ·have e3:((l:Int) == ((m - 1:Nat):Int))=true:=by simpa using h3
       have HZ:Hid (q=true):=by unfold Hid;rw [hq,decide_eq_true_iff];exact ⟨h1,h2,h3⟩
       clear hq h1 h2 h3
       go_wp2_with fail
       go_meet
       case rel=>exact ⟨by rw [HZ.out],rfl⟩
      ·have e3:((l:Int) == ((m - 1:Nat):Int))=false:=by simpa using h3
       have HZ:Hid (q=false):=by unfold Hid;rw [hq,decide_eq_false_iff_not];exact fun h=>h3 h.2.2
       clear hq h1 h2 h3
       go_wp2_with fail
       go_meet
       case rel=>exact ⟨by rw [HZ.out],rfl⟩
     ·have e2:(af == tf)=false:=by simpa using h2
      have HZ:Hid (q=false):=by unfold Hid;rw [hq,decide_eq_false_iff_not];exact fun h=>h2 h.2.1
      clear hq h1 h2
      go_wp2_with fail
      go_meet
      case rel=>exact ⟨by rw [HZ.out],rfl⟩
    ·have e1:(le == 0)=false:=by simpa using h1
     have HZ:Hid (q=false):=by unfold Hid;rw [hq,decide_eq_false_iff_not];exact fun h=>h1 h.1
     clear hq h1
     go_wp2_with fail
     go_meet
     case rel=>exact ⟨by rw [HZ.out],rfl⟩
   obtain ⟨rfl,hwc⟩:=hcut
   rw [hwc]
   clear hwc
   have HO1:Hid (o0=if q=true then 0 else k0):=by
    have h:=HO0.out
    unfold Hid
    rw [h,hq]
    by_cases h9:le=0∧af=tf∧(l:Int)=((m - 1:Nat):Int)
    ·rw [if_pos h9,if_pos (by simpa using h9)]
    ·rw [if_neg h9,if_neg (by simpa using h9)]
   clear hq
   have HC:Hid (∃ wc,(if q=true then y6.setCell ⟨kb,0,none⟩ (.int .i64 0) else y6)=wc∧wc.heap[kb]?=some (.cells #[.int .i64 (o0:Nat),.int .i64 (k1:Nat),.int .i64 (k2:Nat),.int .i64 (k3:Nat)] 53 (0,0))∧y6.grownBy wc (some kb)):=by
    refine ⟨_,rfl,?_⟩
    rw [HO1.out]
    cases q with
    | true =>
      rw [if_pos rfl,if_pos rfl]
      obtain ⟨g1,g2⟩:=set1 HKB6.out 0 (.int .i64 0)
      exact ⟨by rw [g1];rfl,g2⟩
    | false=>exact ⟨HKB6.out,rfl,rfl,rfl,Nat.le_refl _,fun _ _ _=>rfl⟩
   obtain ⟨wc,hwc,hc1,hc2⟩:=HC.out
   have HC2:=hidIt (And.intro hc1 hc2)
   clear hc1 hc2 HO1 HC
   cases q
   case' true =>
    rw [if_pos rfl] at hwc
    go_upto_region 18 with fail
    try rw [hwc]
    clear hwc
   case' false =>
    rw [if_neg (by decide)] at hwc
    go_upto_region 18 with fail
    try rw [hwc]
    clear hwc
   all_goals
    clear l0 l1 e0 ef
    have HK7:Hid (Kps (fun j=>j=kb) y6 wc):=Kps.grown HC2.out.2 (fun j e _=>(Option.some.inj e).symm)
    have HTK:Hid (Typ 53 y6 kb):=⟨_,HKB6.out⟩
    have HS7:=hidIt (HS6.out.oth4 HC2.out.2 HTK.out HKW.out)
    have HOV7:=hidIt (HOV6.out.kpT HK7.out HTK.out (by decide))
    have HSB7:=hidIt (bx_kps HSB6.out HK7.out HTK.out (by decide))
    have HKB7:=hidIt HC2.out.1
    clear HC2 HK7 HTK HS6 HOV6 HSB6 HKB6 HLB
    obtain ⟨_,s0,s1,_⟩:=cells2 HS7.out.bx
    obtain ⟨C,hC⟩:∃ C,C=ctF enc A f l m:=⟨_,rfl⟩
    have CT:=hidIt (contents_any wc t A (.slice av A.length cv) f l m HS7.out.tz HOV7.out.rdi HCM.out)
    rw [← hC] at CT
    have HCC:=hidIt hC
    clear hC
    go_upto_region 19 with (go_at_call 36;refine CT.out.mono ?_;rintro e y8 ⟨v8,rfl,ho8,hb⟩;have HB8:=hidIt hb;obtain ⟨a8,c8,hv8⟩:=ho8.out.form;subst hv8;have HO8:=hidIt ho8.out;clear ho8 hb;(try dsimp only))
    clear CT s0 s1
    have HS8:=hidIt (HS7.out.ext HB8.out)
    have HOV8:=hidIt (HOV7.out.ext HB8.out)
    have HSB8:=hidIt (bx_ext HSB7.out HB8.out)
    have HKB8:=hidIt (bx_ext HKB7.out HB8.out)
    clear HS7 HOV7 HSB7 HKB7 HB8
    obtain ⟨_,s0,s1,_⟩:=cells2 HS8.out.bx
    obtain ⟨_,p0,p1,p2,_⟩:=cells3 HSB8.out
    have HF2:Hid (F≤T∧T≤A.length):=⟨hFT,hTA⟩
    have CH:=hidIt (cut_z HS8.out F T hFT hTA (by have:=HLN.out;omega))
    obtain ⟨B,hB⟩:∃ B,B=spl A F T []:=⟨_,rfl⟩
    rw [← hB] at CH
    have HBB:=hidIt hB
    clear hB
    go_upto_region 21 with (go_at_call 34;refine CH.out.mono ?_;rintro e y9 ⟨rfl,hs,hk⟩;have HS9:=hidIt hs;have HK9:=hidIt hk;clear hs hk;(try dsimp only))
    clear CH s0 s1 p0 p1 p2
    have HT9:=hidIt HS8.out.tz.typ
    have HOV9:=hidIt (HOV8.out.kpT HK9.out HT9.out (by decide))
    have HO9:=hidIt (HO8.out.kpT HK9.out HT9.out (by decide))
    have HSB9:=hidIt (bx_kps HSB8.out HK9.out HT9.out (by decide))
    have HKB9:=hidIt (bx_kps HKB8.out HK9.out HT9.out (by decide))
    clear HS8 HOV8 HO8 HSB8 HKB8 HK9 HT9
    obtain ⟨_,s0,s1,_⟩:=cells2 HS9.out.bx
    obtain ⟨_,p0,p1,p2,_⟩:=cells3 HSB9.out
    have SP:=hidIt (spliced_any (.slice av A.length cv) (.slice none 0 0) A [] F T y9 HOV9.out.rdi ⟨none,0,rfl,by simp,by decide,fun h=>absurd rfl h⟩ HF2.out.1 HF2.out.2 (by omega) (by simp))
    rw [← HBB.out] at SP
    go_upto_region 22 with (go_at_call 37;refine SP.out.mono ?_;rintro e y10 ⟨v10,rfl,ho10,hb⟩;have HB10:=hidIt hb;obtain ⟨a10,c10,hv10⟩:=ho10.out.form;subst hv10;have HL10:=hidIt ho10.out;clear ho10 hb;(try dsimp only))
    clear SP s0 s1 p0 p1 p2 HOV9 HSB9
    have HS10:=hidIt (HS9.out.ext HB10.out)
    have HO10:=hidIt (HO9.out.ext HB10.out)
    have HKB10:=hidIt (bx_ext HKB9.out HB10.out)
    clear HS9 HO9 HKB9 HB10
    have hBl:=HS10.out.tz.len
    have hwB:IntKind.i64.wrap ((B.length:Int) + 1)=(B.length:Int) + 1:=by rw [IntKind.wrap_i64];omega
    have s0:=HS10.out.cell
    have AT:Hid (Calls Tryz.prog 32 #[.pointer (some ⟨t,0,none⟩),.int .i64 0,.int .i64 ((B.length:Int) + 1)] y10 fun e w''=>∃ v,e=.returned v∧Hid (OwnI w'' y10.heap.size v B)∧Below y10.heap.size y10 w''):=by
     have h:=Atoms_z enc y10 t B 0 ((B.length:Nat) + 1) HS10.out.tz
     rw [sub_more] at h
     exact h
    have SA:Hid (∀ w' v',Below y10.heap.size y10 w'→Rd .i64 w' v' B→Calls Tryz.prog 24 #[v',.slice a10 B.length c10] w' fun e w''=>e=.returned (.bool true)∧Below w'.heap.size w' w''):=fun w' v' hb hv=>same_yes v' _ B w' hv (HL10.out.rdi.ext hb)
    go_upto_region 24 with (first | (go_at_call 32;refine AT.out.mono ?_;rintro e y11 ⟨v11,rfl,ho11,hb⟩;have HB11:=hidIt hb;obtain ⟨a11,c11,hv11⟩:=ho11.out.form;subst hv11;have HR11:=hidIt ho11.out.rdi;clear ho11 hb;(try dsimp only)) | (go_at_call 24;refine (SA.out _ _ HB11.out HR11.out).mono ?_;rintro e y12 ⟨rfl,hb⟩;have HB12:=hidIt (ext_trans HB11.out hb);clear hb;(try dsimp only)))
    clear AT SA s0 hwB HR11 HB11
    have HS12:=hidIt (HS10.out.ext HB12.out)
    have HO12:=hidIt (HO10.out.ext HB12.out)
    have HL12:=hidIt (HL10.out.ext HB12.out)
    have HKB12:=hidIt (bx_ext HKB10.out HB12.out)
    clear HS10 HO10 HL10 HKB10 HB12
    have s0:=HS12.out.cell
    have CN2:=hidIt (Count_z enc y12 t B HS12.out.tz)
    obtain ⟨mB,hmB⟩:∃ mB:Nat,cnt enc B=mB:=⟨(cnt enc B).toNat,by have:=cnt_nn enc B;omega⟩
    rw [hmB] at CN2
    have HMB:=hidIt hmB
    clear hmB
    go_upto_region 25 with (go_at_call 19;refine CN2.out.mono ?_;rintro e y13 ⟨rfl,hb⟩;have HB13:=hidIt hb;clear hb;(try dsimp only))
    have HS13:=hidIt (HS12.out.ext HB13.out)
    have HO13:=hidIt (HO12.out.ext HB13.out)
    have HL13:=hidIt (HL12.out.ext HB13.out)
    have HKB13:=hidIt (bx_ext HKB12.out HB13.out)
    clear HS12 HO12 HL12 HKB12 HB13 s0 CN2 hw4 hw1
    have s0:=HS13.out.cell
    obtain ⟨dd,hdd⟩:∃ dd:Nat,dd=l - f:=⟨_,rfl⟩
    obtain ⟨g1,hg1⟩:∃ g1:Nat,g1=dd + 1:=⟨_,rfl⟩
    have HLf:=HLF.out
    have hw6:IntKind.i64.wrap ((l:Int) - (f:Int))=(dd:Int):=by rw [IntKind.wrap_i64];omega
    have hw7:IntKind.i64.wrap ((dd:Int) + 1)=(g1:Int):=by rw [IntKind.wrap_i64];omega
    have HG1:Hid ((g1:Int)=(l:Int) - f + 1∧g1=l - f + 1):=by unfold Hid;omega
    clear hdd hg1 HLf
    by_cases hgm:g1=m
    ·have e7:((g1:Int) == (m:Int))=true:=by simp [hgm]
     have hBe:B=[]:=by
      obtain ⟨q1,q2⟩:=HALL.out (by rw [HCM.out,← HG1.out.1,hgm])
      rw [HBB.out,q1,q2,spl_nil,List.take_zero,List.drop_length]
      rfl
     have hm1:mB=1:=by
      have h1:=HMB.out
      rw [hBe] at h1
      have h2:=congrArg List.length (lnsC_nil (enc:=enc))
      rw [lnsC_len,h1] at h2
      simpa using h2
     clear hgm HG1
     subst hBe
     subst hm1
     go_wp2_with fail
     go_ret
     exact ⟨rfl,HS13.out.bl⟩
    ·have e7:((g1:Int) == (m:Int))=false:=by simp;omega
     have DEL:Hid (Del enc A B f l):=by
      have h:=del_any (enc:=enc) (A:=A) HLF.out.1 HLF.out.2.2 (by rw [HCM.out,← HG1.out.1];omega) F T HWH.out HNE.out
      rw [← HBB.out] at h
      exact h
     have hw8:IntKind.i64.wrap ((m:Int) - (g1:Int))=(mB:Int):=by
      have h1:=DEL.out.cnt HLF.out.1 HLF.out.2.2
      have h2:=HMB.out
      have h3:=HCM.out
      have h4:=HG1.out.1
      rw [IntKind.wrap_i64]
      omega
     have HEQ:Hid (kC (al enc B) 0=o0):=by
      unfold Hid
      have h:=del_o0 HCM.out HLF.out.2.1 HLF.out.1 HKK.out HLA.out HLE.out
      have h1:=HO0.out
      have h2:=DEL.out.fo
      rw [kC_fo,h2,h1]
      by_cases h9:le=0∧af=tf∧(l:Int)=((m - 1:Nat):Int)
      ·rw [if_pos h9,if_pos (h.1 h9)]
      ·rw [if_neg h9,if_neg (fun h8=>h9 (h.2 h8)),HK0.out,kC_fo]
     have KZ:=hidIt (Kinds_z enc y13 t B HS13.out.tz)
     rw [HEQ.out] at KZ
     generalize kC (al enc B) 1=j1 at KZ
     generalize kC (al enc B) 2=j2 at KZ
     generalize kC (al enc B) 3=j3 at KZ
     clear hgm
     go_upto_region 28 with (go_at_call 28;refine KZ.out.mono ?_;rintro e y ⟨rfl,hb⟩;have HB5:=hidIt hb;clear hb;(try dsimp only))
     clear KZ e7 s0
     generalize hy14:World.alloc _ _=y14
     have HY14:Hid (Below y13.heap.size y13 y14∧y14.heap[y.heap.size]?=some (.cells #[.int .i64 (o0:Nat),.int .i64 (j1:Nat),.int .i64 (j2:Nat),.int .i64 (j3:Nat)] 53 (0,0))):=by unfold Hid;rw [← hy14];exact ⟨ext_alloc HB5.out _,heap_alloc_new _ _⟩
     clear hy14 HB5
     generalize y.heap.size=nb at *
     have HS14:=hidIt (HS13.out.ext HY14.out.1)
     have HO14:=hidIt (HO13.out.ext HY14.out.1)
     have HL14:=hidIt (HL13.out.ext HY14.out.1)
     have HKB14:=hidIt (bx_ext HKB13.out HY14.out.1)
     have HNB:=hidIt HY14.out.2
     clear HY14 HS13 HO13 HL13 HKB13
     have s0:=HS14.out.cell
     obtain ⟨_,n0,_,_,_,_⟩:=cells4 HNB.out
     obtain ⟨_,e0,_,_,_,_⟩:=cells4 HKB14.out
     have e5:((mB:Int) == (mB:Int))=true:=by simp
     have e6:((o0:Int) == (o0:Int))=true:=by simp
     have CT2:=hidIt (contents_any y14 t B (.slice a10 B.length c10) (-1) (-1) mB HS14.out.tz HL14.out.rdi HMB.out)
     rw [ctF_del DEL.out HLF.out.1 m mB HCM.out HMB.out,← HCC.out] at CT2
     have SA2:Hid (∀ w' v',Below y14.heap.size y14 w'→Rd .i64 w' v' C→Calls Tryz.prog 24 #[v',.slice a8 C.length c8] w' fun e w''=>e=.returned (.bool true)∧Below w'.heap.size w' w''):=fun w' v' hb hv=>same_yes v' _ C w' hv (HO14.out.rdi.ext hb)
     go_wp2_with (first | (go_at_call 36;refine CT2.out.mono ?_;rintro e y15 ⟨v15,rfl,ho15,hb⟩;have HB15:=hidIt hb;obtain ⟨a15,c15,hv15⟩:=ho15.out.form;subst hv15;have HR15:=hidIt ho15.out.rdi;clear ho15 hb;(try dsimp only)) | (go_at_call 24;refine (SA2.out _ _ HB15.out HR15.out).mono ?_;rintro e y16 ⟨rfl,hb⟩;have HB16:=hidIt (ext_trans HB15.out hb);clear hb;(try dsimp only)))
     go_ret
     exact ⟨rfl,(HS14.out.ext HB16.out).bl⟩
end Go.Proofs.YtjomfbegghgbdaaGreat.P
