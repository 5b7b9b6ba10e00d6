import Derived.Test.YtjomfbegghgbdaaGreatJ00
import Derived.Test.YtjomfbegghgbdaaGreatJ36
import Derived.Test.YtjomfbegghgbdaaGreatJ37
import Derived.Test.YtjomfbegghgbdaaGreatJ39
namespace Go.Proofs.YtjomfbegghgbdaaGreat.P
open Go.RowKit
def tyX (x:Int):Int:=if x=10 then 10 else 32 + bits .and .i64 x 63
theorem tyX_pln (x:Int):(tyX x=10∨(32≤tyX x∧tyX x≤95))∧(x≠10→tyX x≠10)∧tyX x≠13:=by
 obtain ⟨h0,h1⟩:=and_le x 63 (by decide)
 have h0':0≤bits .and .i64 x 63:=h0
 have h1':bits .and .i64 x 63≤63:=h1
 unfold tyX
 split <;> omega
theorem g10_snoc (l:List Int) (x:Int):g10 (l ++ [x])=g10 l + (if x=10 then 1 else 0):=by
 induction l with
 | nil=>simp [g10]
 | cons y r ih=>simp only [List.cons_append,g10,ih];omega
theorem g10_le (l:List Int):g10 l≤l.length:=by
 induction l with
 | nil=>exact Nat.le_refl _
 | cons y r ih=>rw [g10,List.length_cons];split <;> omega
theorem nle_one (x:Int):nle [x]=if x=10∨x=13 then [] else [x]:=by
 unfold nle
 by_cases h1:x=10
 ·subst h1;rfl
 ·by_cases h2:x=13
  ·subst h2;rfl
  ·simp [h1,h2]
set_option maxRecDepth 100000 in
set_option maxHeartbeats 16000000 in
theorem lgrow_any (x0:Int) (ad:Option Addr) (nd cd:Nat) (D:List Int) (z:Int) (at9:Option Addr) (ct9:Nat) (T:List Int) (nz:Int) (W:World) (hD:Rd .u8 W (.slice ad nd cd) D) (hB:Byt D) (hz:-9223372036854775808≤z∧z≤9223372036854775807) (hT:Rd .i64 W (.slice at9 T.length ct9) T) (hnz:-9223372036854775808≤nz∧nz≤9223372036854775807) :
  Calls Tryz.prog 5 #[.agg #[.int .i64 x0,.slice ad nd cd],.int .i64 z,.slice at9 T.length ct9,.int .i64 nz] W fun e W'=>e=.returned (.bool true)∧Below W.heap.size W W':=by
 obtain ⟨w0,hw0,hb0⟩:∃ w0,w0=W.alloc (.cells #[.int .i64 x0,.slice ad nd cd] 24)∧Below W.heap.size W w0:=⟨_,rfl,ext_alloc (Below.refl _ _) _⟩
 have OP:=hidIt (opened_any x0 (.slice ad nd cd) D w0 (hD.ext hb0) hB)
 rw [hw0] at OP
 have HB0:=hidIt hb0
 have HW0:=hidIt hw0
 have HTT:=hidIt hT
 have hTl:=hT.len
 clear hw0 hb0 hD hB hT
 go_enter Tryz.func5,Tryz.ntmps5
 go_upto_region 2 with (go_at_call 18;refine OP.out.mono ?_;rintro e w1 ⟨t,v,rfl,ho,hb⟩;obtain ⟨enc,A,hen,hov,htz,hln,htw⟩:=ho.out;obtain ⟨av,cv,rfl⟩:=hov.form;have HTZ:=hidIt htz;have HEN:=hidIt hen;have HLN:=hidIt hln;have HTW:=hidIt htw;have HOV1:=hidIt hov;have HB1:=hidIt hb;have hlA:=htz.len;clear ho hb hen hov htz hln htw;(try dsimp only))
 rw [← HW0.out] at HTW HB1
 generalize hw2:World.alloc _ _=w2
 have HBx2:Hid (Below w1.heap.size w1 w2):=by unfold Hid;rw [← hw2];exact ext_alloc (Below.refl _ _) _
 have HS2:Hid (Sm enc W w1.heap.size t (.slice av A.length cv) w2 A):=by
  unfold Hid
  have hb:=HBx2.out
  have h1:Below W.heap.size W w1:=HB0.out.trans (HB1.out.mono HB0.out.size)
  exact ⟨by rw [← hw2];exact heap_alloc_new _ _,HTZ.out.ext hb,h1.trans (hb.mono h1.size),h1.size,Nat.le_trans HB0.out.size HTW.out⟩
 have HOV2:=hidIt ((HOV1.out.rdi).ext HBx2.out)
 have HLV:Hid (w2.cell? ⟨w1.heap.size,1,none⟩=some (.slice av A.length cv)):=(cells2 HS2.out.bx).2.2.1
 clear hw2 OP HTZ HTW HB1 HW0 HB0 HOV1 HBx2 w0
 generalize w1.heap.size=bo at *
 have s0:=HS2.out.cell
 have s1:=HLV.out
 have CN:=hidIt (Count_z enc w2 t A HS2.out.tz)
 have hcp:=cnt_pos enc A
 generalize cnt enc A=cn at *
 go_upto_region 4 with (go_at_call 19;refine CN.out.mono ?_;rintro e w3 ⟨rfl,hb⟩;have HB3:=hidIt hb;clear hb;(try dsimp only))
 have HS3:=hidIt (HS2.out.ext HB3.out)
 have HOV:=hidIt (HOV2.out.ext HB3.out)
 have s0:=HS3.out.cell
 have s1:=(cells2 HS3.out.bx).2.2.1
 clear CN hcp HB3 HS2 HLV HOV2
 have WI:=hidIt (within_any z A.length w3 hz (by omega))
 go_upto_region 5 with (go_at_call 22;refine WI.out.mono ?_;rintro e w4 ⟨p,rfl,hp,hw⟩;rw [hw];clear hw;(try dsimp only))
 have HP:=hidIt hp
 obtain ⟨cc,hcc⟩:∃ cc,cc=decide (0 < p∧A[p - 1]?=some 13∧A[p]?=some 10):=⟨_,rfl⟩
 go_cut [65] from 40 to 65 (fun v wF=>v=.bool cc∧wF=w3)
 case first =>
  by_cases h0:0 < p
  ·have h0I:(0:Int) < (p:Int):=by omega
   by_cases h1:p < A.length
   ·have h1I:(p:Int) < (A.length:Int):=by omega
    have hw1:IntKind.i64.wrap ((p:Int) - 1)=((p - 1:Nat):Int):=by rw [IntKind.wrap_i64];omega
    obtain ⟨b,o,hab,hbl,ca,_⟩:=rd_at HOV.out (p - 1) (by omega)
    obtain ⟨b',o',hab',hbl',cb,_⟩:=rd_at HOV.out p h1
    rw [hab] at hab'
    cases hab'
    subst hab
    obtain ⟨x,hx⟩:∃ x,A[p - 1]?=some x:=⟨_,List.getElem?_eq_getElem (by omega)⟩
    obtain ⟨y,hy⟩:∃ y,A[p]?=some y:=⟨_,List.getElem?_eq_getElem h1⟩
    rw [hx,Option.getD_some] at ca
    rw [hy,Option.getD_some] at cb
    have h1p:((p - 1:Nat):Int) < (A.length:Int):=by omega
    rw [hx,hy] at hcc
    by_cases h13:x=13
    ·have hx13:(x == 13)=true:=by simpa using h13
     by_cases h10:y=10
     ·have hy10:(y == 10)=true:=by simpa using h10
      have hct:cc=true:=by rw [hcc];simp [h0,h13,h10]
      have HCT:=hidIt hct
      clear hcc hct h13 h10 hx hy
      go_wp2_with fail
      go_meet
      case rel=>exact ⟨by rw [HCT.out],rfl⟩
     ·have hy10:(y == 10)=false:=by simpa using h10
      have hct:cc=false:=by rw [hcc];simp [h10]
      have HCT:=hidIt hct
      clear hcc hct h13 h10 hx hy
      go_wp2_with fail
      go_meet
      case rel=>exact ⟨by rw [HCT.out],rfl⟩
    ·have hx13:(x == 13)=false:=by simpa using h13
     have hct:cc=false:=by rw [hcc];simp [h13]
     have HCT:=hidIt hct
     clear hcc hct h13 hx hy
     go_wp2_with fail
     go_meet
     case rel=>exact ⟨by rw [HCT.out],rfl⟩
   ·have h1I:¬ (p:Int) < (A.length:Int):=by omega
    have hct:cc=false:=by rw [hcc,List.getElem?_eq_none (Nat.le_of_not_lt h1)];simp
    have HCT:=hidIt hct
    clear hcc hct
    go_wp2_with fail
    go_meet
    case rel=>exact ⟨by rw [HCT.out],rfl⟩
  ·have h0I:¬ (0:Int) < (p:Int):=by omega
   have hct:cc=false:=by rw [hcc];simp [h0]
   have HCT:=hidIt hct
   clear hcc hct
   go_wp2_with fail
   go_meet
   case rel=>exact ⟨by rw [HCT.out],rfl⟩
 obtain ⟨rfl,hwc⟩:=hcut
 rw [hwc]
 clear hwc WI
 cases cc with
 | true =>
   go_wp2_with fail
   go_ret
   exact ⟨rfl,HS3.out.bl⟩
 | false =>
   have HNE:Hid (¬ (0 < p∧A[p - 1]?=some 13∧A[p]?=some 10)):=of_decide_eq_false hcc.symm
   clear hcc
   have WI2:=hidIt (within_any nz 2 w3 hnz (by omega))
   go_upto_region 8 with (go_at_call 22;refine WI2.out.mono ?_;rintro e w4 ⟨nn,rfl,hnn,hw⟩;rw [hw];clear hw;(try dsimp only))
   clear WI2
   obtain ⟨nat,hnat⟩:∃ nat:Int,nat=1 + (nn:Int):=⟨_,rfl⟩
   have HNAT:Hid (nat=1∨nat=2∨nat=3):=by unfold Hid;omega
   rw [← hnat]
   clear hnat hnn
   go_upto_block 0 with fail
   go_cut [11,12] from 69 to 93 (fun lv ev wF=>∃ (ao:Option Addr) (n cap:Nat) (l:List Int),lv=.slice ao n cap∧ev=.int .i64 (g10 l:Nat)∧Hid (OwnI wF w3.heap.size (.slice ao n cap) l∧l.length=n∧n≤16∧(∀ x ∈ l,x=10∨(32≤x∧x≤95))∧Below w3.heap.size w3 wF))
   case first =>
    have HI0:Hid (OwnI w3 w3.heap.size (.slice none 0 0) (((T.take 0)).map tyX)∧Below w3.heap.size w3 w3):=⟨World.ownsRow_nil _ _ _ _,Below.refl _ _⟩
    clear s0 s1
    go_wp2_with fail
    go_loopg [11,12,13] T.length (fun gk lv ev q wr=>∃ (i:Nat) (ao:Option Addr) (n cap e9:Nat),i + gk=T.length∧i≤16∧q=.int .i64 (i:Nat)∧ev=.int .i64 (e9:Nat)∧lv=.slice ao n cap∧e9≤i∧Hid (n=i∧e9=g10 ((T.take i).map tyX)∧OwnI wr w3.heap.size (.slice ao n cap) ((T.take i).map tyX)∧Below w3.heap.size w3 wr))
    case atStart=>exact ⟨0,none,0,0,0,by omega,by omega,rfl,rfl,rfl,Nat.le_refl _,rfl,rfl,HI0.out⟩
    case round =>
     obtain ⟨i,ao,n,cap,e9,hig,hi16,rfl,rfl,rfl,hei,HI⟩:=hrel
     have HG:=hidIt hig
     clear hig
     have HEND:Hid (∃ l:List Int,e9=g10 l∧OwnI wr w3.heap.size (.slice ao n cap) l∧l.length=n∧(∀ x ∈ l,x=10∨(32≤x∧x≤95))∧Below w3.heap.size w3 wr):=by
      refine ⟨_,HI.out.2.1,HI.out.2.2.1,?_,?_,HI.out.2.2.2⟩
      ·rw [List.length_map,List.length_take,HI.out.1];have:=HG.out;omega
      ·intro x hx
       obtain ⟨y,_,rfl⟩:=List.mem_map.1 hx
       exact (tyX_pln y).1
     have hn16:n≤16:=by have:=HI.out.1;omega
     by_cases hlt:i < T.length
     ·have hltI:(i:Int) < (T.length:Int):=by omega
      by_cases hl5:(i:Int) < 16
      ·obtain ⟨b,o,hab,hbl,ci,_⟩:=rd_at (HTT.out.ext (HS3.out.bl.trans (HI.out.2.2.2.mono HS3.out.bl.size))) i hlt
       subst hab
       obtain ⟨x,hx⟩:∃ x,T[i]?=some x:=⟨_,List.getElem?_eq_getElem hlt⟩
       rw [hx,Option.getD_some] at ci
       have HTK:Hid ((T.take (i + 1)).map tyX=(T.take i).map tyX ++ [tyX x]):=by unfold Hid;rw [take_snoc hx,List.map_append];rfl
       have HGS:Hid (g10 ((T.take (i + 1)).map tyX)=e9 + (if tyX x=10 then 1 else 0)):=by unfold Hid;rw [HTK.out,g10_snoc,← HI.out.2.1]
       have HZB:=hidIt (show w3.heap.size≤wr.heap.size from HI.out.2.2.2.size)
       have HOA:=hidIt (fun y:Int=>HI.out.2.2.1.ext (ext_alloc (Below.refl wr.heap.size wr) (.cells #[.int .i64 y] 3)))
       have HZ:=hidIt (fun y:Int=>show w3.heap.size≤(wr.alloc (.cells #[.int .i64 y] 3)).heap.size from Nat.le_trans HZB.out (size_alloc_le _ _))
       have HLN5:Hid (((T.take i).map tyX).length≤16):=by unfold Hid;rw [List.length_map,List.length_take];omega
       obtain ⟨LL,hLL⟩:∃ LL,LL=(T.take i).map tyX:=⟨_,rfl⟩
       rw [← hLL] at HOA HLN5 HTK
       have HHL:=hidIt hLL
       clear hLL hx
       by_cases hx10:x=10
       ·subst hx10
        have e10:tyX 10=10:=by unfold tyX;rw [if_pos rfl]
        rw [e10] at HTK HGS
        rw [if_pos rfl] at HGS
        have hwe:IntKind.i64.wrap ((e9:Int) + 1)=((e9 + 1:Nat):Int):=by rw [IntKind.wrap_i64];omega
        clear e10
        go_wp2_with (at_builtin;refine wpl_ints rfl _ _ 27 rfl w3.heap.size Tryz.info_i64 Tryz.underlying27 (.slice ao n cap) LL rfl (HOA.out _) [10] (some ⟨wr.heap.size,0,none⟩) 1 1 rfl rfl (.inr ⟨_,rfl,rdi_new wr _⟩) (by have:=HLN5.out;simp;omega) (HZ.out _) ?_;intro v8 w8 ho8 hb8;obtain ⟨a8,c8,hv8⟩:=ho8.form;generalize hn8:(LL ++ [10]).length=n8 at hv8;have HN8:=hidIt hn8;clear hn8;subst hv8;have HO8:=hidIt ho8;have HB8:=hidIt (((Below.refl w3.heap.size wr).alloc HZB.out _).trans hb8);clear ho8 hb8)
        go_roundg (T.length - (i + 1))
        case rel=>exact ⟨i + 1,a8,n8,c8,e9 + 1,by have:=HG.out;omega,by omega,by go_num,by go_num,rfl,by omega,by have:=HI.out.1;have:=HN8.out;rw [HHL.out,List.length_append,List.length_map,List.length_take,List.length_singleton] at this;have:=HG.out;omega,HGS.out.symm,by rw [HTK.out];exact HO8.out,HI.out.2.2.2.trans (HB8.out.mono (Nat.le_refl _))⟩
        case measure=>have:=HG.out;omega
       ·have hxb:(x != 10)=true:=by simpa using hx10
        have ex:tyX x=32 + bits .and .i64 x 63:=by unfold tyX;rw [if_neg hx10]
        obtain ⟨h63,h64⟩:=and_le x 63 (by decide)
        have hn10:¬ tyX x=10:=(tyX_pln x).2.1 hx10
        rw [if_neg hn10,Nat.add_zero] at HGS
        rw [ex] at HTK
        generalize hq:bits .and .i64 x (63:Nat)=q9 at *
        have hq':bits .and .i64 x 63=q9:=hq
        have hwq:IntKind.i64.wrap (32 + q9)=32 + q9:=by rw [IntKind.wrap_i64];omega
        clear ex hn10 hq
        go_wp2_with (at_builtin;refine wpl_ints rfl _ _ 27 rfl w3.heap.size Tryz.info_i64 Tryz.underlying27 (.slice ao n cap) LL rfl (HOA.out _) [32 + q9] (some ⟨wr.heap.size,0,none⟩) 1 1 rfl rfl (.inr ⟨_,rfl,rdi_new wr _⟩) (by have:=HLN5.out;simp;omega) (HZ.out _) ?_;intro v8 w8 ho8 hb8;obtain ⟨a8,c8,hv8⟩:=ho8.form;generalize hn8:(LL ++ [32 + q9]).length=n8 at hv8;have HN8:=hidIt hn8;clear hn8;subst hv8;have HO8:=hidIt ho8;have HB8:=hidIt (((Below.refl w3.heap.size wr).alloc HZB.out _).trans hb8);clear ho8 hb8)
        go_roundg (T.length - (i + 1))
        case rel=>exact ⟨i + 1,a8,n8,c8,e9,by have:=HG.out;omega,by omega,by go_num,rfl,rfl,by omega,by have:=HN8.out;rw [HHL.out,List.length_append,List.length_map,List.length_take,List.length_singleton] at this;have:=HG.out;omega,HGS.out.symm,by rw [HTK.out];exact HO8.out,HI.out.2.2.2.trans (HB8.out.mono (Nat.le_refl _))⟩
        case measure=>have:=HG.out;omega
      ·go_wp2_with fail
       go_meet
       case rel =>
        obtain ⟨l,q1,q2,q3,q4,q5⟩:=HEND.out
        exact ⟨ao,n,cap,l,rfl,by rw [q1],q2,q3,hn16,q4,q5⟩
     ·have hnl:¬ (i:Int) < (T.length:Int):=by omega
      go_wp2_with fail
      go_meet
      case rel =>
       obtain ⟨l,q1,q2,q3,q4,q5⟩:=HEND.out
       exact ⟨ao,n,cap,l,rfl,by rw [q1],q2,q3,hn16,q4,q5⟩
   obtain ⟨ai,ni,ci,l,rfl,rfl,HIN⟩:=hcut
   have hni:=HIN.out.2.2.1
   have HSc:=hidIt (HS3.out.ext HIN.out.2.2.2.2)
   have HOVc:=hidIt (HOV.out.ext HIN.out.2.2.2.2)
   have HL13:Hid (∀ x ∈ l,x≠13):=fun x hx=>by have:=HIN.out.2.2.2.1 x hx;omega
   have HLP:Hid (∀ x ∈ l,Pln x):=fun x hx=>by have:=HIN.out.2.2.2.1 x hx;unfold Pln;omega
   have s0:=HSc.out.cell
   have BR:=hidIt (breaks_z enc wc t A HSc.out.tz)
   have HBn:=hidIt (spn_nn enc A)
   have HBl:=hidIt (spn_len enc A)
   obtain ⟨B,hBe⟩:∃ B,B=(spn enc A).b:=⟨_,rfl⟩
   rw [← hBe] at BR
   have HBE:=hidIt hBe
   clear hBe
   go_upto_region 19 with (go_at_call 35;refine BR.out.mono ?_;rintro e w5 ⟨rfl,hb⟩;have HB5:=hidIt hb;clear hb;(try dsimp only))
   have HS5:=hidIt (HSc.out.ext HB5.out)
   have HOV5:=hidIt (HOVc.out.ext HB5.out)
   have HI5:=hidIt (HIN.out.1.ext HB5.out)
   clear BR HB5 HSc HOVc s0 s1
   have hlen:=HIN.out.2.1
   subst hlen
   have ks:=HS5.out.cell
   have CPY:Hid (∀ w',Below w5.heap.size w5 w'→Calls Tryz.prog 20 #[.slice ai l.length ci] w' fun e w''=>∃ v',e=.returned v'∧Hid (OwnI w'' w'.heap.size v' l)∧Below w'.heap.size w' w''):=fun w' hb=>copied_any _ l w' (HI5.out.rdi.ext hb) (by omega)
   obtain ⟨P,hPe⟩:∃ P,P=tyF A p nat [] l:=⟨_,rfl⟩
   have HPE:=hidIt hPe
   have TYP:Hid (∀ w' v',Below w5.heap.size w5 w'→Rd .i64 w' v' l→Calls Tryz.prog 23 #[.pointer (some ⟨t,0,none⟩),.int .i64 (p:Nat),v',.int .i64 nat] w' fun e w''=>∃ v,e=.returned (.tuple #[v,.int .i64 0])∧Hid (OwnI w'' w'.heap.size v P)∧Below w'.heap.size w' w''):=fun w' v' hb hv=>by
    rw [hPe]
    exact Typed_good enc w' t A p v' l nat (HS5.out.tz.ext hb) HP.out hv HNAT.out (by omega)
   have HPL:Hid (l.length≤P.length∧P.length≤2 * l.length):=by
    have h8:=tyF_len A p nat l []
    rw [← hPe] at h8
    simp only [List.length_nil,Nat.zero_add] at h8
    exact h8
   clear hPe
   refine wp_region_held_drew (S:=fun w''=>w''.cell? ⟨bo,0,none⟩=some (.pointer (some ⟨t,0,none⟩))) (by kernel_rfl) (ks) (fun hHeld=>?_)
   refine tkH 0 rfl ?_
   try simp only [Act.put,tS]
   refine tkH 1 rfl ?_
   try simp only [Act.put,tS]
   refine tkH 2 rfl ?_
   try simp only [Act.put,tS]
   refine tkH 3 rfl ?_
   try simp only [Act.put,tS]
   refine tkH 5 rfl ?_
   try simp only [Act.put,tS]
   refine rdH 4 rfl fun K hK=>?_
   go_simp
   refine (CPY.out _ (Below.drew (Below.refl _ _))).mono ?_;clear ks;rintro e y5 ⟨v5,rfl,ho5,hb⟩;have HY5:=hidIt (ext_trans (Below.drew (Below.refl w5.heap.size w5)) hb);clear hb;obtain ⟨a5,k5,hv5⟩:=ho5.out.form;subst hv5;have HO5:=hidIt ho5.out;clear ho5;have ks:=(HS5.out.ext HY5.out).cell;try dsimp only
   refine hK.out _ _ ?_ (fun hHeld=>?_)
   ·(try simp only [World.cell?_drew]);exact ks
   clear hK K
   try simp only [Act.put,tS]
   refine rdH 6 rfl fun K hK=>?_
   go_simp
   refine (TYP.out _ _ HY5.out HO5.out.rdi).mono ?_;clear ks;rintro e y6 ⟨v6,rfl,ho6,hb⟩;have HY6:=hidIt (ext_trans HY5.out hb);clear hb;obtain ⟨aP,cP,hv6⟩:=ho6.out.form;subst hv6;have HOP:=hidIt ho6.out;clear ho6;have ks:=(HS5.out.ext HY6.out).cell;try dsimp only
   refine hK.out _ _ ?_ (fun hHeld=>?_)
   ·(try simp only [World.cell?_drew]);exact ks
   clear hK K
   try simp only [Act.put,tS]
   refine tkH 7 rfl ?_
   try simp only [Act.put,tS]
   refine tkH 8 rfl ?_
   try simp only [Act.put,tS]
   refine tkH 9 rfl ?_
   try simp only [Act.put,tS]
   refine tkH 10 rfl ?_
   try simp only [Act.put,tS]
   refine tkH 11 rfl ?_
   try simp only [Act.put,tS]
   refine wpAnyH_done (by kernel_rfl) ?_ _
   skip
   go_upto_region 20 with fail
   clear CPY TYP
   have HSY:=hidIt (HS5.out.ext HY6.out)
   have HOVY:=hidIt (HOV5.out.ext HY6.out)
   have HIY:=hidIt (HI5.out.ext HY6.out)
   have hp1:¬ ((P.length:Int) < (l.length:Int)):=by have:=HPL.out;omega
   have hwm:IntKind.i64.wrap (2 * (l.length:Int))=2 * (l.length:Int):=by rw [IntKind.wrap_i64];omega
   have hp2:¬ (2 * (l.length:Int) < (P.length:Int)):=by have:=HPL.out;omega
   have AT:Hid (∀ w',Below y6.heap.size y6 w'→Calls Tryz.prog 32 #[.pointer (some ⟨t,0,none⟩),.int .i64 0,.int .i64 (A.length:Nat)] w' fun e w''=>∃ v,e=.returned v∧Hid (OwnI w'' w'.heap.size v A)∧Below w'.heap.size w' w''):=fun w' hb=>by
    have h:=Atoms_z enc w' t A 0 (A.length:Nat) (HSY.out.tz.ext hb)
    have e:sub A 0 (A.length:Nat)=A:=by
     unfold sub clp
     by_cases h0:A.length=0
     ·obtain rfl:=List.length_eq_zero_iff.1 h0
      simp
     ·rw [if_neg (by omega)]
      simp only
      rw [show (max (0:Int) 0).toNat=0 by omega,show (min (A.length:Int) (A.length:Int)).toNat - 0=A.length by omega,List.drop_zero,List.take_length]
    rw [e] at h
    exact h
   have SAM:Hid (∀ w' v',Below y6.heap.size y6 w'→Rd .i64 w' v' A→Calls Tryz.prog 24 #[v',(.slice av A.length cv)] w' fun e w''=>e=.returned (.bool true)∧Below w'.heap.size w' w''):=fun w' v' hb hv=>same_yes v' _ A w' hv (HOVY.out.ext hb)
   have HC2:Hid (∀ w',Below y6.heap.size y6 w'→w'.cell? ⟨bo,0,none⟩=some (.pointer (some ⟨t,0,none⟩))∧w'.cell? ⟨bo,1,none⟩=some (.slice av A.length cv)):=fun w' hb=>by
    obtain ⟨_,c0,c1,_⟩:=cells2 (HSY.out.ext hb).bx
    exact ⟨c0,c1⟩
   obtain ⟨c0,c1⟩:=HC2.out y6 (Below.refl _ _)
   clear ks
   refine wp_region_held_drew (S:=fun w''=>w''.cell? ⟨bo,0,none⟩=some (.pointer (some ⟨t,0,none⟩))∧w''.cell? ⟨bo,1,none⟩=some (.slice av A.length cv)) (by kernel_rfl) (⟨c0,c1⟩) (fun hHeld=>?_)
   refine tkH 0 rfl ?_
   try simp only [Act.put,tS]
   refine tkH 1 rfl ?_
   try simp only [Act.put,tS]
   refine tkH 2 rfl ?_
   try simp only [Act.put,tS]
   refine tkH 3 rfl ?_
   try simp only [Act.put,tS]
   refine tkH 4 rfl ?_
   try simp only [Act.put,tS]
   refine tkH 5 rfl ?_
   try simp only [Act.put,tS]
   refine tkH 6 rfl ?_
   try simp only [Act.put,tS]
   refine tkH 7 rfl ?_
   try simp only [Act.put,tS]
   refine tkH 8 rfl ?_
   try simp only [Act.put,tS]
   refine tkH 9 rfl ?_
   try simp only [Act.put,tS]
   refine tkH 10 rfl ?_
   try simp only [Act.put,tS]
   refine tkH 11 rfl ?_
   try simp only [Act.put,tS]
   refine tkH 12 rfl ?_
   try simp only [Act.put,tS]
   refine tkH 13 rfl ?_
   try simp only [Act.put,tS]
   refine tkH 14 rfl ?_
   try simp only [Act.put,tS]
   refine tkH 15 rfl ?_
   try simp only [Act.put,tS]
   refine tkH 16 rfl ?_
   try simp only [Act.put,tS]
   refine tkH 17 rfl ?_
   try simp only [Act.put,tS]
   refine tkH 18 rfl ?_
   try simp only [Act.put,tS]
   refine tkH 19 rfl ?_
   try simp only [Act.put,tS]
   refine tkH 20 rfl ?_
   try simp only [Act.put,tS]
   refine tkH 21 rfl ?_
   try simp only [Act.put,tS]
   refine tkH 22 rfl ?_
   try simp only [Act.put,tS]
   refine tkH 24 rfl ?_
   try simp only [Act.put,tS]
   refine tkH 25 rfl ?_
   try simp only [Act.put,tS]
   refine rdH 23 rfl fun K hK=>?_
   go_simp
   refine (AT.out _ (Below.drew (Below.refl _ _))).mono ?_;clear c0 c1;rintro e y7 ⟨v7,rfl,ho7,hb⟩;have HY7:=hidIt (ext_trans (Below.drew (Below.refl y6.heap.size y6)) hb);clear hb;obtain ⟨a7,k7,hv7⟩:=ho7.out.form;subst hv7;have HO7:=hidIt ho7.out;clear ho7;obtain ⟨c0,c1⟩:=HC2.out y7 HY7.out;try dsimp only
   refine hK.out _ _ ?_ (fun hHeld=>?_)
   ·(try simp only [World.cell?_drew]);exact ⟨c0,c1⟩
   clear hK K
   try simp only [Act.put,tS]
   refine rdH 26 rfl fun K hK=>?_
   go_simp
   refine (SAM.out _ _ HY7.out HO7.out.rdi).mono ?_;clear c0 c1;rintro e y8 ⟨rfl,hb⟩;have HY8:=hidIt (ext_trans HY7.out hb);clear hb;obtain ⟨c0,c1⟩:=HC2.out y8 HY8.out;try dsimp only
   refine hK.out _ _ ?_ (fun hHeld=>?_)
   ·(try simp only [World.cell?_drew]);exact ⟨c0,c1⟩
   clear hK K
   try simp only [Act.put,tS]
   refine tkH 27 rfl ?_
   try simp only [Act.put,tS]
   refine tkH 28 rfl ?_
   try simp only [Act.put,tS]
   refine wpAnyH_done (by kernel_rfl) ?_ _
   skip
   go_upto_region 22 with fail
   clear AT SAM hp1 hp2 hwm
   have CPP:Hid (∀ w',Below y6.heap.size y6 w'→Calls Tryz.prog 20 #[.slice aP P.length cP] w' fun e w''=>∃ v',e=.returned v'∧Hid (OwnI w'' w'.heap.size v' P)∧Below w'.heap.size w' w''):=fun w' hb=>copied_any _ P w' (HOP.out.rdi.ext hb) (by have:=HPL.out;omega)
   have CHG:Hid (∀ w' ve,Below y6.heap.size y6 w'→EdR w' ve [((p:Nat),(p:Nat),P)]→Calls Tryz.prog 34 #[.pointer (some ⟨t,0,none⟩),ve] w' fun e w''=>e=.returned (.int .i64 0)∧Tz enc w'' t (spl A p p P)∧Kps (fun k=>k=t) w' w''):=fun w' ve hb he=>Change_z enc w' t A ve p p P (HSY.out.tz.ext hb) he (Nat.le_refl _) HP.out (fun a ha=>fits_pln HEN.out (by rw [HPE.out] at ha;exact tyF_pln A p nat l [] HLP.out (fun _ h=>by cases h) a ha)) (by have:=HPL.out;have:=HLN.out;omega)
   have HC1:Hid (∀ w',Below y6.heap.size y6 w'→w'.cell? ⟨bo,0,none⟩=some (.pointer (some ⟨t,0,none⟩))):=fun w' hb=>(HC2.out w' hb).1
   obtain ⟨y9,hy9⟩:∃ y9,y9=y8:=⟨_,rfl⟩
   rw [← hy9]
   have HY9:Hid (Below y6.heap.size y6 y9):=by unfold Hid;rw [hy9];exact HY8.out
   clear hy9 c0 c1 HY8
   have c1:=HC1.out y9 HY9.out
   refine wp_region_held_drew (S:=fun w''=>w''.cell? ⟨bo,0,none⟩=some (.pointer (some ⟨t,0,none⟩))) (by kernel_rfl) (c1) (fun hHeld=>?_)
   refine tkH 0 rfl ?_
   try simp only [Act.put,tS]
   refine tkH 1 rfl ?_
   try simp only [Act.put,tS]
   refine tkH 2 rfl ?_
   try simp only [Act.put,tS]
   refine tkH 3 rfl ?_
   try simp only [Act.put,tS]
   refine tkH 4 rfl ?_
   try simp only [Act.put,tS]
   refine rdH 5 rfl fun K hK=>?_
   go_simp
   refine (CPP.out _ HY9.out.drew).mono ?_;clear c1;rintro e yC ⟨vC,rfl,hoC,hb⟩;have HYC:=hidIt (ext_trans HY9.out.drew hb);clear hb;obtain ⟨aC,kC9,hvC⟩:=hoC.out.form;subst hvC;have HOC:=hidIt hoC.out;clear hoC;have c1:=HC1.out yC HYC.out;try dsimp only
   refine hK.out _ _ ?_ (fun hHeld=>?_)
   ·(try simp only [World.cell?_drew]);exact c1
   clear hK K
   try simp only [Act.put,tS]
   refine tkH 6 rfl ?_
   try simp only [Act.put,tS]
   refine rdH 7 rfl fun K hK=>?_
   go_simp
   generalize hwN:World.alloc _ _=yE;have hst:Below yC.heap.size yC yE:=(by rw [← hwN];exact ext_alloc (Below.refl _ _) _);have HED:Hid (EdR yE (.slice (some ⟨yC.heap.size,0,none⟩) 1 1) [((p:Nat),(p:Nat),P)]):=(by unfold Hid;rw [← hwN];exact edr_lit1 yC _ _ _ P HOC.out.rdi);have HYE:=hidIt (ext_trans HYC.out hst);clear hwN hst;clear c1;have c1:=HC1.out yE HYE.out;try dsimp only
   refine hK.out _ _ ?_ (fun hHeld=>?_)
   ·(try simp only [World.cell?_drew]);exact c1
   clear hK K
   try simp only [Act.put,tS]
   refine rdH 8 rfl fun K hK=>?_
   go_simp
   refine (CHG.out _ _ HYE.out HED.out).mono ?_;clear c1;rintro e yZ ⟨rfl,htz,hkp⟩;have HTZ:=hidIt htz;have HKP:=hidIt hkp;have c1:=((HSY.out.ext HYE.out).chg htz hkp).cell;clear htz hkp;try dsimp only
   refine hK.out _ _ ?_ (fun hHeld=>?_)
   ·(try simp only [World.cell?_drew]);exact c1
   clear hK K
   try simp only [Act.put,tS]
   refine tkH 9 rfl ?_
   try simp only [Act.put,tS]
   refine wpAnyH_done (by kernel_rfl) ?_ _
   skip
   go_upto_region 24 with fail
   have HTYP:=hidIt ((HSY.out.tz.ext HYE.out).typ)
   have HIZ:=hidIt ((HIY.out.ext HYE.out).kpt HKP.out HTYP.out)
   have HOPZ:=hidIt ((HOP.out.ext HYE.out).kpt HKP.out HTYP.out)
   have HSZ:=hidIt ((HSY.out.ext HYE.out).chg HTZ.out HKP.out)
   clear CPP CHG HC1 HC2 c1
   have s0:=HSZ.out.cell
   have BR:=hidIt (breaks_z enc yZ t _ HSZ.out.tz)
   have hgr:(spn enc (spl A p p P)).b=B + (g10 l:Nat):=by rw [HPE.out,HBE.out];exact grow_b enc A p nat l HP.out HNAT.out HL13.out HNE.out
   rw [hgr] at BR
   have hB9:0≤B∧B≤65536:=by have:=HBn.out;have:=HBl.out;have:=HBE.out;omega
   have hg9:=g10_le l
   generalize g10 l=gg at *
   have hwg:IntKind.i64.wrap (B + (gg:Int))=B + (gg:Int):=by rw [IntKind.wrap_i64];omega
   have hqe:((B + (gg:Int)) != (B + (gg:Int)))=false:=by simp
   clear hgr
   go_upto_region 26 with (go_at_call 35;refine BR.out.mono ?_;rintro e z0 ⟨rfl,hb⟩;have HBz:=hidIt hb;clear hb;(try dsimp only))
   have HIz:=hidIt (HIZ.out.ext HBz.out)
   have HOPz:=hidIt (HOPZ.out.ext HBz.out)
   have HSz:=hidIt (HSZ.out.ext HBz.out)
   clear BR HIZ HOPZ HSZ HBz s0 hwg hqe hB9 hg9
   have HPLl:Hid (P.length≤32):=by have:=HPL.out;unfold Hid;omega
   go_upto_block 2 with fail
   go_cut [18] from 153 to 177 (fun lv wF=>∃ (ao:Option Addr) (n cap:Nat),lv=.slice ao n cap∧Hid (n=(nle P).length∧OwnI wF z0.heap.size (.slice ao n cap) (nle P)∧Below z0.heap.size z0 wF))
   case first =>
    have HI0:Hid (OwnI z0 z0.heap.size (.slice none 0 0) (nle (P.take 0))∧Below z0.heap.size z0 z0):=⟨World.ownsRow_nil _ _ _ _,Below.refl _ _⟩
    go_wp2_with fail
    go_loopg [18,19] P.length (fun gk lv q wr=>∃ (i:Nat) (ao:Option Addr) (n cap:Nat),i + gk=P.length∧q=.int .i64 (i:Nat)∧lv=.slice ao n cap∧Hid (n=(nle (P.take i)).length∧OwnI wr z0.heap.size (.slice ao n cap) (nle (P.take i))∧Below z0.heap.size z0 wr))
    case atStart=>exact ⟨0,none,0,0,by omega,rfl,rfl,rfl,HI0.out⟩
    case round =>
     obtain ⟨i,ao,n,cap,hig,rfl,rfl,HI⟩:=hrel
     have HG:=hidIt hig
     clear hig
     by_cases hlt:i < P.length
     ·have hltI:(i:Int) < (P.length:Int):=by omega
      obtain ⟨b,o,hab,hbl,ci,_⟩:=rd_at (HOPz.out.rdi.ext HI.out.2.2) i hlt
      subst hab
      obtain ⟨x,hx⟩:∃ x,P[i]?=some x:=⟨_,List.getElem?_eq_getElem hlt⟩
      rw [hx,Option.getD_some] at ci
      have HTK:Hid (nle (P.take (i + 1))=nle (P.take i) ++ (if x=10∨x=13 then [] else [x])):=by unfold Hid;rw [take_snoc hx,nle_app,nle_one]
      have HMX:Hid (x ∈ P):=List.mem_of_getElem? hx
      have h32:i < 32:=by have:=HPLl.out;omega
      clear hx
      by_cases hx10:x=10
      ·rw [if_pos (.inl hx10),List.append_nil] at HTK
       have hxb:(x != 10)=false:=by simpa using hx10
       clear hx10
       go_wp2_with fail
       go_roundg (P.length - (i + 1))
       case rel=>exact ⟨i + 1,ao,n,cap,Nat.add_sub_cancel' hlt,by go_num,rfl,by rw [HTK.out];exact HI.out.1,by rw [HTK.out];exact HI.out.2.1,HI.out.2.2⟩
       case measure=>have:=HG.out;omega
      ·have hxb:(x != 10)=true:=by simpa using hx10
       by_cases hx13:x=13
       ·rw [if_pos (.inr hx13),List.append_nil] at HTK
        have hxc:(x != 13)=false:=by simpa using hx13
        clear hx13
        go_wp2_with fail
        go_roundg (P.length - (i + 1))
        case rel=>exact ⟨i + 1,ao,n,cap,Nat.add_sub_cancel' hlt,by go_num,rfl,by rw [HTK.out];exact HI.out.1,by rw [HTK.out];exact HI.out.2.1,HI.out.2.2⟩
        case measure=>have:=HG.out;omega
       ·rw [if_neg (by omega)] at HTK
        have hxc:(x != 13)=true:=by simpa using hx13
        have HZB:=hidIt (show z0.heap.size≤wr.heap.size from HI.out.2.2.size)
        have HLN5:Hid ((nle (P.take i)).length≤32):=by have h1:=List.length_filter_le (fun x=>x != 10 && x != 13) (P.take i);rw [List.length_take] at h1;unfold Hid nle;have:=HPLl.out;omega
        have HOA:=hidIt (fun y:Int=>HI.out.2.1.ext (ext_alloc (Below.refl wr.heap.size wr) (.cells #[.int .i64 y] 3)))
        have HZ:=hidIt (fun y:Int=>show z0.heap.size≤(wr.alloc (.cells #[.int .i64 y] 3)).heap.size from Nat.le_trans HZB.out (size_alloc_le _ _))
        generalize nle (P.take i)=LL at *
        go_wp2_with (at_builtin;refine wpl_ints rfl _ _ 27 rfl z0.heap.size Tryz.info_i64 Tryz.underlying27 (.slice ao n cap) LL rfl (HOA.out _) [x] (some ⟨wr.heap.size,0,none⟩) 1 1 rfl rfl (.inr ⟨_,rfl,rdi_new wr _⟩) (by have:=HLN5.out;simp;omega) (HZ.out _) ?_;intro v8 w8 ho8 hb8;obtain ⟨a8,c8,hv8⟩:=ho8.form;generalize hn8:(LL ++ [x]).length=n8 at hv8;have HN8:=hidIt hn8;clear hn8;subst hv8;have HO8:=hidIt ho8;have HB8:=hidIt (((Below.refl z0.heap.size wr).alloc HZB.out _).trans hb8);clear ho8 hb8)
        go_roundg (P.length - (i + 1))
        case rel=>exact ⟨i + 1,a8,n8,c8,Nat.add_sub_cancel' hlt,by go_num,rfl,by rw [HTK.out];exact HN8.out.symm,by rw [HTK.out];exact HO8.out,HI.out.2.2.trans (HB8.out.mono (Nat.le_refl _))⟩
        case measure=>have:=HG.out;omega
     ·obtain rfl:i=P.length:=Nat.le_antisymm (Nat.le_of_add_right_le (Nat.le_of_eq HG.out)) (Nat.le_of_not_lt hlt)
      have hnl:¬ ((P.length:Nat):Int) < (P.length:Int):=by omega
      have HE:=hidIt (show P.take P.length=P from List.take_length)
      rw [HE.out] at HI
      go_wp2_with fail
      go_meet
      case rel=>exact ⟨ao,n,cap,rfl,HI.out⟩
   obtain ⟨ar,nr,cr,rfl,HR⟩:=hcut
   obtain ⟨z1,hz1⟩:∃ z1,z1=wc:=⟨_,rfl⟩
   rw [← hz1] at HR ⊢
   clear hz1
   have HIz1:=hidIt (HIz.out.ext HR.out.2.2)
   go_upto_block 4 with fail
   go_cut [20] from 178 to 195 (fun lv wF=>∃ (ao:Option Addr) (n cap:Nat),lv=.slice ao n cap∧Hid (n=(nle l).length∧OwnI wF z1.heap.size (.slice ao n cap) (nle l)∧Below z1.heap.size z1 wF))
   case first =>
    have HI0:Hid (OwnI z1 z1.heap.size (.slice none 0 0) (nle (l.take 0))∧Below z1.heap.size z1 z1):=⟨World.ownsRow_nil _ _ _ _,Below.refl _ _⟩
    go_wp2_with fail
    go_loopg [20,21] l.length (fun gk lv q wr=>∃ (i:Nat) (ao:Option Addr) (n cap:Nat),i + gk=l.length∧q=.int .i64 (i:Nat)∧lv=.slice ao n cap∧Hid (n=(nle (l.take i)).length∧OwnI wr z1.heap.size (.slice ao n cap) (nle (l.take i))∧Below z1.heap.size z1 wr))
    case atStart=>exact ⟨0,none,0,0,by omega,rfl,rfl,rfl,HI0.out⟩
    case round =>
     obtain ⟨i,ao,n,cap,hig,rfl,rfl,HI⟩:=hrel
     have HG:=hidIt hig
     clear hig
     by_cases hlt:i < l.length
     ·have hltI:(i:Int) < (l.length:Int):=by omega
      obtain ⟨b,o,hab,hbl,ci,_⟩:=rd_at (HIz1.out.rdi.ext HI.out.2.2) i hlt
      subst hab
      obtain ⟨x,hx⟩:∃ x,l[i]?=some x:=⟨_,List.getElem?_eq_getElem hlt⟩
      rw [hx,Option.getD_some] at ci
      have HTK:Hid (nle (l.take (i + 1))=nle (l.take i) ++ (if x=10∨x=13 then [] else [x])):=by unfold Hid;rw [take_snoc hx,nle_app,nle_one]
      have HMX:Hid (x ∈ l):=List.mem_of_getElem? hx
      have h32:i < 32:=by have:=hni;omega
      clear hx
      have hx13:x≠13:=HL13.out x HMX.out
      by_cases hx10:x=10
      ·rw [if_pos (.inl hx10),List.append_nil] at HTK
       have hxb:(x != 10)=false:=by simpa using hx10
       clear hx10
       go_wp2_with fail
       go_roundg (l.length - (i + 1))
       case rel=>exact ⟨i + 1,ao,n,cap,Nat.add_sub_cancel' hlt,by go_num,rfl,by rw [HTK.out];exact HI.out.1,by rw [HTK.out];exact HI.out.2.1,HI.out.2.2⟩
       case measure=>have:=HG.out;omega
      ·have hxb:(x != 10)=true:=by simpa using hx10
       rw [if_neg (by omega)] at HTK
       have HZB:=hidIt (show z1.heap.size≤wr.heap.size from HI.out.2.2.size)
       have HLN5:Hid ((nle (l.take i)).length≤32):=by have h1:=List.length_filter_le (fun x=>x != 10 && x != 13) (l.take i);rw [List.length_take] at h1;unfold Hid nle;have:=hni;omega
       have HOA:=hidIt (fun y:Int=>HI.out.2.1.ext (ext_alloc (Below.refl wr.heap.size wr) (.cells #[.int .i64 y] 3)))
       have HZ:=hidIt (fun y:Int=>show z1.heap.size≤(wr.alloc (.cells #[.int .i64 y] 3)).heap.size from Nat.le_trans HZB.out (size_alloc_le _ _))
       generalize nle (l.take i)=LL at *
       go_wp2_with (at_builtin;refine wpl_ints rfl _ _ 27 rfl z1.heap.size Tryz.info_i64 Tryz.underlying27 (.slice ao n cap) LL rfl (HOA.out _) [x] (some ⟨wr.heap.size,0,none⟩) 1 1 rfl rfl (.inr ⟨_,rfl,rdi_new wr _⟩) (by have:=HLN5.out;simp;omega) (HZ.out _) ?_;intro v8 w8 ho8 hb8;obtain ⟨a8,c8,hv8⟩:=ho8.form;generalize hn8:(LL ++ [x]).length=n8 at hv8;have HN8:=hidIt hn8;clear hn8;subst hv8;have HO8:=hidIt ho8;have HB8:=hidIt (((Below.refl z1.heap.size wr).alloc HZB.out _).trans hb8);clear ho8 hb8)
       go_roundg (l.length - (i + 1))
       case rel=>exact ⟨i + 1,a8,n8,c8,Nat.add_sub_cancel' hlt,by go_num,rfl,by rw [HTK.out];exact HN8.out.symm,by rw [HTK.out];exact HO8.out,HI.out.2.2.trans (HB8.out.mono (Nat.le_refl _))⟩
       case measure=>have:=HG.out;omega
     ·obtain rfl:i=l.length:=Nat.le_antisymm (Nat.le_of_add_right_le (Nat.le_of_eq HG.out)) (Nat.le_of_not_lt hlt)
      have hnl:¬ ((l.length:Nat):Int) < (l.length:Int):=by omega
      have HE:=hidIt (show l.take l.length=l from List.take_length)
      rw [HE.out] at HI
      go_wp2_with fail
      go_meet
      case rel=>exact ⟨ao,n,cap,rfl,HI.out⟩
   obtain ⟨aw,nw,cw,rfl,HW3⟩:=hcut
   have HEQ:Hid (nle P=nle l):=by unfold Hid;rw [HPE.out,tyF_nle];rfl
   have SM:Hid (Calls Tryz.prog 24 #[.slice ar nr cr,.slice aw nw cw] wc fun e w''=>e=.returned (.bool true)∧Below wc.heap.size wc w''):=same_yes _ _ (nle l) wc (by have:=HR.out.2.1;rw [HEQ.out] at this;exact this.rdi.ext HW3.out.2.2) HW3.out.2.1.rdi
   have HFIN:=hidIt (HSz.out.ext (ext_trans HR.out.2.2 HW3.out.2.2))
   go_wp2_with (go_at_call 24;refine SM.out.mono ?_;rintro e z9 ⟨rfl,hb⟩;have HB9:=hidIt hb;clear hb;(try dsimp only))
   go_ret
   exact ⟨rfl,(HFIN.out.ext HB9.out).bl⟩
end Go.Proofs.YtjomfbegghgbdaaGreat.P
