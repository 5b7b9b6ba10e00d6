import Derived.Test.YtjomfbegghgbdaaGreatJ00
import Derived.Test.YtjomfbegghgbdaaGreatJ35
import Derived.Test.YtjomfbegghgbdaaGreatJ28
import Derived.Test.YtjomfbegghgbdaaGreatJ29
import Derived.OwnWalk
import Derived.Deep.CutRange
namespace Go.Proofs.YtjomfbegghgbdaaGreat.P
open Go.RowKit
def tyB (A:List Int) (p:Nat) (out:List Int):Int:=if 0 < out.length then out[out.length - 1]?.getD 0 else if 0 < p then A[p - 1]?.getD 0 else 0
def tyM (A:List Int) (p:Nat) (nat:Int) (last:Bool) (out:List Int):Bool:=(decide (nat=1) && decide (tyB A p out=13)) || (decide (nat=3) && (last && decide (A[p]?=some 10)))
def tyW (k:Int):List Int:=if k=1 then [10] else if k=3 then [13] else [13,10]
def tyF (A:List Int) (p:Nat) (nat:Int):List Int→List Int→List Int
 | out,[]=>out
 | out,x :: r=>if x=10 then tyF A p nat (out ++ tyW (if tyM A p nat r.isEmpty out=true then 2 else nat)) r else tyF A p nat (out ++ [x]) r
theorem last_eq2 (l:List Int) (i:Nat) (h:i < l.length):∃ last:Bool,((i:Int) + 1 == (l.length:Int))=last∧last=(l.drop (i + 1)).isEmpty:=by
 by_cases he:i + 1=l.length
 ·refine ⟨true,by simp;omega,?_⟩
  rw [List.drop_of_length_le (by omega)]
  rfl
 ·refine ⟨false,by simp;omega,?_⟩
  cases h8:l.drop (i + 1) with
  | nil=>have:=congrArg List.length h8;rw [List.length_drop] at this;simp at this;omega
  | cons a b=>rfl
theorem tyW_len (k:Int):(tyW k).length≤2:=by unfold tyW;split;simp;split <;> simp
theorem rdi_two (w:World) (x y:Int):∀ j u,([x,y].map (Value.int .i64))[j]?=some u→(w.alloc (.cells #[.int .i64 x,.int .i64 y] 3)).cell? ((⟨w.heap.size,0,none⟩:Addr).add j)=some u:=fun j u hj=>by
 rw [Addr.add_lit,cell_of_row _ _ _ _ _ _ (heap_alloc_new _ _)]
 match j with
 | 0=>simpa using hj
 | 1=>simpa using hj
 | j + 2=>simp at hj
set_option maxRecDepth 100000 in
theorem behindc_any (enc:Int) (w:World) (t:Nat) (A:List Int) (p:Nat) (vo:Value) (out:List Int) (h:Tz enc w t A) (hp:p≤A.length) (ho:Rd .i64 w vo out) :
  Calls Tryz.prog 57 #[.pointer (some ⟨t,0,none⟩),.int .i64 (p:Nat),vo] w fun e w'=>e=.returned (.bool (decide (tyB A p out=13)))∧Below w.heap.size w w':=by
 have hl:=h.len
 have hz:=ho.len
 obtain ⟨ao,co,rfl,ho1,ho2,_⟩:=id ho
 by_cases hn:0 < out.length
 ·have hnI:(0:Int) < (out.length:Int):=by omega
  obtain ⟨b,o,rfl,hbl,ci,_⟩:=rd_at ho (out.length - 1) (by omega)
  have HE:Hid (tyB A p out=out[out.length - 1]?.getD 0):=by unfold Hid tyB;rw [if_pos hn]
  rw [HE.out]
  generalize out[out.length - 1]?.getD 0=x at ci
  have e1:((out.length:Int) - 1)=((out.length - 1:Nat):Int):=by omega
  have hi1:((out.length - 1:Nat):Int) < (out.length:Int):=by omega
  have hw:wrap64 ((out.length:Int) - 1)=((out.length - 1:Nat):Int):=by unfold wrap64;omega
  clear HE ho h
  go_enter Tryz.func57,Tryz.ntmps57
  go_wp2_with fail
  go_ret
  exact ⟨rfl,Below.refl _ _⟩
 ·have hnI:¬ (0:Int) < (out.length:Int):=by omega
  have IS:=hidIt (isAtom_any enc w t A ((p:Int) - 1) 13 h (by omega) (by omega))
  have HE:Hid (isA A ((p:Int) - 1) 13=decide (tyB A p out=13)):=by
   unfold Hid isA tyB
   rw [if_neg hn]
   by_cases hp0:0 < p
   ·rw [if_pos hp0,show ((p:Int) - 1).toNat=p - 1 by omega]
    obtain ⟨x,hx⟩:∃ x,A[p - 1]?=some x:=⟨_,List.getElem?_eq_getElem (by omega)⟩
    rw [hx]
    simp
    omega
   ·rw [if_neg hp0]
    simp
    omega
  rw [← HE.out]
  have hw:wrap64 ((p:Int) - 1)=(p:Int) - 1:=by unfold wrap64;omega
  clear HE ho h
  go_enter Tryz.func57,Tryz.ntmps57
  go_wp2_with (go_at_call 58;refine IS.out.mono ?_;rintro e w2 ⟨rfl,hb⟩;have HB:=hidIt hb;clear hb;(try dsimp only))
  go_ret
  exact ⟨rfl,HB.out⟩
set_option maxRecDepth 100000 in
theorem appbrk_any (base:Nat) (k:Int) (v:Value) (zs:List Int) (w:World) (h:OwnI w base v zs) (hb:base≤w.heap.size) (hl:(zs.length + 2) * 8≤140737488355328) :
  Calls Tryz.prog 59 #[v,.int .i64 k] w fun e w'=>∃ v',e=.returned v'∧OwnI w' base v' (zs ++ tyW k)∧Below base w w':=by
 obtain ⟨ao,co,rfl⟩:=h.form
 have HO:=hidIt h
 clear h
 by_cases h1:k=1
 ·subst h1
  go_enter Tryz.func59,Tryz.ntmps59
  go_wp2_with (at_builtin;refine wpl_ints rfl _ _ 27 rfl base Tryz.info_i64 Tryz.underlying27 (.slice ao zs.length co) zs rfl (HO.out.ext (ext_alloc (Below.refl _ _) _)) [10] (some ⟨w.heap.size,0,none⟩) 1 1 rfl rfl (.inr ⟨_,rfl,rdi_new w _⟩) (by simp;omega) (Nat.le_trans hb (size_alloc_le _ _)) ?_;intro v8 w8 ho8 hb8;have HO8:=hidIt ho8;have HB8:=hidIt (((Below.refl base w).alloc hb _).trans hb8);clear ho8 hb8)
  go_ret
  exact ⟨_,rfl,HO8.out,HB8.out⟩
 by_cases h3:k=3
 ·subst h3
  go_enter Tryz.func59,Tryz.ntmps59
  go_wp2_with (at_builtin;refine wpl_ints rfl _ _ 27 rfl base Tryz.info_i64 Tryz.underlying27 (.slice ao zs.length co) zs rfl (HO.out.ext (ext_alloc (Below.refl _ _) _)) [13] (some ⟨w.heap.size,0,none⟩) 1 1 rfl rfl (.inr ⟨_,rfl,rdi_new w _⟩) (by simp;omega) (Nat.le_trans hb (size_alloc_le _ _)) ?_;intro v8 w8 ho8 hb8;have HO8:=hidIt ho8;have HB8:=hidIt (((Below.refl base w).alloc hb _).trans hb8);clear ho8 hb8)
  go_ret
  exact ⟨_,rfl,HO8.out,HB8.out⟩
 have HE:Hid (tyW k=[13,10]):=by unfold Hid tyW;rw [if_neg h1,if_neg h3]
 have g1:(k == 1)=false:=by simpa using h1
 have g3:(k == 3)=false:=by simpa using h3
 rw [HE.out]
 clear h1 h3 HE
 go_enter Tryz.func59,Tryz.ntmps59
 go_wp2_with (at_builtin;refine wpl_ints rfl _ _ 27 rfl base Tryz.info_i64 Tryz.underlying27 (.slice ao zs.length co) zs rfl (HO.out.ext (ext_alloc (Below.refl _ _) _)) [13,10] (some ⟨w.heap.size,0,none⟩) 2 2 rfl rfl (.inr ⟨_,rfl,rdi_two w _ _⟩) (by simp;omega) (Nat.le_trans hb (size_alloc_le _ _)) ?_;intro v8 w8 ho8 hb8;have HO8:=hidIt ho8;have HB8:=hidIt (((Below.refl base w).alloc hb _).trans hb8);clear ho8 hb8)
 go_ret
 exact ⟨_,rfl,HO8.out,HB8.out⟩
set_option maxRecDepth 100000 in
set_option maxHeartbeats 8000000 in
theorem Typed_good (enc:Int) (w:World) (t:Nat) (A:List Int) (p:Nat) (vl:Value) (l:List Int) (nat:Int) (h:Tz enc w t A) (hp:p≤A.length) (hl:Rd .i64 w vl l) (hnat:nat=1∨nat=2∨nat=3) (hz:l.length * 16 + 16≤140737488355328) :
  Calls Tryz.prog 23 #[.pointer (some ⟨t,0,none⟩),.int .i64 (p:Nat),vl,.int .i64 nat] w fun e w'=>∃ v,e=.returned (.tuple #[v,.int .i64 0])∧OwnI w' w.heap.size v (tyF A p nat [] l)∧Below w.heap.size w w':=by
 have hlA:=h.len
 obtain ⟨i0,hi,hz0,hz1,hz2⟩:=info_parts Tryz.info_i64
 obtain ⟨la,lc,rfl,hl1,hl2,_⟩:=id hl
 have HT:=hidIt h
 have HL:=hidIt hl
 have LN:=hidIt (Len_z enc w t A h)
 have n1:¬ (p:Int) < 0:=by omega
 have n2:¬ (A.length:Int) < (p:Int):=by omega
 have n3:Hid (nat=1∨nat=2∨nat=3):=hnat
 clear h hl
 have HF0:Hid (tyF A p nat [] l=tyF A p nat [] l):=rfl
 generalize hR:tyF A p nat [] l=R at *
 have HR:=hidIt hR
 clear hR HF0
 go_enter Tryz.func23,Tryz.ntmps23
 go_upto_region 1 with fail
 go_cut [24] from 15 to 24 (fun v wF=>v=.bool false∧wF=w)
 case first =>
  rcases hnat with rfl | rfl | rfl
  all_goals
   go_wp2_with fail
   go_meet
   case rel=>exact ⟨rfl,rfl⟩
 case rest =>
  obtain ⟨rfl,hwc⟩:=hcut
  rw [hwc]
  clear hwc
  go_upto_region 5 with (go_at_call 53;refine LN.out.mono ?_;rintro e w1 ⟨rfl,hb⟩;have HB1:=hidIt hb;clear hb LN;(try dsimp only))
  go_upto_region 6 with (at_make;refine wpList_make_own _ rfl _ _ 27 rfl w.heap.size 3 i0 (.int .i64 0) 1 Tryz.underlying27 hi hz0 hz1 _ _ _ l.length rfl rfl rfl (by rw [hz2];omega) (by unfold maxLen;omega) HB1.out.size ?_;intro w2 hrow2 hg2)
  have HO2:Hid (OwnI w2 w.heap.size (.slice (some ⟨w1.heap.size,0,none⟩) 0 l.length) []):=hrow2
  have HB2:Hid (Below w.heap.size w w2):=HB1.out.grown hg2 HB1.out.size (fun k e=>by cases e)
  clear hrow2 hg2
  generalize w1.heap.size=g1 at HO2 ⊢
  go_wp2_with fail
  go_loopw [10,38] (fun ov iv wr=>∃ (i:Nat) (ao:Option Addr) (c:Nat) (out:List Int),i≤l.length∧iv=.int .i64 (i:Nat)∧ov=.slice ao out.length c∧Hid (OwnI wr w.heap.size (.slice ao out.length c) out)∧Hid (out.length≤2 * i)∧Hid (tyF A p nat out (l.drop i)=R)∧Hid (Below w.heap.size w wr)) (fun _ iv _=>l.length - (intOf iv).toNat)
  case atStart=>exact ⟨0,_,_,[],Nat.zero_le _,rfl,rfl,HO2.out,Nat.le_refl _,by rw [List.drop_zero];exact HR.out,HB2.out⟩
  case round =>
   clear HO2 HB2
   obtain ⟨i,ao,c,out,hi9,rfl,rfl,HO,HOL2,HFF,HBW⟩:=hrel
   by_cases hlt:i < l.length
   ·have hltI:(i:Int) < (l.length:Int):=by omega
    obtain ⟨lb,lo,rfl,_,ci,_⟩:=rd_at (HL.out.ext HBW.out) i hlt
    obtain ⟨x,hx⟩:∃ x,l[i]?=some x:=⟨_,List.getElem?_eq_getElem hlt⟩
    rw [hx,Option.getD_some] at ci
    have HDR:Hid (l.drop i=x :: l.drop (i + 1)):=by
     obtain ⟨h1,h2⟩:=List.getElem?_eq_some_iff.1 hx
     unfold Hid
     rw [List.drop_eq_getElem_cons h1,h2]
    rw [HDR.out,tyF] at HFF
    have HOL:Hid ((out.length + 2) * 8≤140737488355328):=by unfold Hid;have:=HOL2.out;omega
    by_cases hx10:x=10
    ·have hxb:(x != 10)=false:=by simpa using hx10
     rw [if_pos hx10] at HFF
     have HF2:=HFF
     clear HFF hx HDR hx10
     obtain ⟨last,hlst,hlast⟩:∃ last:Bool,((i:Int) + 1 == (l.length:Int))=last∧last=(l.drop (i + 1)).isEmpty:=last_eq2 l i hlt
     rw [← hlast] at HF2
     clear hlast
     cases last
     ·go_upto_region 13 with fail
      go_cut [74] from 55 to 74 (fun v wF=>v=.bool (tyM A p nat false out)∧Hid (Below wr.heap.size wr wF))
      case first =>
       clear HF2
       rcases hnat with rfl | rfl | rfl
       ·have BH:=hidIt (behindc_any enc wr t A p (.slice ao out.length c) out (HT.out.ext HBW.out) hp (Rd.of_own HO.out))
        obtain ⟨m9,hm9⟩:∃ m9,m9=decide (tyB A p out=13):=⟨_,rfl⟩
        have HM:Hid (tyM A p 1 false out=m9):=by unfold Hid tyM;rw [hm9];simp
        rw [← hm9] at BH
        clear hm9
        cases m9
        all_goals
         go_wp2_with (go_at_call 57;refine BH.out.mono ?_;rintro e w2 ⟨rfl,hb⟩;have HB2:=hidIt hb;clear hb BH;(try dsimp only))
         go_meet
         case rel=>exact ⟨by rw [HM.out],HB2.out⟩
       ·have HM:Hid (tyM A p 2 false out=false):=by unfold Hid tyM;simp
        go_wp2_with fail
        go_meet
        case rel=>exact ⟨by rw [HM.out],Below.refl _ _⟩
       ·have HM:Hid (tyM A p 3 false out=false):=by unfold Hid tyM;simp
        go_wp2_with fail
        go_meet
        case rel=>exact ⟨by rw [HM.out],Below.refl _ _⟩
      case rest =>
       obtain ⟨rfl,HBC⟩:=hcut
       generalize tyM A p nat false out=M at HF2 ⊢
       cases M
       ·rw [if_neg (by decide)] at HF2
        have AP:=hidIt (fun (y:World) (hy:Below wc.heap.size wc y)=>appbrk_any w.heap.size nat (.slice ao out.length c) out y ((HO.out.ext HBC.out).ext hy) (Nat.le_trans (Nat.le_trans HBW.out.size HBC.out.size) hy.size) (by have:=HOL.out;omega))
        go_wp2_with (go_at_call 59;refine (AP.out _ (Below.refl _ _)).mono ?_;rintro e w3 ⟨v3,rfl,ho3,hb3⟩;obtain ⟨a3,c3,rfl⟩:=ho3.form;(try dsimp only);have HO3:=hidIt ho3;have HB3:=hidIt ((ext_trans HBW.out HBC.out).trans hb3);clear ho3 hb3 AP)
        go_roundw
        case rel=>exact ⟨i + 1,_,_,_,by omega,by go_num,rfl,HO3.out,by unfold Hid;rw [List.length_append];have h8:=tyW_len nat;have h9:=HOL2.out;omega,HF2.out,HB3.out⟩
        case measure=>simp [intOf];omega
       ·rw [if_pos rfl] at HF2
        have AP:=hidIt (fun (y:World) (hy:Below wc.heap.size wc y)=>appbrk_any w.heap.size 2 (.slice ao out.length c) out y ((HO.out.ext HBC.out).ext hy) (Nat.le_trans (Nat.le_trans HBW.out.size HBC.out.size) hy.size) (by have:=HOL.out;omega))
        go_wp2_with (go_at_call 59;refine (AP.out _ (Below.refl _ _)).mono ?_;rintro e w3 ⟨v3,rfl,ho3,hb3⟩;obtain ⟨a3,c3,rfl⟩:=ho3.form;(try dsimp only);have HO3:=hidIt ho3;have HB3:=hidIt ((ext_trans HBW.out HBC.out).trans hb3);clear ho3 hb3 AP)
        go_roundw
        case rel=>exact ⟨i + 1,_,_,_,by omega,by go_num,rfl,HO3.out,by unfold Hid;rw [List.length_append];have h8:=tyW_len 2;have h9:=HOL2.out;omega,HF2.out,HB3.out⟩
        case measure=>simp [intOf];omega
     ·go_upto_region 13 with fail
      go_cut [74] from 55 to 74 (fun v wF=>v=.bool (tyM A p nat true out)∧Hid (Below wr.heap.size wr wF))
      case first =>
       clear HF2
       rcases hnat with rfl | rfl | rfl
       ·have BH:=hidIt (behindc_any enc wr t A p (.slice ao out.length c) out (HT.out.ext HBW.out) hp (Rd.of_own HO.out))
        obtain ⟨m9,hm9⟩:∃ m9,m9=decide (tyB A p out=13):=⟨_,rfl⟩
        have HM:Hid (tyM A p 1 true out=m9):=by unfold Hid tyM;rw [hm9];simp
        rw [← hm9] at BH
        clear hm9
        cases m9
        all_goals
         go_wp2_with (go_at_call 57;refine BH.out.mono ?_;rintro e w2 ⟨rfl,hb⟩;have HB2:=hidIt hb;clear hb BH;(try dsimp only))
         go_meet
         case rel=>exact ⟨by rw [HM.out],HB2.out⟩
       ·have HM:Hid (tyM A p 2 true out=false):=by unfold Hid tyM;simp
        go_wp2_with fail
        go_meet
        case rel=>exact ⟨by rw [HM.out],Below.refl _ _⟩
       ·have IS:=hidIt (isAtom_any enc wr t A (p:Nat) 10 (HT.out.ext HBW.out) (by omega) (by omega))
        obtain ⟨m9,hm9⟩:∃ m9,m9=isA A (p:Nat) 10:=⟨_,rfl⟩
        have HM:Hid (tyM A p 3 true out=m9):=by unfold Hid tyM;rw [hm9];unfold isA;simp
        rw [← hm9] at IS
        clear hm9
        cases m9
        all_goals
         go_wp2_with (go_at_call 58;refine IS.out.mono ?_;rintro e w2 ⟨rfl,hb⟩;have HB2:=hidIt hb;clear hb IS;(try dsimp only))
         go_meet
         case rel=>exact ⟨by rw [HM.out],HB2.out⟩
      case rest =>
       obtain ⟨rfl,HBC⟩:=hcut
       generalize tyM A p nat true out=M at HF2 ⊢
       cases M
       ·rw [if_neg (by decide)] at HF2
        have AP:=hidIt (fun (y:World) (hy:Below wc.heap.size wc y)=>appbrk_any w.heap.size nat (.slice ao out.length c) out y ((HO.out.ext HBC.out).ext hy) (Nat.le_trans (Nat.le_trans HBW.out.size HBC.out.size) hy.size) (by have:=HOL.out;omega))
        go_wp2_with (go_at_call 59;refine (AP.out _ (Below.refl _ _)).mono ?_;rintro e w3 ⟨v3,rfl,ho3,hb3⟩;obtain ⟨a3,c3,rfl⟩:=ho3.form;(try dsimp only);have HO3:=hidIt ho3;have HB3:=hidIt ((ext_trans HBW.out HBC.out).trans hb3);clear ho3 hb3 AP)
        go_roundw
        case rel=>exact ⟨i + 1,_,_,_,by omega,by go_num,rfl,HO3.out,by unfold Hid;rw [List.length_append];have h8:=tyW_len nat;have h9:=HOL2.out;omega,HF2.out,HB3.out⟩
        case measure=>simp [intOf];omega
       ·rw [if_pos rfl] at HF2
        have AP:=hidIt (fun (y:World) (hy:Below wc.heap.size wc y)=>appbrk_any w.heap.size 2 (.slice ao out.length c) out y ((HO.out.ext HBC.out).ext hy) (Nat.le_trans (Nat.le_trans HBW.out.size HBC.out.size) hy.size) (by have:=HOL.out;omega))
        go_wp2_with (go_at_call 59;refine (AP.out _ (Below.refl _ _)).mono ?_;rintro e w3 ⟨v3,rfl,ho3,hb3⟩;obtain ⟨a3,c3,rfl⟩:=ho3.form;(try dsimp only);have HO3:=hidIt ho3;have HB3:=hidIt ((ext_trans HBW.out HBC.out).trans hb3);clear ho3 hb3 AP)
        go_roundw
        case rel=>exact ⟨i + 1,_,_,_,by omega,by go_num,rfl,HO3.out,by unfold Hid;rw [List.length_append];have h8:=tyW_len 2;have h9:=HOL2.out;omega,HF2.out,HB3.out⟩
        case measure=>simp [intOf];omega
    ·have hxb:(x != 10)=true:=by simpa using hx10
     rw [if_neg hx10] at HFF
     have HF2:=HFF
     clear HFF hx HDR hx10
     have HNW:=hidIt (rdi_new wr x)
     have HZ:=hidIt (show w.heap.size≤(wr.alloc (.cells #[.int .i64 x] 3)).heap.size from Nat.le_trans HBW.out.size (size_alloc_le _ _))
     have HOA:=hidIt (HO.out.ext (ext_alloc (Below.refl wr.heap.size wr) (.cells #[.int .i64 x] 3)))
     go_wp2_with (at_builtin;refine wpl_ints rfl _ _ 27 rfl w.heap.size Tryz.info_i64 Tryz.underlying27 (.slice ao out.length c) out rfl HOA.out [x] (some ⟨wr.heap.size,0,none⟩) 1 1 rfl rfl (.inr ⟨_,rfl,HNW.out⟩) (by have:=HOL.out;simp;omega) HZ.out ?_;intro v8 w8 ho8 hb8;obtain ⟨a8,c8,rfl⟩:=ho8.form;have HO8:=hidIt ho8;have HB8:=hidIt ((HBW.out.alloc HBW.out.size _).trans hb8);clear ho8 hb8)
     go_roundw
     case rel=>exact ⟨i + 1,_,_,_,by omega,by go_num,by rw [List.length_append];rfl,HO8.out,by unfold Hid;rw [List.length_append];have h9:=HOL2.out;simp;omega,HF2.out,HB8.out⟩
     case measure=>simp [intOf];omega
   ·obtain rfl:i=l.length:=by omega
    have hge:¬ (l.length:Int) < (l.length:Int):=by omega
    have HE:Hid (out=R):=by have:=HFF.out;rw [List.drop_of_length_le (Nat.le_refl _),tyF] at this;exact this
    go_wp2_with fail
    go_ret2
    exact ⟨_,rfl,by rw [← HE.out];exact HO.out,HBW.out⟩
end Go.Proofs.YtjomfbegghgbdaaGreat.P

namespace Go.Proofs.YtjomfbegghgbdaaGreat.P
open Go.RowKit
def gb (c:Bool):List Int→Int
 | []=>0
 | x :: r=>(if x=13∨(x=10∧c=false) then 1 else 0) + gb (decide (x=13)) r
def gc (c:Bool):List Int→Bool
 | []=>c
 | x :: r=>gc (decide (x=13)) r
theorem gb_app (a b:List Int):∀ c,gb c (a ++ b)=gb c a + gb (gc c a) b:=by
 induction a with
 | nil=>intro c;simp [gb,gc]
 | cons x a ih=>intro c;simp only [List.cons_append,gb,gc,ih];omega
theorem gc_app (a b:List Int):∀ c,gc c (a ++ b)=gc (gc c a) b:=by
 induction a with
 | nil=>intro c;rfl
 | cons x a ih=>intro c;simp only [List.cons_append,gc,ih]
theorem gb_one (c:Bool) (x:Int):gb c [x]=if x=13∨(x=10∧c=false) then 1 else 0:=by simp [gb]
theorem gc_one (c:Bool) (x:Int):gc c [x]=decide (x=13):=rfl
theorem gb_spn (enc:Int) (l:List Int):(spn enc l).b=gb false l∧(spn enc l).cr=gc false l:=by
 suffices h:∀ n (l:List Int),l.length=n→(spn enc l).b=gb false l∧(spn enc l).cr=gc false l from h _ l rfl
 intro n
 induction n with
 | zero=>intro l hl;obtain rfl:=List.length_eq_zero_iff.1 hl;rw [spn_nil];exact ⟨rfl,rfl⟩
 | succ n ih =>
   intro l hl
   obtain ⟨l',x,rfl⟩:∃ l' x,l=l' ++ [x]:=⟨l.dropLast,l.getLast (by intro e;rw [e] at hl;cases hl),(List.dropLast_concat_getLast _).symm⟩
   obtain ⟨h1,h2⟩:=ih l' (by simp at hl;exact hl)
   obtain ⟨k1,k2⟩:=spn_nb enc l' x
   rw [k1,k2,h1,h2,gb_app,gc_app,gb_one,gc_one]
   refine ⟨?_,rfl⟩
   unfold nb
   by_cases e10:x=10
   ·subst e10
    cases gc false l' <;> simp <;> omega
   ·by_cases e13:x=13
    ·subst e13;simp
    ·simp [e10,e13]
theorem gb_head (l:List Int) (h:l[0]?≠some 10) (c:Bool):gb c l=gb false l:=by
 cases l with
 | nil=>rfl
 | cons x r =>
   have hx:x≠10:=fun e=>h (by rw [e];rfl)
   simp [gb,hx]
theorem gc_last (out:List Int) (c:Bool) (h:0 < out.length):gc c out=decide (out[out.length - 1]?.getD 0=13):=by
 obtain ⟨l',x,rfl⟩:∃ l' x,out=l' ++ [x]:=⟨out.dropLast,out.getLast (by intro e;rw [e] at h;cases h),(List.dropLast_concat_getLast _).symm⟩
 rw [gc_app,gc_one]
 simp
def gz (A:List Int) (p:Nat):Bool:=decide ((if 0 < p then A[p - 1]?.getD 0 else 0)=13)
theorem tyB_gc (A:List Int) (p:Nat) (out:List Int):decide (tyB A p out=13)=gc (gz A p) out:=by
 unfold tyB
 by_cases h:0 < out.length
 ·rw [if_pos h,gc_last out _ h]
 ·rw [if_neg h]
  obtain rfl:out=[]:=List.length_eq_zero_iff.1 (by omega)
  rfl
theorem gz_take (A:List Int) (p:Nat) (hp:p≤A.length):gc false (A.take p)=gz A p:=by
 unfold gz
 by_cases h:0 < p
 ·rw [if_pos h,gc_last _ _ (by rw [List.length_take];omega),List.length_take,Nat.min_eq_left hp,List.getElem?_take,if_pos (by omega)]
 ·rw [if_neg h]
  obtain rfl:p=0:=by omega
  rfl
def g10:List Int→Nat
 | []=>0
 | x :: r=>(if x=10 then 1 else 0) + g10 r
theorem gb_two (c:Bool):gb c [13,10]=1:=by simp [gb]
theorem tyF_gb (A:List Int) (p:Nat) (nat:Int) (hn:nat=1∨nat=2∨nat=3):∀ (l out:List Int),(∀ x ∈ l,x≠13)→gb (gz A p) (tyF A p nat out l)=gb (gz A p) out + g10 l:=by
 intro l
 induction l with
 | nil=>intro out _;simp [tyF,g10]
 | cons x r ih =>
   intro out h
   have h13:x≠13:=h x List.mem_cons_self
   have hr:∀ x ∈ r,x≠13:=fun y hy=>h y (List.mem_cons_of_mem _ hy)
   rw [tyF]
   by_cases e10:x=10
   ·rw [if_pos e10,ih _ hr,gb_app,g10,if_pos e10]
    have key:gb (gc (gz A p) out) (tyW (if tyM A p nat r.isEmpty out=true then 2 else nat))=1:=by
     by_cases hm:tyM A p nat r.isEmpty out=true
     ·rw [if_pos hm];exact gb_two _
     ·rw [if_neg hm]
      rcases hn with rfl | rfl | rfl
      ·have h7:gc (gz A p) out=false:=by
        rw [← tyB_gc]
        unfold tyM at hm
        simpa using hm
       rw [h7];rfl
      ·exact gb_two _
      ·simp [tyW,gb]
    rw [key]
    omega
   ·rw [if_neg e10,ih _ hr,gb_app,gb_one,if_neg (by omega),g10,if_neg e10]
    omega
theorem tyF_gc (A:List Int) (p:Nat) (nat:Int) (hn:nat=1∨nat=2∨nat=3):∀ (l out:List Int),l≠[]→(∀ x ∈ l,x≠13)→gc (gz A p) (tyF A p nat out l)=true→A[p]?≠some 10:=by
 intro l
 induction l with
 | nil=>intro out h;exact absurd rfl h
 | cons x r ih =>
   intro out _ h
   have h13:x≠13:=h x List.mem_cons_self
   have hr:∀ x ∈ r,x≠13:=fun y hy=>h y (List.mem_cons_of_mem _ hy)
   rw [tyF]
   by_cases hrn:r=[]
   ·subst hrn
    by_cases e10:x=10
    ·rw [if_pos e10,tyF]
     by_cases hm:tyM A p nat ([]:List Int).isEmpty out=true
     ·rw [if_pos hm,gc_app]
      intro h;simp [tyW,gc] at h
     ·rw [if_neg hm,gc_app]
      rcases hn with rfl | rfl | rfl
      ·intro h;simp [tyW,gc] at h
      ·intro h;simp [tyW,gc] at h
      ·intro _
       unfold tyM at hm
       simpa using hm
    ·rw [if_neg e10,tyF,gc_app,gc_one]
     intro h;simp at h;exact absurd h h13
   ·split
    ·exact ih _ hrn hr
    ·exact ih _ hrn hr
theorem grow_b (enc:Int) (A:List Int) (p:Nat) (nat:Int) (l:List Int) (hp:p≤A.length) (hn:nat=1∨nat=2∨nat=3) (hl:∀ x ∈ l,x≠13) (hne:¬ (0 < p∧A[p - 1]?=some 13∧A[p]?=some 10)) :
  (spn enc (spl A p p (tyF A p nat [] l))).b=(spn enc A).b + g10 l:=by
 rw [(gb_spn enc _).1,(gb_spn enc A).1]
 unfold spl
 have eA:gb false A=gb false (A.take p) + gb (gz A p) (A.drop p):=by
  conv=>lhs;rw [← List.take_append_drop p A]
  rw [gb_app,gz_take A p hp]
 have hd:(A.drop p)[0]?=A[p]?:=by rw [List.getElem?_drop,Nat.add_zero]
 rw [gb_app,gb_app,gc_app,gz_take A p hp,tyF_gb A p nat hn l [] hl,eA]
 by_cases hn0:l=[]
 ·subst hn0
  simp [tyF,gb,gc,g10]
 ·have e1:gb (gc (gz A p) (tyF A p nat [] l)) (A.drop p)=gb false (A.drop p):=by
   cases hg:gc (gz A p) (tyF A p nat [] l) with
   | false=>rfl
   | true=>exact gb_head _ (by rw [hd];exact tyF_gc A p nat hn l [] hn0 hl hg) true
  have e2:gb (gz A p) (A.drop p)=gb false (A.drop p):=by
   cases hg:gz A p with
   | false=>rfl
   | true =>
     refine gb_head _ (fun e=>hne ?_) true
     rw [hd] at e
     unfold gz at hg
     by_cases h0:0 < p
     ·rw [if_pos h0] at hg
      refine ⟨h0,?_,e⟩
      rw [List.getElem?_eq_getElem (by omega)] at hg ⊢
      simpa using hg
     ·rw [if_neg h0] at hg;simp at hg
  rw [e1,e2]
  simp only [gb]
  omega
def nle (l:List Int):List Int:=l.filter fun x=>x != 10 && x != 13
theorem nle_app (a b:List Int):nle (a ++ b)=nle a ++ nle b:=List.filter_append ..
theorem nle_W (k:Int):nle (tyW k)=[]:=by unfold tyW;split;rfl;split <;> rfl
theorem tyF_nle (A:List Int) (p:Nat) (nat:Int):∀ (l out:List Int),nle (tyF A p nat out l)=nle out ++ nle l:=by
 intro l
 induction l with
 | nil=>intro out;simp [tyF,nle]
 | cons x r ih =>
   intro out
   rw [tyF]
   by_cases e10:x=10
   ·rw [if_pos e10,ih,nle_app,nle_W,List.append_nil]
    subst e10
    rfl
   ·rw [if_neg e10,ih,nle_app,List.append_assoc,← nle_app]
    rfl
theorem tyF_len (A:List Int) (p:Nat) (nat:Int):∀ (l out:List Int),out.length + l.length≤(tyF A p nat out l).length∧(tyF A p nat out l).length≤out.length + 2 * l.length:=by
 intro l
 induction l with
 | nil=>intro out;simp [tyF]
 | cons x r ih =>
   intro out
   rw [tyF]
   have hw:∀ k,1≤(tyW k).length∧(tyW k).length≤2:=fun k=>by unfold tyW;split;simp;split <;> simp
   split
   ·have:=ih (out ++ tyW (if tyM A p nat r.isEmpty out=true then 2 else nat))
    have h2:=hw (if tyM A p nat r.isEmpty out=true then 2 else nat)
    rw [List.length_append] at this
    rw [List.length_cons]
    omega
   ·have:=ih (out ++ [x])
    rw [List.length_append,List.length_singleton] at this
    rw [List.length_cons]
    omega
theorem pln_W (k:Int):∀ x ∈ tyW k,Pln x:=by
 intro x hx
 unfold tyW at hx
 unfold Pln
 split at hx
 ·simp at hx;exact .inl hx
 ·split at hx
  ·simp at hx;exact .inr (.inl hx)
  ·simp at hx;omega
theorem tyF_pln (A:List Int) (p:Nat) (nat:Int):∀ (l out:List Int),(∀ x ∈ l,Pln x)→(∀ x ∈ out,Pln x)→∀ x ∈ tyF A p nat out l,Pln x:=by
 intro l
 induction l with
 | nil=>intro out _ h;exact h
 | cons x r ih =>
   intro out h ho
   rw [tyF]
   have hr:∀ x ∈ r,Pln x:=fun y hy=>h y (List.mem_cons_of_mem _ hy)
   split
   ·exact ih _ hr (fun y hy=>(List.mem_append.1 hy).elim (ho y) (pln_W _ y))
   ·exact ih _ hr (fun y hy=>(List.mem_append.1 hy).elim (ho y) (fun e=>by rw [List.mem_singleton.1 e];exact h x List.mem_cons_self))
end Go.Proofs.YtjomfbegghgbdaaGreat.P
