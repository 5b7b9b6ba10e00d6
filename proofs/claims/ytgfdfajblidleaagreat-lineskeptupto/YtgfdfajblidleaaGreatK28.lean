import Derived.Test.YtgfdfajblidleaaGreatK26
import Derived.OwnWalk
import Derived.Deep.CutRange
set_option maxRecDepth 100000
namespace Go.Proofs.YtgfdfajblidleaaGreat.P
open Go.RowKit
def tyB (A:List Int) (p:Nat) (out:List Int):Int:=if 0 < out.length then out[out.length - 1]?.getD 0 else if 0 < p then A[p - 1]?.getD 0 else 0
def tyM (A:List Int) (p:Nat) (nat:Int) (last:Bool) (out:List Int):Bool:=(decide (nat=1) && decide (tyB A p out=13)) || (decide (nat=3) && (last && decide (A[p]?=some 10)))
def tyW (k:Int):List Int:=if k=1 then [10] else if k=3 then [13] else [13,10]
def tyF (A:List Int) (p:Nat) (nat:Int):List Int→List Int→List Int
 | out,[]=>out
 | out,x :: r=>if x=10 then tyF A p nat (out ++ tyW (if tyM A p nat r.isEmpty out=true then 2 else nat)) r else tyF A p nat (out ++ [x]) r
theorem last_eq2 (l:List Int) (i:Nat) (h:i < l.length):∃ last:Bool,((i:Int) + 1 == (l.length:Int))=last∧last=(l.drop (i + 1)).isEmpty:=by
 by_cases he:i + 1=l.length
 ·refine ⟨true,by simp;omega,?_⟩
  rw [List.drop_of_length_le (by omega)]
  rfl
 ·refine ⟨false,by simp;omega,?_⟩
  cases h8:l.drop (i + 1) with
  | nil=>have:=congrArg List.length h8;rw [List.length_drop] at this;simp at this;omega
  | cons a b=>rfl
theorem tyW_len (k:Int):(tyW k).length≤2:=by unfold tyW;split;simp;split <;> simp
theorem rdi_two (w:World) (x y:Int):∀ j u,([x,y].map (Value.int .i64))[j]?=some u→(w.alloc (.cells #[.int .i64 x,.int .i64 y] 3)).cell? ((⟨w.heap.size,0,none⟩:Addr).add j)=some u:=fun j u hj=>by
 rw [Addr.add_lit,cell_of_row _ _ _ _ _ _ (heap_alloc_new _ _)]
 match j with
 | 0=>simpa using hj
 | 1=>simpa using hj
 | j + 2=>simp at hj
theorem behindc_any (enc:Int) (w:World) (t:Nat) (A:List Int) (p:Nat) (vo:Value) (out:List Int) (h:Tz enc w t A) (hp:p≤A.length) (ho:Rd .i64 w vo out) :
  Calls Tryz.prog 36 #[.pointer (some ⟨t,0,none⟩),.int .i64 (p:Nat),vo] w fun e w'=>e=.returned (.bool (decide (tyB A p out=13)))∧Below w.heap.size w w':=by
 have hl:=h.len
 have hz:=ho.len
 obtain ⟨ao,co,rfl,ho1,ho2,_⟩:=id ho
 by_cases hn:0 < out.length
 ·have hnI:(0:Int) < (out.length:Int):=by omega
  obtain ⟨b,o,rfl,hbl,ci,_⟩:=rd_at ho (out.length - 1) (by omega)
  have HE:Hid (tyB A p out=out[out.length - 1]?.getD 0):=by unfold Hid tyB;rw [if_pos hn]
  rw [HE.out]
  generalize out[out.length - 1]?.getD 0=x at ci
  have e1:((out.length:Int) - 1)=((out.length - 1:Nat):Int):=by omega
  have hi1:((out.length - 1:Nat):Int) < (out.length:Int):=by omega
  have hw:wrap64 ((out.length:Int) - 1)=((out.length - 1:Nat):Int):=by unfold wrap64;omega
  clear HE ho h
  go_enter Tryz.func36,Tryz.ntmps36
  go_wp2_with fail
  go_ret
  exact ⟨rfl,Below.refl _ _⟩
 ·have hnI:¬ (0:Int) < (out.length:Int):=by omega
  have IS:=zh (isAtom_any enc w t A ((p:Int) - 1) 13 h (by omega) (by omega))
  have HE:Hid (isA A ((p:Int) - 1) 13=decide (tyB A p out=13)):=by
   unfold Hid isA tyB
   rw [if_neg hn]
   by_cases hp0:0 < p
   ·rw [if_pos hp0,show ((p:Int) - 1).toNat=p - 1 by omega]
    obtain ⟨x,hx⟩:∃ x,A[p - 1]?=some x:=⟨_,List.getElem?_eq_getElem (by omega)⟩
    rw [hx]
    simp
    omega
   ·rw [if_neg hp0]
    simp
    omega
  rw [← HE.out]
  have hw:wrap64 ((p:Int) - 1)=(p:Int) - 1:=by unfold wrap64;omega
  clear HE ho h
  go_enter Tryz.func36,Tryz.ntmps36
  go_wp2_with (go_at_call 37;refine IS.out.mono ?_;rintro e w2 ⟨rfl,hb⟩;have HB:=zh hb;clear hb;(try dsimp only))
  go_ret
  exact ⟨rfl,HB.out⟩
theorem appbrk_any (base:Nat) (k:Int) (v:Value) (zs:List Int) (w:World) (h:OwnI w base v zs) (hb:base≤w.heap.size) (hl:(zs.length + 2) * 8≤140737488355328) :
  Calls Tryz.prog 38 #[v,.int .i64 k] w fun e w'=>∃ v',e=.returned v'∧OwnI w' base v' (zs ++ tyW k)∧Below base w w':=by
 obtain ⟨ao,co,rfl⟩:=h.form
 have HO:=zh h
 clear h
 by_cases h1:k=1
 ·subst h1
  go_enter Tryz.func38,Tryz.ntmps38
  go_wp2_with (at_builtin;refine wpl_ints rfl _ _ 27 rfl base Tryz.info_i64 Tryz.underlying27 (.slice ao zs.length co) zs rfl (HO.out.ext (zxa (Below.refl _ _) _)) [10] (some ⟨w.heap.size,0,none⟩) 1 1 rfl rfl (.inr ⟨_,rfl,rdi_new w _⟩) (by simp;omega) (Nat.le_trans hb (size_alloc_le _ _)) ?_;intro v8 w8 ho8 hb8;have HO8:=zh ho8;have HB8:=zh (((Below.refl base w).alloc hb _).trans hb8);clear ho8 hb8)
  go_ret
  exact ⟨_,rfl,HO8.out,HB8.out⟩
 by_cases h3:k=3
 ·subst h3
  go_enter Tryz.func38,Tryz.ntmps38
  go_wp2_with (at_builtin;refine wpl_ints rfl _ _ 27 rfl base Tryz.info_i64 Tryz.underlying27 (.slice ao zs.length co) zs rfl (HO.out.ext (zxa (Below.refl _ _) _)) [13] (some ⟨w.heap.size,0,none⟩) 1 1 rfl rfl (.inr ⟨_,rfl,rdi_new w _⟩) (by simp;omega) (Nat.le_trans hb (size_alloc_le _ _)) ?_;intro v8 w8 ho8 hb8;have HO8:=zh ho8;have HB8:=zh (((Below.refl base w).alloc hb _).trans hb8);clear ho8 hb8)
  go_ret
  exact ⟨_,rfl,HO8.out,HB8.out⟩
 have HE:Hid (tyW k=[13,10]):=by unfold Hid tyW;rw [if_neg h1,if_neg h3]
 have g1:(k == 1)=false:=by simpa using h1
 have g3:(k == 3)=false:=by simpa using h3
 rw [HE.out]
 clear h1 h3 HE
 go_enter Tryz.func38,Tryz.ntmps38
 go_wp2_with (at_builtin;refine wpl_ints rfl _ _ 27 rfl base Tryz.info_i64 Tryz.underlying27 (.slice ao zs.length co) zs rfl (HO.out.ext (zxa (Below.refl _ _) _)) [13,10] (some ⟨w.heap.size,0,none⟩) 2 2 rfl rfl (.inr ⟨_,rfl,rdi_two w _ _⟩) (by simp;omega) (Nat.le_trans hb (size_alloc_le _ _)) ?_;intro v8 w8 ho8 hb8;have HO8:=zh ho8;have HB8:=zh (((Below.refl base w).alloc hb _).trans hb8);clear ho8 hb8)
 go_ret
 exact ⟨_,rfl,HO8.out,HB8.out⟩
set_option maxHeartbeats 8000000 in
theorem Typed_good (enc:Int) (w:World) (t:Nat) (A:List Int) (p:Nat) (vl:Value) (l:List Int) (nat:Int) (h:Tz enc w t A) (hp:p≤A.length) (hl:Rd .i64 w vl l) (hnat:nat=1∨nat=2∨nat=3) (hz:l.length * 16 + 16≤140737488355328) :
  Calls Tryz.prog 10 #[.pointer (some ⟨t,0,none⟩),.int .i64 (p:Nat),vl,.int .i64 nat] w fun e w'=>∃ v,e=.returned (.tuple #[v,.int .i64 0])∧OwnI w' w.heap.size v (tyF A p nat [] l)∧Below w.heap.size w w':=by
 have hlA:=h.len
 obtain ⟨i0,hi,hz0,hz1,hz2⟩:=info_parts Tryz.info_i64
 obtain ⟨la,lc,rfl,hl1,hl2,_⟩:=id hl
 have HT:=zh h
 have HL:=zh hl
 have LN:=zh (Len_z enc w t A h)
 have n1:¬ (p:Int) < 0:=by omega
 have n2:¬ (A.length:Int) < (p:Int):=by omega
 have n3:Hid (nat=1∨nat=2∨nat=3):=hnat
 clear h hl
 have HF0:Hid (tyF A p nat [] l=tyF A p nat [] l):=rfl
 generalize hR:tyF A p nat [] l=R at *
 have HR:=zh hR
 clear hR HF0
 go_enter Tryz.func10,Tryz.ntmps10
 go_upto_region 1 with fail
 go_cut [24] from 15 to 24 (fun v wF=>v=.bool false∧wF=w)
 case first =>
  rcases hnat with rfl | rfl | rfl
  all_goals
   go_wp2_with fail
   go_meet
   case rel=>exact ⟨rfl,rfl⟩
 case rest =>
  obtain ⟨rfl,hwc⟩:=hcut
  rw [hwc]
  clear hwc
  go_upto_region 5 with (go_at_call 32;refine LN.out.mono ?_;rintro e w1 ⟨rfl,hb⟩;have HB1:=zh hb;clear hb LN;(try dsimp only))
  go_upto_region 6 with (at_make;refine wpList_make_own _ rfl _ _ 27 rfl w.heap.size 3 i0 (.int .i64 0) 1 Tryz.underlying27 hi hz0 hz1 _ _ _ l.length rfl rfl rfl (by rw [hz2];omega) (by unfold maxLen;omega) HB1.out.size ?_;intro w2 hrow2 hg2)
  have HO2:Hid (OwnI w2 w.heap.size (.slice (some ⟨w1.heap.size,0,none⟩) 0 l.length) []):=hrow2
  have HB2:Hid (Below w.heap.size w w2):=HB1.out.grown hg2 HB1.out.size (fun k e=>by cases e)
  clear hrow2 hg2
  generalize w1.heap.size=g1 at HO2 ⊢
  go_wp2_with fail
  go_loopw [10,38] (fun ov iv wr=>∃ (i:Nat) (ao:Option Addr) (c:Nat) (out:List Int),i≤l.length∧iv=.int .i64 (i:Nat)∧ov=.slice ao out.length c∧Hid (OwnI wr w.heap.size (.slice ao out.length c) out)∧Hid (out.length≤2 * i)∧Hid (tyF A p nat out (l.drop i)=R)∧Hid (Below w.heap.size w wr)) (fun _ iv _=>l.length - (intOf iv).toNat)
  case atStart=>exact ⟨0,_,_,[],Nat.zero_le _,rfl,rfl,HO2.out,Nat.le_refl _,by rw [List.drop_zero];exact HR.out,HB2.out⟩
  case round =>
   clear HO2 HB2
   obtain ⟨i,ao,c,out,hi9,rfl,rfl,HO,HOL2,HFF,HBW⟩:=hrel
   by_cases hlt:i < l.length
   ·have hltI:(i:Int) < (l.length:Int):=by omega
    obtain ⟨lb,lo,rfl,_,ci,_⟩:=rd_at (HL.out.ext HBW.out) i hlt
    obtain ⟨x,hx⟩:∃ x,l[i]?=some x:=⟨_,List.getElem?_eq_getElem hlt⟩
    rw [hx,Option.getD_some] at ci
    have HDR:Hid (l.drop i=x :: l.drop (i + 1)):=by
     obtain ⟨h1,h2⟩:=List.getElem?_eq_some_iff.1 hx
     unfold Hid
     rw [List.drop_eq_getElem_cons h1,h2]
    rw [HDR.out,tyF] at HFF
    have HOL:Hid ((out.length + 2) * 8≤140737488355328):=by unfold Hid;have:=HOL2.out;omega
    by_cases hx10:x=10
    ·have hxb:(x != 10)=false:=by simpa using hx10
     rw [if_pos hx10] at HFF
     have HF2:=HFF
     clear HFF hx HDR hx10
     obtain ⟨last,hlst,hlast⟩:∃ last:Bool,((i:Int) + 1 == (l.length:Int))=last∧last=(l.drop (i + 1)).isEmpty:=last_eq2 l i hlt
     rw [← hlast] at HF2
     clear hlast
     cases last
     ·go_upto_region 13 with fail
      go_cut [74] from 55 to 74 (fun v wF=>v=.bool (tyM A p nat false out)∧Hid (Below wr.heap.size wr wF))
      case first =>
       clear HF2
       rcases hnat with rfl | rfl | rfl
       ·have BH:=zh (behindc_any enc wr t A p (.slice ao out.length c) out (HT.out.ext HBW.out) hp (Rd.of_own HO.out))
        obtain ⟨m9,hm9⟩:∃ m9,m9=decide (tyB A p out=13):=⟨_,rfl⟩
        have HM:Hid (tyM A p 1 false out=m9):=by unfold Hid tyM;rw [hm9];simp
        rw [← hm9] at BH
        clear hm9
        cases m9
        all_goals
         go_wp2_with (go_at_call 36;refine BH.out.mono ?_;rintro e w2 ⟨rfl,hb⟩;have HB2:=zh hb;clear hb BH;(try dsimp only))
         go_meet
         case rel=>exact ⟨by rw [HM.out],HB2.out⟩
       ·have HM:Hid (tyM A p 2 false out=false):=by unfold Hid tyM;simp
        go_wp2_with fail
        go_meet
        case rel=>exact ⟨by rw [HM.out],Below.refl _ _⟩
       ·have HM:Hid (tyM A p 3 false out=false):=by unfold Hid tyM;simp
        go_wp2_with fail
        go_meet
        case rel=>exact ⟨by rw [HM.out],Below.refl _ _⟩
      case rest =>
       obtain ⟨rfl,HBC⟩:=hcut
       generalize tyM A p nat false out=M at HF2 ⊢
       cases M
       ·rw [if_neg (by decide)] at HF2
        have AP:=zh (fun (y:World) (hy:Below wc.heap.size wc y)=>appbrk_any w.heap.size nat (.slice ao out.length c) out y ((HO.out.ext HBC.out).ext hy) (Nat.le_trans (Nat.le_trans HBW.out.size HBC.out.size) hy.size) (by have:=HOL.out;omega))
        go_wp2_with (go_at_call 38;refine (AP.out _ (Below.refl _ _)).mono ?_;rintro e w3 ⟨v3,rfl,ho3,hb3⟩;obtain ⟨a3,c3,rfl⟩:=ho3.form;(try dsimp only);have HO3:=zh ho3;have HB3:=zh ((zxt HBW.out HBC.out).trans hb3);clear ho3 hb3 AP)
        go_roundw
        case rel=>exact ⟨i + 1,_,_,_,by omega,by go_num,rfl,HO3.out,by unfold Hid;rw [List.length_append];have h8:=tyW_len nat;have h9:=HOL2.out;omega,HF2.out,HB3.out⟩
        case measure=>simp [intOf];omega
       ·rw [if_pos rfl] at HF2
        have AP:=zh (fun (y:World) (hy:Below wc.heap.size wc y)=>appbrk_any w.heap.size 2 (.slice ao out.length c) out y ((HO.out.ext HBC.out).ext hy) (Nat.le_trans (Nat.le_trans HBW.out.size HBC.out.size) hy.size) (by have:=HOL.out;omega))
        go_wp2_with (go_at_call 38;refine (AP.out _ (Below.refl _ _)).mono ?_;rintro e w3 ⟨v3,rfl,ho3,hb3⟩;obtain ⟨a3,c3,rfl⟩:=ho3.form;(try dsimp only);have HO3:=zh ho3;have HB3:=zh ((zxt HBW.out HBC.out).trans hb3);clear ho3 hb3 AP)
        go_roundw
        case rel=>exact ⟨i + 1,_,_,_,by omega,by go_num,rfl,HO3.out,by unfold Hid;rw [List.length_append];have h8:=tyW_len 2;have h9:=HOL2.out;omega,HF2.out,HB3.out⟩
        case measure=>simp [intOf];omega
     ·go_upto_region 13 with fail
      go_cut [74] from 55 to 74 (fun v wF=>v=.bool (tyM A p nat true out)∧Hid (Below wr.heap.size wr wF))
      case first =>
       clear HF2
       rcases hnat with rfl | rfl | rfl
       ·have BH:=zh (behindc_any enc wr t A p (.slice ao out.length c) out (HT.out.ext HBW.out) hp (Rd.of_own HO.out))
        obtain ⟨m9,hm9⟩:∃ m9,m9=decide (tyB A p out=13):=⟨_,rfl⟩
        have HM:Hid (tyM A p 1 true out=m9):=by unfold Hid tyM;rw [hm9];simp
        rw [← hm9] at BH
        clear hm9
        cases m9
        all_goals
         go_wp2_with (go_at_call 36;refine BH.out.mono ?_;rintro e w2 ⟨rfl,hb⟩;have HB2:=zh hb;clear hb BH;(try dsimp only))
         go_meet
         case rel=>exact ⟨by rw [HM.out],HB2.out⟩
       ·have HM:Hid (tyM A p 2 true out=false):=by unfold Hid tyM;simp
        go_wp2_with fail
        go_meet
        case rel=>exact ⟨by rw [HM.out],Below.refl _ _⟩
       ·have IS:=zh (isAtom_any enc wr t A (p:Nat) 10 (HT.out.ext HBW.out) (by omega) (by omega))
        obtain ⟨m9,hm9⟩:∃ m9,m9=isA A (p:Nat) 10:=⟨_,rfl⟩
        have HM:Hid (tyM A p 3 true out=m9):=by unfold Hid tyM;rw [hm9];unfold isA;simp
        rw [← hm9] at IS
        clear hm9
        cases m9
        all_goals
         go_wp2_with (go_at_call 37;refine IS.out.mono ?_;rintro e w2 ⟨rfl,hb⟩;have HB2:=zh hb;clear hb IS;(try dsimp only))
         go_meet
         case rel=>exact ⟨by rw [HM.out],HB2.out⟩
      case rest =>
       obtain ⟨rfl,HBC⟩:=hcut
       generalize tyM A p nat true out=M at HF2 ⊢
       cases M
       ·rw [if_neg (by decide)] at HF2
        have AP:=zh (fun (y:World) (hy:Below wc.heap.size wc y)=>appbrk_any w.heap.size nat (.slice ao out.length c) out y ((HO.out.ext HBC.out).ext hy) (Nat.le_trans (Nat.le_trans HBW.out.size HBC.out.size) hy.size) (by have:=HOL.out;omega))
        go_wp2_with (go_at_call 38;refine (AP.out _ (Below.refl _ _)).mono ?_;rintro e w3 ⟨v3,rfl,ho3,hb3⟩;obtain ⟨a3,c3,rfl⟩:=ho3.form;(try dsimp only);have HO3:=zh ho3;have HB3:=zh ((zxt HBW.out HBC.out).trans hb3);clear ho3 hb3 AP)
        go_roundw
        case rel=>exact ⟨i + 1,_,_,_,by omega,by go_num,rfl,HO3.out,by unfold Hid;rw [List.length_append];have h8:=tyW_len nat;have h9:=HOL2.out;omega,HF2.out,HB3.out⟩
        case measure=>simp [intOf];omega
       ·rw [if_pos rfl] at HF2
        have AP:=zh (fun (y:World) (hy:Below wc.heap.size wc y)=>appbrk_any w.heap.size 2 (.slice ao out.length c) out y ((HO.out.ext HBC.out).ext hy) (Nat.le_trans (Nat.le_trans HBW.out.size HBC.out.size) hy.size) (by have:=HOL.out;omega))
        go_wp2_with (go_at_call 38;refine (AP.out _ (Below.refl _ _)).mono ?_;rintro e w3 ⟨v3,rfl,ho3,hb3⟩;obtain ⟨a3,c3,rfl⟩:=ho3.form;(try dsimp only);have HO3:=zh ho3;have HB3:=zh ((zxt HBW.out HBC.out).trans hb3);clear ho3 hb3 AP)
        go_roundw
        case rel=>exact ⟨i + 1,_,_,_,by omega,by go_num,rfl,HO3.out,by unfold Hid;rw [List.length_append];have h8:=tyW_len 2;have h9:=HOL2.out;omega,HF2.out,HB3.out⟩
        case measure=>simp [intOf];omega
    ·have hxb:(x != 10)=true:=by simpa using hx10
     rw [if_neg hx10] at HFF
     have HF2:=HFF
     clear HFF hx HDR hx10
     have HNW:=zh (rdi_new wr x)
     have HZ:=zh (show w.heap.size≤(wr.alloc (.cells #[.int .i64 x] 3)).heap.size from Nat.le_trans HBW.out.size (size_alloc_le _ _))
     have HOA:=zh (HO.out.ext (zxa (Below.refl wr.heap.size wr) (.cells #[.int .i64 x] 3)))
     go_wp2_with (at_builtin;refine wpl_ints rfl _ _ 27 rfl w.heap.size Tryz.info_i64 Tryz.underlying27 (.slice ao out.length c) out rfl HOA.out [x] (some ⟨wr.heap.size,0,none⟩) 1 1 rfl rfl (.inr ⟨_,rfl,HNW.out⟩) (by have:=HOL.out;simp;omega) HZ.out ?_;intro v8 w8 ho8 hb8;obtain ⟨a8,c8,rfl⟩:=ho8.form;have HO8:=zh ho8;have HB8:=zh ((HBW.out.alloc HBW.out.size _).trans hb8);clear ho8 hb8)
     go_roundw
     case rel=>exact ⟨i + 1,_,_,_,by omega,by go_num,by rw [List.length_append];rfl,HO8.out,by unfold Hid;rw [List.length_append];have h9:=HOL2.out;simp;omega,HF2.out,HB8.out⟩
     case measure=>simp [intOf];omega
   ·obtain rfl:i=l.length:=by omega
    have hge:¬ (l.length:Int) < (l.length:Int):=by omega
    have HE:Hid (out=R):=by have:=HFF.out;rw [List.drop_of_length_le (Nat.le_refl _),tyF] at this;exact this
    go_wp2_with fail
    go_ret2
    exact ⟨_,rfl,by rw [← HE.out];exact HO.out,HBW.out⟩
open Go.RowKit
open Go.RowKit
theorem tyF_len (A:List Int) (p:Nat) (nat:Int):∀ (l out:List Int),out.length + l.length≤(tyF A p nat out l).length∧(tyF A p nat out l).length≤out.length + 2 * l.length:=by
 intro l
 induction l with
 | nil=>intro out;simp [tyF]
 | cons x r ih =>
   intro out
   rw [tyF]
   have hw:∀ k,1≤(tyW k).length∧(tyW k).length≤2:=fun k=>by unfold tyW;split;simp;split <;> simp
   split
   ·have:=ih (out ++ tyW (if tyM A p nat r.isEmpty out=true then 2 else nat))
    have h2:=hw (if tyM A p nat r.isEmpty out=true then 2 else nat)
    rw [List.length_append] at this
    rw [List.length_cons]
    omega
   ·have:=ih (out ++ [x])
    rw [List.length_append,List.length_singleton] at this
    rw [List.length_cons]
    omega
open Go.RowKit
def tyE (A:List Int) (p nat:Int):Int:=if nat < 1∨3 < nat then 1 else if p < 0∨(A.length:Int) < p then 2 else 0
def tyL (A:List Int) (p nat:Int) (l:List Int):List Int:=if tyE A p nat=0 then tyF A p.toNat nat [] l else []
theorem tyE_zero {A:List Int} {p nat:Int} (h:tyE A p nat=0):(nat=1∨nat=2∨nat=3)∧∃ q:Nat,p=q∧q≤A.length:=by
 unfold tyE at h
 by_cases h1:nat < 1∨3 < nat
 ·rw [if_pos h1] at h;omega
 ·rw [if_neg h1] at h
  by_cases h2:p < 0∨(A.length:Int) < p
  ·rw [if_pos h2] at h;omega
  ·exact ⟨by omega,p.toNat,by omega,by omega⟩
theorem rahead_any (w:World) (va:Value) (A:List Int) (p:Nat) (vo:Value) (out:List Int) (hA:Rd .i64 w va A) (hp:p≤A.length) (ho:Rd .i64 w vo out) :
  Calls Tryz.prog 39 #[va,.int .i64 (p:Nat),vo] w fun e w'=>e=.returned (.int .i64 (tyB A p out))∧w'=w:=by
 have hzA:=hA.len
 have hz:=ho.len
 obtain ⟨aa,ca,rfl,_⟩:=id hA
 obtain ⟨ao,co,rfl,_⟩:=id ho
 by_cases hn:0 < out.length
 ·have hnI:(0:Int) < (out.length:Int):=by omega
  obtain ⟨b,o,rfl,hbl,ci,_⟩:=rd_at ho (out.length - 1) (by omega)
  have HE:Hid (tyB A p out=out[out.length - 1]?.getD 0):=by unfold Hid tyB;rw [if_pos hn]
  rw [HE.out]
  generalize out[out.length - 1]?.getD 0=x at ci
  have hi1:((out.length - 1:Nat):Int) < (out.length:Int):=by omega
  have hw:IntKind.i64.wrap ((out.length:Int) - 1)=((out.length - 1:Nat):Int):=by rw [IntKind.wrap_i64];omega
  clear HE ho hA
  go_enter Tryz.func39,Tryz.ntmps39
  go_wp2_with fail
  go_ret
  exact ⟨rfl,rfl⟩
 ·have hnI:¬ (0:Int) < (out.length:Int):=by omega
  by_cases hp0:0 < p
  ·have hpI:(0:Int) < (p:Int):=by omega
   obtain ⟨b,o,rfl,hbl,ci,_⟩:=rd_at hA (p - 1) (by omega)
   have HE:Hid (tyB A p out=A[p - 1]?.getD 0):=by unfold Hid tyB;rw [if_neg hn,if_pos hp0]
   rw [HE.out]
   generalize A[p - 1]?.getD 0=x at ci
   have hi1:((p - 1:Nat):Int) < (A.length:Int):=by omega
   have hw:IntKind.i64.wrap ((p:Int) - 1)=((p - 1:Nat):Int):=by rw [IntKind.wrap_i64];omega
   clear HE ho hA
   go_enter Tryz.func39,Tryz.ntmps39
   go_wp2_with fail
   go_ret
   exact ⟨rfl,rfl⟩
  ·have HE:Hid (tyB A p out=0):=by unfold Hid tyB;rw [if_neg hn,if_neg hp0]
   have hpI:¬ (0:Int) < (p:Int):=by omega
   rw [HE.out]
   clear HE ho hA
   go_enter Tryz.func39,Tryz.ntmps39
   go_wp2_with fail
   go_ret
   exact ⟨rfl,rfl⟩
theorem last_eq (l:List Int) (i:Nat) (h:i < l.length):∃ last:Bool,((i:Int) == (l.length:Int) - 1)=last∧last=(l.drop (i + 1)).isEmpty:=by
 by_cases he:i + 1=l.length
 ·refine ⟨true,by simp;omega,?_⟩
  rw [List.drop_of_length_le (by omega)]
  rfl
 ·refine ⟨false,by simp;omega,?_⟩
  cases h8:l.drop (i + 1) with
  | nil=>have:=congrArg List.length h8;rw [List.length_drop] at this;simp at this;omega
  | cons a b=>rfl
set_option maxHeartbeats 8000000 in
theorem rTyped_good (w:World) (va:Value) (A:List Int) (p:Nat) (vl:Value) (l:List Int) (nat:Int) (hA:Rd .i64 w va A) (_:A.length≤65536) (hp:p≤A.length) (hl:Rd .i64 w vl l) (hnat:nat=1∨nat=2∨nat=3) (hz:l.length * 16 + 16≤140737488355328) :
  Calls Tryz.prog 13 #[va,.int .i64 (p:Nat),vl,.int .i64 nat] w fun e w'=>∃ v,e=.returned (.tuple #[v,.int .i64 0])∧Hid (OwnI w' w.heap.size v (tyF A p nat [] l))∧Below w.heap.size w w':=by
 obtain ⟨aa,ca,rfl,_⟩:=id hA
 obtain ⟨la,lc,rfl,hl1,hl2,_⟩:=id hl
 have HA:=zh hA
 have HL:=zh hl
 have n1:¬ (p:Int) < 0:=by omega
 have n2:¬ (A.length:Int) < (p:Int):=by omega
 have n4:¬ nat < 1:=by omega
 have n5:¬ 3 < nat:=by omega
 obtain ⟨R,hR⟩:∃ R,R=tyF A p nat [] l:=⟨_,rfl⟩
 rw [← hR]
 have HR:=zh hR.symm
 have HO0:Hid (OwnI w w.heap.size (.slice none 0 0) []):=World.ownsRow_nil _ _ _ _
 have HNAT:=zh hnat
 clear hA hl hR hnat
 go_enter Tryz.func13,Tryz.ntmps13
 go_wp2_with fail
 go_loopw [10,11] (fun ov iv wr=>∃ (i:Nat) (ao:Option Addr) (n c:Nat) (out:List Int),i≤l.length∧iv=.int .i64 (i:Nat)∧ov=.slice ao n c∧Hid (out.length=n)∧Hid (OwnI wr w.heap.size (.slice ao n c) out)∧Hid (out.length≤2 * i)∧Hid (tyF A p nat out (l.drop i)=R)∧Hid (Below w.heap.size w wr)) (fun _ iv _=>l.length - (intOf iv).toNat)
 case atStart=>exact ⟨0,_,_,_,[],Nat.zero_le _,rfl,rfl,rfl,HO0.out,Nat.le_refl _,by rw [List.drop_zero];exact HR.out,Below.refl _ _⟩
 case round =>
  clear HO0
  obtain ⟨i,ao,n,c,out,hi9,rfl,rfl,HNL,HO,HOL2,HFF,HBW⟩:=hrel
  by_cases hlt:i < l.length
  ·have hltI:(i:Int) < (l.length:Int):=by omega
   obtain ⟨lb,lo,hab,_,ci,_⟩:=rd_at (HL.out.ext HBW.out) i hlt
   subst hab
   obtain ⟨x,hx⟩:∃ x,l[i]?=some x:=⟨_,List.getElem?_eq_getElem hlt⟩
   rw [hx,Option.getD_some] at ci
   have HDR:Hid (l.drop i=x :: l.drop (i + 1)):=drop_of hx
   rw [HDR.out,tyF] at HFF
   have HOL:Hid ((out.length + 2) * 8≤140737488355328):=by unfold Hid;have:=HOL2.out;omega
   by_cases hx10:x=10
   ·have hxb:(x != 10)=false:=by simpa using hx10
    rw [if_pos hx10] at HFF
    have HF2:=HFF
    clear HFF hx HDR hx10
    obtain ⟨last,hlst,hlast⟩:∃ last:Bool,((i:Int) == (l.length:Int) - 1)=last∧last=(l.drop (i + 1)).isEmpty:=last_eq l i hlt
    rw [← hlast] at HF2
    have hwl:IntKind.i64.wrap ((l.length:Int) - 1)=(l.length:Int) - 1:=by rw [IntKind.wrap_i64];omega
    have AHD:=zh (rahead_any wr _ A p _ out (HA.out.ext HBW.out) hp (Rd.of_own HO.out))
    obtain ⟨tb,htb⟩:∃ tb,tb=tyB A p out:=⟨_,rfl⟩
    rw [← htb] at AHD
    clear hlast
    go_upto_region 12 with (go_at_call 39;refine AHD.out.mono ?_;rintro e w2 ⟨rfl,hw2⟩;rw [hw2];clear hw2;(try dsimp only))
    clear AHD ci
    rcases HNAT.out with rfl | rfl | rfl
    ·by_cases h13:tb=13
     ·have hbb:(tb == 13)=true:=by simpa using h13
      have hM:tyM A p 1 last out=true:=by unfold tyM;rw [← htb];simp [h13]
      rw [hM,if_pos rfl] at HF2
      clear hM h13 htb hlst
      go_upto_region 17 with (at_builtin;refine wpl_ints rfl _ _ 27 rfl w.heap.size Tryz.info_i64 Tryz.underlying27 (.slice ao n c) out rfl (HO.out.ext (zxa (Below.refl _ _) _)) [13] (some ⟨wr.heap.size,0,none⟩) 1 1 rfl rfl (.inr ⟨_,rfl,rdi_new wr _⟩) (by have:=HOL.out;simp;omega) (Nat.le_trans HBW.out.size (size_alloc_le _ _)) ?_;intro v7 w7 ho7 hb7;obtain ⟨a7,c7,hv7⟩:=ho7.form;generalize hn7:(out ++ [13]).length=n7 at hv7;have HN7:=zh hn7;clear hn7;subst hv7;have HO7:=zh ho7;have HB7:=zh (((Below.refl w.heap.size wr).alloc HBW.out.size _).trans hb7);clear ho7 hb7)
      have HOX:Hid (OwnI w7 w.heap.size (.slice a7 n7 c7) (out ++ [13])):=HO7.out
      go_wp2_with (at_builtin;refine wpl_ints rfl _ _ 27 rfl w.heap.size Tryz.info_i64 Tryz.underlying27 (.slice a7 n7 c7) (out ++ [13]) rfl (HO7.out.ext (zxa (Below.refl _ _) _)) [10] (some ⟨w7.heap.size,0,none⟩) 1 1 rfl rfl (.inr ⟨_,rfl,rdi_new w7 _⟩) (by have:=HOL.out;simp;omega) (Nat.le_trans (HBW.out.trans HB7.out).size (size_alloc_le _ _)) ?_;intro v8 w8 ho8 hb8;obtain ⟨a8,c8,hv8⟩:=ho8.form;generalize hn8:((out ++ [13]) ++ [10]).length=n8 at hv8;have HN8:=zh hn8;clear hn8;subst hv8;have HO8:=zh ho8;have HB8:=zh (((Below.refl w.heap.size w7).alloc (HBW.out.trans HB7.out).size _).trans hb8);clear ho8 hb8)
      go_roundw
      case rel=>exact ⟨i + 1,_,_,_,_,by omega,by go_num,rfl,HN8.out,HO8.out,by have h9:=HOL2.out;unfold Hid;rw [List.length_append,List.length_append];simp;omega,by unfold Hid;rw [List.append_assoc];exact HF2.out,(HBW.out.trans HB7.out).trans HB8.out⟩
      case measure=>simp [intOf];omega
     ·have hbb:(tb == 13)=false:=by simpa using h13
      have hM:tyM A p 1 last out=false:=by unfold tyM;rw [← htb];simp [h13]
      rw [hM,if_neg (by decide)] at HF2
      clear hM h13 htb hlst
      go_wp2_with (at_builtin;refine wpl_ints rfl _ _ 27 rfl w.heap.size Tryz.info_i64 Tryz.underlying27 (.slice ao n c) out rfl (HO.out.ext (zxa (Below.refl _ _) _)) [10] (some ⟨wr.heap.size,0,none⟩) 1 1 rfl rfl (.inr ⟨_,rfl,rdi_new wr _⟩) (by have:=HOL.out;simp;omega) (Nat.le_trans HBW.out.size (size_alloc_le _ _)) ?_;intro v7 w7 ho7 hb7;obtain ⟨a7,c7,hv7⟩:=ho7.form;generalize hn7:(out ++ [10]).length=n7 at hv7;have HN7:=zh hn7;clear hn7;subst hv7;have HO7:=zh ho7;have HB7:=zh (((Below.refl w.heap.size wr).alloc HBW.out.size _).trans hb7);clear ho7 hb7)
      go_roundw
      case rel=>exact ⟨i + 1,_,_,_,_,by omega,by go_num,rfl,HN7.out,HO7.out,by have h9:=HOL2.out;unfold Hid;rw [List.length_append];simp;omega,HF2.out,HBW.out.trans HB7.out⟩
      case measure=>simp [intOf];omega
    ·have hW:tyW (if tyM A p 2 last out=true then 2 else 2)=[13,10]:=by split <;> rfl
     rw [hW] at HF2
     clear hW htb hlst
     go_upto_region 17 with (at_builtin;refine wpl_ints rfl _ _ 27 rfl w.heap.size Tryz.info_i64 Tryz.underlying27 (.slice ao n c) out rfl (HO.out.ext (zxa (Below.refl _ _) _)) [13] (some ⟨wr.heap.size,0,none⟩) 1 1 rfl rfl (.inr ⟨_,rfl,rdi_new wr _⟩) (by have:=HOL.out;simp;omega) (Nat.le_trans HBW.out.size (size_alloc_le _ _)) ?_;intro v7 w7 ho7 hb7;obtain ⟨a7,c7,hv7⟩:=ho7.form;generalize hn7:(out ++ [13]).length=n7 at hv7;have HN7:=zh hn7;clear hn7;subst hv7;have HO7:=zh ho7;have HB7:=zh (((Below.refl w.heap.size wr).alloc HBW.out.size _).trans hb7);clear ho7 hb7)
     have HOX:Hid (OwnI w7 w.heap.size (.slice a7 n7 c7) (out ++ [13])):=HO7.out
     go_wp2_with (at_builtin;refine wpl_ints rfl _ _ 27 rfl w.heap.size Tryz.info_i64 Tryz.underlying27 (.slice a7 n7 c7) (out ++ [13]) rfl (HO7.out.ext (zxa (Below.refl _ _) _)) [10] (some ⟨w7.heap.size,0,none⟩) 1 1 rfl rfl (.inr ⟨_,rfl,rdi_new w7 _⟩) (by have:=HOL.out;simp;omega) (Nat.le_trans (HBW.out.trans HB7.out).size (size_alloc_le _ _)) ?_;intro v8 w8 ho8 hb8;obtain ⟨a8,c8,hv8⟩:=ho8.form;generalize hn8:((out ++ [13]) ++ [10]).length=n8 at hv8;have HN8:=zh hn8;clear hn8;subst hv8;have HO8:=zh ho8;have HB8:=zh (((Below.refl w.heap.size w7).alloc (HBW.out.trans HB7.out).size _).trans hb8);clear ho8 hb8)
     go_roundw
     case rel=>exact ⟨i + 1,_,_,_,_,by omega,by go_num,rfl,HN8.out,HO8.out,by have h9:=HOL2.out;unfold Hid;rw [List.length_append,List.length_append];simp;omega,by unfold Hid;rw [List.append_assoc];exact HF2.out,(HBW.out.trans HB7.out).trans HB8.out⟩
     case measure=>simp [intOf];omega
    ·clear htb
     cases last with
     | false =>
       have hM:tyM A p 3 false out=false:=by unfold tyM;simp
       rw [hM,if_neg (by decide)] at HF2
       clear hM
       go_wp2_with (at_builtin;refine wpl_ints rfl _ _ 27 rfl w.heap.size Tryz.info_i64 Tryz.underlying27 (.slice ao n c) out rfl (HO.out.ext (zxa (Below.refl _ _) _)) [13] (some ⟨wr.heap.size,0,none⟩) 1 1 rfl rfl (.inr ⟨_,rfl,rdi_new wr _⟩) (by have:=HOL.out;simp;omega) (Nat.le_trans HBW.out.size (size_alloc_le _ _)) ?_;intro v7 w7 ho7 hb7;obtain ⟨a7,c7,hv7⟩:=ho7.form;generalize hn7:(out ++ [13]).length=n7 at hv7;have HN7:=zh hn7;clear hn7;subst hv7;have HO7:=zh ho7;have HB7:=zh (((Below.refl w.heap.size wr).alloc HBW.out.size _).trans hb7);clear ho7 hb7)
       go_roundw
       case rel=>exact ⟨i + 1,_,_,_,_,by omega,by go_num,rfl,HN7.out,HO7.out,by have h9:=HOL2.out;unfold Hid;rw [List.length_append];simp;omega,HF2.out,HBW.out.trans HB7.out⟩
       case measure=>simp [intOf];omega
     | true =>
       by_cases hpl:p < A.length
       ·have hplI:(p:Int) < (A.length:Int):=by omega
        obtain ⟨b4,o4,hab4,_,c4,_⟩:=rd_at (HA.out.ext HBW.out) p hpl
        subst hab4
        obtain ⟨y,hy⟩:∃ y,A[p]?=some y:=⟨_,List.getElem?_eq_getElem hpl⟩
        rw [hy,Option.getD_some] at c4
        by_cases h10:y=10
        ·have hyb:(y == 10)=true:=by simpa using h10
         have hM:tyM A p 3 true out=true:=by unfold tyM;rw [hy,h10];simp
         rw [hM,if_pos rfl] at HF2
         clear hM h10 hy
         go_upto_region 17 with (at_builtin;refine wpl_ints rfl _ _ 27 rfl w.heap.size Tryz.info_i64 Tryz.underlying27 (.slice ao n c) out rfl (HO.out.ext (zxa (Below.refl _ _) _)) [13] (some ⟨wr.heap.size,0,none⟩) 1 1 rfl rfl (.inr ⟨_,rfl,rdi_new wr _⟩) (by have:=HOL.out;simp;omega) (Nat.le_trans HBW.out.size (size_alloc_le _ _)) ?_;intro v7 w7 ho7 hb7;obtain ⟨a7,c7,hv7⟩:=ho7.form;generalize hn7:(out ++ [13]).length=n7 at hv7;have HN7:=zh hn7;clear hn7;subst hv7;have HO7:=zh ho7;have HB7:=zh (((Below.refl w.heap.size wr).alloc HBW.out.size _).trans hb7);clear ho7 hb7)
         have HOX:Hid (OwnI w7 w.heap.size (.slice a7 n7 c7) (out ++ [13])):=HO7.out
         go_wp2_with (at_builtin;refine wpl_ints rfl _ _ 27 rfl w.heap.size Tryz.info_i64 Tryz.underlying27 (.slice a7 n7 c7) (out ++ [13]) rfl (HO7.out.ext (zxa (Below.refl _ _) _)) [10] (some ⟨w7.heap.size,0,none⟩) 1 1 rfl rfl (.inr ⟨_,rfl,rdi_new w7 _⟩) (by have:=HOL.out;simp;omega) (Nat.le_trans (HBW.out.trans HB7.out).size (size_alloc_le _ _)) ?_;intro v8 w8 ho8 hb8;obtain ⟨a8,c8,hv8⟩:=ho8.form;generalize hn8:((out ++ [13]) ++ [10]).length=n8 at hv8;have HN8:=zh hn8;clear hn8;subst hv8;have HO8:=zh ho8;have HB8:=zh (((Below.refl w.heap.size w7).alloc (HBW.out.trans HB7.out).size _).trans hb8);clear ho8 hb8)
         go_roundw
         case rel=>exact ⟨i + 1,_,_,_,_,by omega,by go_num,rfl,HN8.out,HO8.out,by have h9:=HOL2.out;unfold Hid;rw [List.length_append,List.length_append];simp;omega,by unfold Hid;rw [List.append_assoc];exact HF2.out,(HBW.out.trans HB7.out).trans HB8.out⟩
         case measure=>simp [intOf];omega
        ·have hyb:(y == 10)=false:=by simpa using h10
         have hM:tyM A p 3 true out=false:=by unfold tyM;rw [hy];simp [h10]
         rw [hM,if_neg (by decide)] at HF2
         clear hM h10 hy
         go_wp2_with (at_builtin;refine wpl_ints rfl _ _ 27 rfl w.heap.size Tryz.info_i64 Tryz.underlying27 (.slice ao n c) out rfl (HO.out.ext (zxa (Below.refl _ _) _)) [13] (some ⟨wr.heap.size,0,none⟩) 1 1 rfl rfl (.inr ⟨_,rfl,rdi_new wr _⟩) (by have:=HOL.out;simp;omega) (Nat.le_trans HBW.out.size (size_alloc_le _ _)) ?_;intro v7 w7 ho7 hb7;obtain ⟨a7,c7,hv7⟩:=ho7.form;generalize hn7:(out ++ [13]).length=n7 at hv7;have HN7:=zh hn7;clear hn7;subst hv7;have HO7:=zh ho7;have HB7:=zh (((Below.refl w.heap.size wr).alloc HBW.out.size _).trans hb7);clear ho7 hb7)
         go_roundw
         case rel=>exact ⟨i + 1,_,_,_,_,by omega,by go_num,rfl,HN7.out,HO7.out,by have h9:=HOL2.out;unfold Hid;rw [List.length_append];simp;omega,HF2.out,HBW.out.trans HB7.out⟩
         case measure=>simp [intOf];omega
       ·have hplI:¬ (p:Int) < (A.length:Int):=by omega
        have hM:tyM A p 3 true out=false:=by unfold tyM;rw [List.getElem?_eq_none (Nat.le_of_not_lt hpl)];simp
        rw [hM,if_neg (by decide)] at HF2
        clear hM
        go_wp2_with (at_builtin;refine wpl_ints rfl _ _ 27 rfl w.heap.size Tryz.info_i64 Tryz.underlying27 (.slice ao n c) out rfl (HO.out.ext (zxa (Below.refl _ _) _)) [13] (some ⟨wr.heap.size,0,none⟩) 1 1 rfl rfl (.inr ⟨_,rfl,rdi_new wr _⟩) (by have:=HOL.out;simp;omega) (Nat.le_trans HBW.out.size (size_alloc_le _ _)) ?_;intro v7 w7 ho7 hb7;obtain ⟨a7,c7,hv7⟩:=ho7.form;generalize hn7:(out ++ [13]).length=n7 at hv7;have HN7:=zh hn7;clear hn7;subst hv7;have HO7:=zh ho7;have HB7:=zh (((Below.refl w.heap.size wr).alloc HBW.out.size _).trans hb7);clear ho7 hb7)
        go_roundw
        case rel=>exact ⟨i + 1,_,_,_,_,by omega,by go_num,rfl,HN7.out,HO7.out,by have h9:=HOL2.out;unfold Hid;rw [List.length_append];simp;omega,HF2.out,HBW.out.trans HB7.out⟩
        case measure=>simp [intOf];omega
   ·have hxb:(x != 10)=true:=by simpa using hx10
    rw [if_neg hx10] at HFF
    have HF2:=HFF
    clear HFF hx HDR hx10
    go_wp2_with (at_builtin;refine wpl_ints rfl _ _ 27 rfl w.heap.size Tryz.info_i64 Tryz.underlying27 (.slice ao n c) out rfl (HO.out.ext (zxa (Below.refl _ _) _)) [x] (some ⟨wr.heap.size,0,none⟩) 1 1 rfl rfl (.inr ⟨_,rfl,rdi_new wr _⟩) (by have:=HOL.out;simp;omega) (Nat.le_trans HBW.out.size (size_alloc_le _ _)) ?_;intro v8 w8 ho8 hb8;obtain ⟨a8,c8,hv8⟩:=ho8.form;generalize hn8:(out ++ [x]).length=n8 at hv8;have HN8:=zh hn8;clear hn8;subst hv8;have HO8:=zh ho8;have HB8:=zh (((Below.refl w.heap.size wr).alloc HBW.out.size _).trans hb8);clear ho8 hb8)
    go_roundw
    case rel=>exact ⟨i + 1,_,_,_,_,by omega,by go_num,rfl,HN8.out,HO8.out,by have h9:=HOL2.out;unfold Hid;rw [List.length_append];simp;omega,HF2.out,HBW.out.trans HB8.out⟩
    case measure=>simp [intOf];omega
  ·obtain rfl:i=l.length:=by omega
   have hge:¬ (l.length:Int) < (l.length:Int):=by omega
   have HE:Hid (out=R):=by have:=HFF.out;rw [List.drop_of_length_le (Nat.le_refl _),tyF] at this;exact this
   go_wp2_with fail
   go_ret2
   exact ⟨_,rfl,by rw [← HE.out];exact HO.out,HBW.out⟩
set_option maxHeartbeats 4000000 in
theorem rTyped_any (w:World) (va:Value) (A:List Int) (p:Int) (vl:Value) (l:List Int) (nat:Int) (hA:Rd .i64 w va A) (hlA:A.length≤65536) (hl:Rd .i64 w vl l) (hz:l.length * 16 + 16≤140737488355328) :
  Calls Tryz.prog 13 #[va,.int .i64 p,vl,.int .i64 nat] w fun e w'=>∃ v,e=.returned (.tuple #[v,.int .i64 (tyE A p nat)])∧Hid (OwnI w' w.heap.size v (tyL A p nat l))∧Below w.heap.size w w':=by
 by_cases h0:tyE A p nat=0
 ·obtain ⟨k1,q,rfl,k2⟩:=tyE_zero h0
  have e:tyL A (q:Nat) nat l=tyF A q nat [] l:=by unfold tyL;rw [if_pos h0,Int.toNat_natCast]
  rw [h0,e]
  exact rTyped_good w va A q vl l nat hA hlA k2 hl k1 hz
 ·have e:tyL A p nat l=[]:=by unfold tyL;rw [if_neg h0]
  rw [e]
  obtain ⟨aa,ca,rfl,_⟩:=id hA
  obtain ⟨la,lc,rfl,_⟩:=id hl
  have HNIL:Hid (∀ w',OwnI w' w.heap.size (.slice none 0 0) []):=fun w'=>World.ownsRow_nil _ _ _ _
  by_cases h1:nat < 1∨3 < nat
  ·have ee:tyE A p nat=1:=by unfold tyE;rw [if_pos h1]
   rw [ee]
   clear hA hl h0 e ee hz
   by_cases h2:nat < 1
   ·clear h1
    go_enter Tryz.func13,Tryz.ntmps13
    go_wp2_with fail
    go_ret2
    exact ⟨_,rfl,HNIL.out _,Below.refl _ _⟩
   ·have h3:3 < nat:=by omega
    clear h1
    go_enter Tryz.func13,Tryz.ntmps13
    go_wp2_with fail
    go_ret2
    exact ⟨_,rfl,HNIL.out _,Below.refl _ _⟩
  ·have h2:p < 0∨(A.length:Int) < p:=by unfold tyE at h0;rw [if_neg h1] at h0;by_cases h2:p < 0∨(A.length:Int) < p;exact h2;rw [if_neg h2] at h0;omega
   have ee:tyE A p nat=2:=by unfold tyE;rw [if_neg h1,if_pos h2]
   rw [ee]
   have n4:¬ nat < 1:=by omega
   have n5:¬ 3 < nat:=by omega
   clear hA hl h0 e ee h1 hz
   by_cases hp0:p < 0
   ·clear h2
    go_enter Tryz.func13,Tryz.ntmps13
    go_wp2_with fail
    go_ret2
    exact ⟨_,rfl,HNIL.out _,Below.refl _ _⟩
   ·have hp2:(A.length:Int) < p:=by omega
    clear h2
    go_enter Tryz.func13,Tryz.ntmps13
    go_wp2_with fail
    go_ret2
    exact ⟨_,rfl,HNIL.out _,Below.refl _ _⟩
end Go.Proofs.YtgfdfajblidleaaGreat.P
