import Derived.Test.YtjomfbegghgbdaaGreatK47
import Derived.Deep.CutRange
import Derived.BigQuiet
set_option maxRecDepth 100000
namespace Go.Proofs.YtjomfbegghgbdaaGreat.P
open Go.RowKit
def tyE (A:List Int) (p nat:Int):Int:=if nat < 1∨3 < nat then 1 else if p < 0∨(A.length:Int) < p then 2 else 0
def tyL (A:List Int) (p nat:Int) (l:List Int):List Int:=if tyE A p nat=0 then tyF A p.toNat nat [] l else []
theorem tyE_zero {A:List Int} {p nat:Int} (h:tyE A p nat=0):(nat=1∨nat=2∨nat=3)∧∃ q:Nat,p=q∧q≤A.length:=by
 unfold tyE at h
 by_cases h1:nat < 1∨3 < nat
 ·rw [if_pos h1] at h;omega
 ·rw [if_neg h1] at h
  by_cases h2:p < 0∨(A.length:Int) < p
  ·rw [if_pos h2] at h;omega
  ·exact ⟨by omega,p.toNat,by omega,by omega⟩
set_option maxHeartbeats 4000000 in
theorem Typed_any (enc:Int) (w:World) (t:Nat) (A:List Int) (p:Int) (vl:Value) (l:List Int) (nat:Int) (h:Tz enc w t A) (hl:Rd .i64 w vl l) (hz:l.length * 16 + 16≤140737488355328) :
  Calls Tryz.prog 23 #[.pointer (some ⟨t,0,none⟩),.int .i64 p,vl,.int .i64 nat] w fun e w'=>∃ v,e=.returned (.tuple #[v,.int .i64 (tyE A p nat)])∧Hid (OwnI w' w.heap.size v (tyL A p nat l))∧Below w.heap.size w w':=by
 by_cases h0:tyE A p nat=0
 ·obtain ⟨k1,q,rfl,k2⟩:=tyE_zero h0
  have e:tyL A (q:Nat) nat l=tyF A q nat [] l:=by unfold tyL;rw [if_pos h0,Int.toNat_natCast]
  rw [h0,e]
  exact Typed_good enc w t A q vl l nat h k2 hl k1 hz
 ·have e:tyL A p nat l=[]:=by unfold tyL;rw [if_neg h0]
  rw [e]
  have hlA:=h.len
  have LN:=zh (Len_z enc w t A h)
  obtain ⟨la,lc,rfl,_⟩:=id hl
  have HNIL:Hid (∀ w',OwnI w' w.heap.size (.slice none 0 0) []):=fun w'=>World.ownsRow_nil _ _ _ _
  by_cases h1:nat < 1∨3 < nat
  ·have ee:tyE A p nat=1:=by unfold tyE;rw [if_pos h1]
   rw [ee]
   have b1:(nat != 1)=true:=by simp;omega
   have b2:(nat != 2)=true:=by simp;omega
   have b3:(nat != 3)=true:=by simp;omega
   clear h hl h0 e ee LN h1 hz
   go_enter Tryz.func23,Tryz.ntmps23
   go_wp2_with fail
   go_ret2
   exact ⟨_,rfl,HNIL.out _,Below.refl _ _⟩
  ·have hn:nat=1∨nat=2∨nat=3:=by omega
   have h2:p < 0∨(A.length:Int) < p:=by unfold tyE at h0;rw [if_neg h1] at h0;by_cases h2:p < 0∨(A.length:Int) < p;exact h2;rw [if_neg h2] at h0;omega
   have ee:tyE A p nat=2:=by unfold tyE;rw [if_neg h1,if_pos h2]
   rw [ee]
   clear h hl h0 e ee h1 hz
   go_enter Tryz.func23,Tryz.ntmps23
   go_upto_region 1 with fail
   go_cut [24] from 15 to 24 (fun v wF=>v=.bool false∧wF=w)
   case first =>
    clear h2
    rcases hn with rfl | rfl | rfl
    all_goals
     go_wp2_with fail
     go_meet
     case rel=>exact ⟨rfl,rfl⟩
   case rest =>
    obtain ⟨rfl,hwc⟩:=hcut
    rw [hwc]
    clear hwc hn
    by_cases hp0:p < 0
    ·clear h2 LN
     go_wp2_with fail
     go_ret2
     exact ⟨_,rfl,HNIL.out _,Below.refl _ _⟩
    ·have hp2:(A.length:Int) < p:=by omega
     clear h2
     go_wp2_with (go_at_call 53;refine LN.out.mono ?_;rintro e w1 ⟨rfl,hb⟩;have HB1:=zh hb;clear hb LN;(try dsimp only))
     go_ret2
     exact ⟨_,rfl,HNIL.out _,HB1.out⟩
theorem rahead_any (w:World) (va:Value) (A:List Int) (p:Nat) (vo:Value) (out:List Int) (hA:Rd .i64 w va A) (hp:p≤A.length) (ho:Rd .i64 w vo out) :
  Calls Tryz.prog 60 #[va,.int .i64 (p:Nat),vo] w fun e w'=>e=.returned (.int .i64 (tyB A p out))∧w'=w:=by
 have hzA:=hA.len
 have hz:=ho.len
 obtain ⟨aa,ca,rfl,_⟩:=id hA
 obtain ⟨ao,co,rfl,_⟩:=id ho
 by_cases hn:0 < out.length
 ·have hnI:(0:Int) < (out.length:Int):=by omega
  obtain ⟨b,o,rfl,hbl,ci,_⟩:=rd_at ho (out.length - 1) (by omega)
  have HE:Hid (tyB A p out=out[out.length - 1]?.getD 0):=by unfold Hid tyB;rw [if_pos hn]
  rw [HE.out]
  generalize out[out.length - 1]?.getD 0=x at ci
  have hi1:((out.length - 1:Nat):Int) < (out.length:Int):=by omega
  have hw:IntKind.i64.wrap ((out.length:Int) - 1)=((out.length - 1:Nat):Int):=by rw [IntKind.wrap_i64];omega
  clear HE ho hA
  go_enter Tryz.func60,Tryz.ntmps60
  go_wp2_with fail
  go_ret
  exact ⟨rfl,rfl⟩
 ·have hnI:¬ (0:Int) < (out.length:Int):=by omega
  by_cases hp0:0 < p
  ·have hpI:(0:Int) < (p:Int):=by omega
   obtain ⟨b,o,rfl,hbl,ci,_⟩:=rd_at hA (p - 1) (by omega)
   have HE:Hid (tyB A p out=A[p - 1]?.getD 0):=by unfold Hid tyB;rw [if_neg hn,if_pos hp0]
   rw [HE.out]
   generalize A[p - 1]?.getD 0=x at ci
   have hi1:((p - 1:Nat):Int) < (A.length:Int):=by omega
   have hw:IntKind.i64.wrap ((p:Int) - 1)=((p - 1:Nat):Int):=by rw [IntKind.wrap_i64];omega
   clear HE ho hA
   go_enter Tryz.func60,Tryz.ntmps60
   go_wp2_with fail
   go_ret
   exact ⟨rfl,rfl⟩
  ·have HE:Hid (tyB A p out=0):=by unfold Hid tyB;rw [if_neg hn,if_neg hp0]
   have hpI:¬ (0:Int) < (p:Int):=by omega
   rw [HE.out]
   clear HE ho hA
   go_enter Tryz.func60,Tryz.ntmps60
   go_wp2_with fail
   go_ret
   exact ⟨rfl,rfl⟩
theorem last_eq (l:List Int) (i:Nat) (h:i < l.length):∃ last:Bool,((i:Int) == (l.length:Int) - 1)=last∧last=(l.drop (i + 1)).isEmpty:=by
 by_cases he:i + 1=l.length
 ·refine ⟨true,by simp;omega,?_⟩
  rw [List.drop_of_length_le (by omega)]
  rfl
 ·refine ⟨false,by simp;omega,?_⟩
  cases h8:l.drop (i + 1) with
  | nil=>have:=congrArg List.length h8;rw [List.length_drop] at this;simp at this;omega
  | cons a b=>rfl
set_option maxHeartbeats 8000000 in
theorem rTyped_good (w:World) (va:Value) (A:List Int) (p:Nat) (vl:Value) (l:List Int) (nat:Int) (hA:Rd .i64 w va A) (_:A.length≤65536) (hp:p≤A.length) (hl:Rd .i64 w vl l) (hnat:nat=1∨nat=2∨nat=3) (hz:l.length * 16 + 16≤140737488355328) :
  Calls Tryz.prog 26 #[va,.int .i64 (p:Nat),vl,.int .i64 nat] w fun e w'=>∃ v,e=.returned (.tuple #[v,.int .i64 0])∧Hid (OwnI w' w.heap.size v (tyF A p nat [] l))∧Below w.heap.size w w':=by
 obtain ⟨aa,ca,rfl,_⟩:=id hA
 obtain ⟨la,lc,rfl,hl1,hl2,_⟩:=id hl
 have HA:=zh hA
 have HL:=zh hl
 have n1:¬ (p:Int) < 0:=by omega
 have n2:¬ (A.length:Int) < (p:Int):=by omega
 have n4:¬ nat < 1:=by omega
 have n5:¬ 3 < nat:=by omega
 obtain ⟨R,hR⟩:∃ R,R=tyF A p nat [] l:=⟨_,rfl⟩
 rw [← hR]
 have HR:=zh hR.symm
 have HO0:Hid (OwnI w w.heap.size (.slice none 0 0) []):=World.ownsRow_nil _ _ _ _
 have HNAT:=zh hnat
 clear hA hl hR hnat
 go_enter Tryz.func26,Tryz.ntmps26
 go_wp2_with fail
 go_loopw [10,11] (fun ov iv wr=>∃ (i:Nat) (ao:Option Addr) (n c:Nat) (out:List Int),i≤l.length∧iv=.int .i64 (i:Nat)∧ov=.slice ao n c∧Hid (out.length=n)∧Hid (OwnI wr w.heap.size (.slice ao n c) out)∧Hid (out.length≤2 * i)∧Hid (tyF A p nat out (l.drop i)=R)∧Hid (Below w.heap.size w wr)) (fun _ iv _=>l.length - (intOf iv).toNat)
 case atStart=>exact ⟨0,_,_,_,[],Nat.zero_le _,rfl,rfl,rfl,HO0.out,Nat.le_refl _,by rw [List.drop_zero];exact HR.out,Below.refl _ _⟩
 case round =>
  clear HO0
  obtain ⟨i,ao,n,c,out,hi9,rfl,rfl,HNL,HO,HOL2,HFF,HBW⟩:=hrel
  by_cases hlt:i < l.length
  ·have hltI:(i:Int) < (l.length:Int):=by omega
   obtain ⟨lb,lo,hab,_,ci,_⟩:=rd_at (HL.out.ext HBW.out) i hlt
   subst hab
   obtain ⟨x,hx⟩:∃ x,l[i]?=some x:=⟨_,List.getElem?_eq_getElem hlt⟩
   rw [hx,Option.getD_some] at ci
   have HDR:Hid (l.drop i=x :: l.drop (i + 1)):=drop_of hx
   rw [HDR.out,tyF] at HFF
   have HOL:Hid ((out.length + 2) * 8≤140737488355328):=by unfold Hid;have:=HOL2.out;omega
   by_cases hx10:x=10
   ·have hxb:(x != 10)=false:=by simpa using hx10
    rw [if_pos hx10] at HFF
    have HF2:=HFF
    clear HFF hx HDR hx10
    obtain ⟨last,hlst,hlast⟩:∃ last:Bool,((i:Int) == (l.length:Int) - 1)=last∧last=(l.drop (i + 1)).isEmpty:=last_eq l i hlt
    rw [← hlast] at HF2
    have hwl:IntKind.i64.wrap ((l.length:Int) - 1)=(l.length:Int) - 1:=by rw [IntKind.wrap_i64];omega
    have AHD:=zh (rahead_any wr _ A p _ out (HA.out.ext HBW.out) hp (Rd.of_own HO.out))
    obtain ⟨tb,htb⟩:∃ tb,tb=tyB A p out:=⟨_,rfl⟩
    rw [← htb] at AHD
    clear hlast
    go_upto_region 12 with (go_at_call 60;refine AHD.out.mono ?_;rintro e w2 ⟨rfl,hw2⟩;rw [hw2];clear hw2;(try dsimp only))
    clear AHD ci
    rcases HNAT.out with rfl | rfl | rfl
    ·by_cases h13:tb=13
     ·have hbb:(tb == 13)=true:=by simpa using h13
      have hM:tyM A p 1 last out=true:=by unfold tyM;rw [← htb];simp [h13]
      rw [hM,if_pos rfl] at HF2
      clear hM h13 htb hlst
      go_upto_region 17 with (at_builtin;refine wpl_ints rfl _ _ 27 rfl w.heap.size Tryz.info_i64 Tryz.underlying27 (.slice ao n c) out rfl (HO.out.ext (zxa (Below.refl _ _) _)) [13] (some ⟨wr.heap.size,0,none⟩) 1 1 rfl rfl (.inr ⟨_,rfl,rdi_new wr _⟩) (by have:=HOL.out;simp;omega) (Nat.le_trans HBW.out.size (size_alloc_le _ _)) ?_;intro v7 w7 ho7 hb7;obtain ⟨a7,c7,hv7⟩:=ho7.form;generalize hn7:(out ++ [13]).length=n7 at hv7;have HN7:=zh hn7;clear hn7;subst hv7;have HO7:=zh ho7;have HB7:=zh (((Below.refl w.heap.size wr).alloc HBW.out.size _).trans hb7);clear ho7 hb7)
      have HOX:Hid (OwnI w7 w.heap.size (.slice a7 n7 c7) (out ++ [13])):=HO7.out
      go_wp2_with (at_builtin;refine wpl_ints rfl _ _ 27 rfl w.heap.size Tryz.info_i64 Tryz.underlying27 (.slice a7 n7 c7) (out ++ [13]) rfl (HO7.out.ext (zxa (Below.refl _ _) _)) [10] (some ⟨w7.heap.size,0,none⟩) 1 1 rfl rfl (.inr ⟨_,rfl,rdi_new w7 _⟩) (by have:=HOL.out;simp;omega) (Nat.le_trans (HBW.out.trans HB7.out).size (size_alloc_le _ _)) ?_;intro v8 w8 ho8 hb8;obtain ⟨a8,c8,hv8⟩:=ho8.form;generalize hn8:((out ++ [13]) ++ [10]).length=n8 at hv8;have HN8:=zh hn8;clear hn8;subst hv8;have HO8:=zh ho8;have HB8:=zh (((Below.refl w.heap.size w7).alloc (HBW.out.trans HB7.out).size _).trans hb8);clear ho8 hb8)
      go_roundw
      case rel=>exact ⟨i + 1,_,_,_,_,by omega,by go_num,rfl,HN8.out,HO8.out,by have h9:=HOL2.out;unfold Hid;rw [List.length_append,List.length_append];simp;omega,by unfold Hid;rw [List.append_assoc];exact HF2.out,(HBW.out.trans HB7.out).trans HB8.out⟩
      case measure=>simp [intOf];omega
     ·have hbb:(tb == 13)=false:=by simpa using h13
      have hM:tyM A p 1 last out=false:=by unfold tyM;rw [← htb];simp [h13]
      rw [hM,if_neg (by decide)] at HF2
      clear hM h13 htb hlst
      go_wp2_with (at_builtin;refine wpl_ints rfl _ _ 27 rfl w.heap.size Tryz.info_i64 Tryz.underlying27 (.slice ao n c) out rfl (HO.out.ext (zxa (Below.refl _ _) _)) [10] (some ⟨wr.heap.size,0,none⟩) 1 1 rfl rfl (.inr ⟨_,rfl,rdi_new wr _⟩) (by have:=HOL.out;simp;omega) (Nat.le_trans HBW.out.size (size_alloc_le _ _)) ?_;intro v7 w7 ho7 hb7;obtain ⟨a7,c7,hv7⟩:=ho7.form;generalize hn7:(out ++ [10]).length=n7 at hv7;have HN7:=zh hn7;clear hn7;subst hv7;have HO7:=zh ho7;have HB7:=zh (((Below.refl w.heap.size wr).alloc HBW.out.size _).trans hb7);clear ho7 hb7)
      go_roundw
      case rel=>exact ⟨i + 1,_,_,_,_,by omega,by go_num,rfl,HN7.out,HO7.out,by have h9:=HOL2.out;unfold Hid;rw [List.length_append];simp;omega,HF2.out,HBW.out.trans HB7.out⟩
      case measure=>simp [intOf];omega
    ·have hW:tyW (if tyM A p 2 last out=true then 2 else 2)=[13,10]:=by split <;> rfl
     rw [hW] at HF2
     clear hW htb hlst
     go_upto_region 17 with (at_builtin;refine wpl_ints rfl _ _ 27 rfl w.heap.size Tryz.info_i64 Tryz.underlying27 (.slice ao n c) out rfl (HO.out.ext (zxa (Below.refl _ _) _)) [13] (some ⟨wr.heap.size,0,none⟩) 1 1 rfl rfl (.inr ⟨_,rfl,rdi_new wr _⟩) (by have:=HOL.out;simp;omega) (Nat.le_trans HBW.out.size (size_alloc_le _ _)) ?_;intro v7 w7 ho7 hb7;obtain ⟨a7,c7,hv7⟩:=ho7.form;generalize hn7:(out ++ [13]).length=n7 at hv7;have HN7:=zh hn7;clear hn7;subst hv7;have HO7:=zh ho7;have HB7:=zh (((Below.refl w.heap.size wr).alloc HBW.out.size _).trans hb7);clear ho7 hb7)
     have HOX:Hid (OwnI w7 w.heap.size (.slice a7 n7 c7) (out ++ [13])):=HO7.out
     go_wp2_with (at_builtin;refine wpl_ints rfl _ _ 27 rfl w.heap.size Tryz.info_i64 Tryz.underlying27 (.slice a7 n7 c7) (out ++ [13]) rfl (HO7.out.ext (zxa (Below.refl _ _) _)) [10] (some ⟨w7.heap.size,0,none⟩) 1 1 rfl rfl (.inr ⟨_,rfl,rdi_new w7 _⟩) (by have:=HOL.out;simp;omega) (Nat.le_trans (HBW.out.trans HB7.out).size (size_alloc_le _ _)) ?_;intro v8 w8 ho8 hb8;obtain ⟨a8,c8,hv8⟩:=ho8.form;generalize hn8:((out ++ [13]) ++ [10]).length=n8 at hv8;have HN8:=zh hn8;clear hn8;subst hv8;have HO8:=zh ho8;have HB8:=zh (((Below.refl w.heap.size w7).alloc (HBW.out.trans HB7.out).size _).trans hb8);clear ho8 hb8)
     go_roundw
     case rel=>exact ⟨i + 1,_,_,_,_,by omega,by go_num,rfl,HN8.out,HO8.out,by have h9:=HOL2.out;unfold Hid;rw [List.length_append,List.length_append];simp;omega,by unfold Hid;rw [List.append_assoc];exact HF2.out,(HBW.out.trans HB7.out).trans HB8.out⟩
     case measure=>simp [intOf];omega
    ·clear htb
     cases last with
     | false =>
       have hM:tyM A p 3 false out=false:=by unfold tyM;simp
       rw [hM,if_neg (by decide)] at HF2
       clear hM
       go_wp2_with (at_builtin;refine wpl_ints rfl _ _ 27 rfl w.heap.size Tryz.info_i64 Tryz.underlying27 (.slice ao n c) out rfl (HO.out.ext (zxa (Below.refl _ _) _)) [13] (some ⟨wr.heap.size,0,none⟩) 1 1 rfl rfl (.inr ⟨_,rfl,rdi_new wr _⟩) (by have:=HOL.out;simp;omega) (Nat.le_trans HBW.out.size (size_alloc_le _ _)) ?_;intro v7 w7 ho7 hb7;obtain ⟨a7,c7,hv7⟩:=ho7.form;generalize hn7:(out ++ [13]).length=n7 at hv7;have HN7:=zh hn7;clear hn7;subst hv7;have HO7:=zh ho7;have HB7:=zh (((Below.refl w.heap.size wr).alloc HBW.out.size _).trans hb7);clear ho7 hb7)
       go_roundw
       case rel=>exact ⟨i + 1,_,_,_,_,by omega,by go_num,rfl,HN7.out,HO7.out,by have h9:=HOL2.out;unfold Hid;rw [List.length_append];simp;omega,HF2.out,HBW.out.trans HB7.out⟩
       case measure=>simp [intOf];omega
     | true =>
       by_cases hpl:p < A.length
       ·have hplI:(p:Int) < (A.length:Int):=by omega
        obtain ⟨b4,o4,hab4,_,c4,_⟩:=rd_at (HA.out.ext HBW.out) p hpl
        subst hab4
        obtain ⟨y,hy⟩:∃ y,A[p]?=some y:=⟨_,List.getElem?_eq_getElem hpl⟩
        rw [hy,Option.getD_some] at c4
        by_cases h10:y=10
        ·have hyb:(y == 10)=true:=by simpa using h10
         have hM:tyM A p 3 true out=true:=by unfold tyM;rw [hy,h10];simp
         rw [hM,if_pos rfl] at HF2
         clear hM h10 hy
         go_upto_region 17 with (at_builtin;refine wpl_ints rfl _ _ 27 rfl w.heap.size Tryz.info_i64 Tryz.underlying27 (.slice ao n c) out rfl (HO.out.ext (zxa (Below.refl _ _) _)) [13] (some ⟨wr.heap.size,0,none⟩) 1 1 rfl rfl (.inr ⟨_,rfl,rdi_new wr _⟩) (by have:=HOL.out;simp;omega) (Nat.le_trans HBW.out.size (size_alloc_le _ _)) ?_;intro v7 w7 ho7 hb7;obtain ⟨a7,c7,hv7⟩:=ho7.form;generalize hn7:(out ++ [13]).length=n7 at hv7;have HN7:=zh hn7;clear hn7;subst hv7;have HO7:=zh ho7;have HB7:=zh (((Below.refl w.heap.size wr).alloc HBW.out.size _).trans hb7);clear ho7 hb7)
         have HOX:Hid (OwnI w7 w.heap.size (.slice a7 n7 c7) (out ++ [13])):=HO7.out
         go_wp2_with (at_builtin;refine wpl_ints rfl _ _ 27 rfl w.heap.size Tryz.info_i64 Tryz.underlying27 (.slice a7 n7 c7) (out ++ [13]) rfl (HO7.out.ext (zxa (Below.refl _ _) _)) [10] (some ⟨w7.heap.size,0,none⟩) 1 1 rfl rfl (.inr ⟨_,rfl,rdi_new w7 _⟩) (by have:=HOL.out;simp;omega) (Nat.le_trans (HBW.out.trans HB7.out).size (size_alloc_le _ _)) ?_;intro v8 w8 ho8 hb8;obtain ⟨a8,c8,hv8⟩:=ho8.form;generalize hn8:((out ++ [13]) ++ [10]).length=n8 at hv8;have HN8:=zh hn8;clear hn8;subst hv8;have HO8:=zh ho8;have HB8:=zh (((Below.refl w.heap.size w7).alloc (HBW.out.trans HB7.out).size _).trans hb8);clear ho8 hb8)
         go_roundw
         case rel=>exact ⟨i + 1,_,_,_,_,by omega,by go_num,rfl,HN8.out,HO8.out,by have h9:=HOL2.out;unfold Hid;rw [List.length_append,List.length_append];simp;omega,by unfold Hid;rw [List.append_assoc];exact HF2.out,(HBW.out.trans HB7.out).trans HB8.out⟩
         case measure=>simp [intOf];omega
        ·have hyb:(y == 10)=false:=by simpa using h10
         have hM:tyM A p 3 true out=false:=by unfold tyM;rw [hy];simp [h10]
         rw [hM,if_neg (by decide)] at HF2
         clear hM h10 hy
         go_wp2_with (at_builtin;refine wpl_ints rfl _ _ 27 rfl w.heap.size Tryz.info_i64 Tryz.underlying27 (.slice ao n c) out rfl (HO.out.ext (zxa (Below.refl _ _) _)) [13] (some ⟨wr.heap.size,0,none⟩) 1 1 rfl rfl (.inr ⟨_,rfl,rdi_new wr _⟩) (by have:=HOL.out;simp;omega) (Nat.le_trans HBW.out.size (size_alloc_le _ _)) ?_;intro v7 w7 ho7 hb7;obtain ⟨a7,c7,hv7⟩:=ho7.form;generalize hn7:(out ++ [13]).length=n7 at hv7;have HN7:=zh hn7;clear hn7;subst hv7;have HO7:=zh ho7;have HB7:=zh (((Below.refl w.heap.size wr).alloc HBW.out.size _).trans hb7);clear ho7 hb7)
         go_roundw
         case rel=>exact ⟨i + 1,_,_,_,_,by omega,by go_num,rfl,HN7.out,HO7.out,by have h9:=HOL2.out;unfold Hid;rw [List.length_append];simp;omega,HF2.out,HBW.out.trans HB7.out⟩
         case measure=>simp [intOf];omega
       ·have hplI:¬ (p:Int) < (A.length:Int):=by omega
        have hM:tyM A p 3 true out=false:=by unfold tyM;rw [List.getElem?_eq_none (Nat.le_of_not_lt hpl)];simp
        rw [hM,if_neg (by decide)] at HF2
        clear hM
        go_wp2_with (at_builtin;refine wpl_ints rfl _ _ 27 rfl w.heap.size Tryz.info_i64 Tryz.underlying27 (.slice ao n c) out rfl (HO.out.ext (zxa (Below.refl _ _) _)) [13] (some ⟨wr.heap.size,0,none⟩) 1 1 rfl rfl (.inr ⟨_,rfl,rdi_new wr _⟩) (by have:=HOL.out;simp;omega) (Nat.le_trans HBW.out.size (size_alloc_le _ _)) ?_;intro v7 w7 ho7 hb7;obtain ⟨a7,c7,hv7⟩:=ho7.form;generalize hn7:(out ++ [13]).length=n7 at hv7;have HN7:=zh hn7;clear hn7;subst hv7;have HO7:=zh ho7;have HB7:=zh (((Below.refl w.heap.size wr).alloc HBW.out.size _).trans hb7);clear ho7 hb7)
        go_roundw
        case rel=>exact ⟨i + 1,_,_,_,_,by omega,by go_num,rfl,HN7.out,HO7.out,by have h9:=HOL2.out;unfold Hid;rw [List.length_append];simp;omega,HF2.out,HBW.out.trans HB7.out⟩
        case measure=>simp [intOf];omega
   ·have hxb:(x != 10)=true:=by simpa using hx10
    rw [if_neg hx10] at HFF
    have HF2:=HFF
    clear HFF hx HDR hx10
    go_wp2_with (at_builtin;refine wpl_ints rfl _ _ 27 rfl w.heap.size Tryz.info_i64 Tryz.underlying27 (.slice ao n c) out rfl (HO.out.ext (zxa (Below.refl _ _) _)) [x] (some ⟨wr.heap.size,0,none⟩) 1 1 rfl rfl (.inr ⟨_,rfl,rdi_new wr _⟩) (by have:=HOL.out;simp;omega) (Nat.le_trans HBW.out.size (size_alloc_le _ _)) ?_;intro v8 w8 ho8 hb8;obtain ⟨a8,c8,hv8⟩:=ho8.form;generalize hn8:(out ++ [x]).length=n8 at hv8;have HN8:=zh hn8;clear hn8;subst hv8;have HO8:=zh ho8;have HB8:=zh (((Below.refl w.heap.size wr).alloc HBW.out.size _).trans hb8);clear ho8 hb8)
    go_roundw
    case rel=>exact ⟨i + 1,_,_,_,_,by omega,by go_num,rfl,HN8.out,HO8.out,by have h9:=HOL2.out;unfold Hid;rw [List.length_append];simp;omega,HF2.out,HBW.out.trans HB8.out⟩
    case measure=>simp [intOf];omega
  ·obtain rfl:i=l.length:=by omega
   have hge:¬ (l.length:Int) < (l.length:Int):=by omega
   have HE:Hid (out=R):=by have:=HFF.out;rw [List.drop_of_length_le (Nat.le_refl _),tyF] at this;exact this
   go_wp2_with fail
   go_ret2
   exact ⟨_,rfl,by rw [← HE.out];exact HO.out,HBW.out⟩
set_option maxHeartbeats 4000000 in
theorem rTyped_any (w:World) (va:Value) (A:List Int) (p:Int) (vl:Value) (l:List Int) (nat:Int) (hA:Rd .i64 w va A) (hlA:A.length≤65536) (hl:Rd .i64 w vl l) (hz:l.length * 16 + 16≤140737488355328) :
  Calls Tryz.prog 26 #[va,.int .i64 p,vl,.int .i64 nat] w fun e w'=>∃ v,e=.returned (.tuple #[v,.int .i64 (tyE A p nat)])∧Hid (OwnI w' w.heap.size v (tyL A p nat l))∧Below w.heap.size w w':=by
 by_cases h0:tyE A p nat=0
 ·obtain ⟨k1,q,rfl,k2⟩:=tyE_zero h0
  have e:tyL A (q:Nat) nat l=tyF A q nat [] l:=by unfold tyL;rw [if_pos h0,Int.toNat_natCast]
  rw [h0,e]
  exact rTyped_good w va A q vl l nat hA hlA k2 hl k1 hz
 ·have e:tyL A p nat l=[]:=by unfold tyL;rw [if_neg h0]
  rw [e]
  obtain ⟨aa,ca,rfl,_⟩:=id hA
  obtain ⟨la,lc,rfl,_⟩:=id hl
  have HNIL:Hid (∀ w',OwnI w' w.heap.size (.slice none 0 0) []):=fun w'=>World.ownsRow_nil _ _ _ _
  by_cases h1:nat < 1∨3 < nat
  ·have ee:tyE A p nat=1:=by unfold tyE;rw [if_pos h1]
   rw [ee]
   clear hA hl h0 e ee hz
   by_cases h2:nat < 1
   ·clear h1
    go_enter Tryz.func26,Tryz.ntmps26
    go_wp2_with fail
    go_ret2
    exact ⟨_,rfl,HNIL.out _,Below.refl _ _⟩
   ·have h3:3 < nat:=by omega
    clear h1
    go_enter Tryz.func26,Tryz.ntmps26
    go_wp2_with fail
    go_ret2
    exact ⟨_,rfl,HNIL.out _,Below.refl _ _⟩
  ·have h2:p < 0∨(A.length:Int) < p:=by unfold tyE at h0;rw [if_neg h1] at h0;by_cases h2:p < 0∨(A.length:Int) < p;exact h2;rw [if_neg h2] at h0;omega
   have ee:tyE A p nat=2:=by unfold tyE;rw [if_neg h1,if_pos h2]
   rw [ee]
   have n4:¬ nat < 1:=by omega
   have n5:¬ 3 < nat:=by omega
   clear hA hl h0 e ee h1 hz
   by_cases hp0:p < 0
   ·clear h2
    go_enter Tryz.func26,Tryz.ntmps26
    go_wp2_with fail
    go_ret2
    exact ⟨_,rfl,HNIL.out _,Below.refl _ _⟩
   ·have hp2:(A.length:Int) < p:=by omega
    clear h2
    go_enter Tryz.func26,Tryz.ntmps26
    go_wp2_with fail
    go_ret2
    exact ⟨_,rfl,HNIL.out _,Below.refl _ _⟩
open Go.RowKit
def spk (b:Int):List Int:=if b=1 then [10] else if b=2 then [13,10] else if b=3 then [13] else []
def atK (enc:Int) (A:List Int) (i:Nat):Nat:=if (i:Int)≤(spn enc A).b then (skA enc A i).toNat else A.length
section
variable {enc:Int} {A:List Int} {i:Nat}
structure Tile (enc:Int) (A:List Int) (i f t n:Nat) (b:Int):Prop where
 at_:lnA enc A i=⟨(f:Nat),(t:Nat),(n:Nat),b⟩
 er:lnE enc A i=0
 f0:f=atK enc A i
 n0:n=atK enc A (i + 1)
 ft:f≤t
 tn:t≤n
 nl:n≤A.length
 b0:0≤b
 b3:b≤3
 no:∀ k,f≤k→k < t→A[k]?≠some 10∧A[k]?≠some 13
 sp:(A.drop t).take (n - t)=spk b
 la:b=0→(i:Int) + 1=cnt enc A∧(f=t→A.length=0)
 cr:b=3→A[n]?≠some 10
 of:∀ k:Nat,f≤k→k < n→brk enc A (k:Nat)=i
end
open Go.RowKit
theorem same_yes (v1 v2:Value) (zs:List Int) (w:World) (h1:Rd .i64 w v1 zs) (h2:Rd .i64 w v2 zs) :
  Calls Tryz.prog 24 #[v1,v2] w fun e w'=>e=.returned (.bool true)∧Below w.heap.size w w':=by
 have hlen:=h1.len
 obtain ⟨ao,cap,rfl,hl1,hc1,h1⟩:=h1
 obtain ⟨ao2,cap2,rfl,hl2,hc2,h2⟩:=h2
 by_cases hn:zs=[]
 ·subst hn
  clear h1 h2
  simp only [List.length_nil]
  go_enter Tryz.func24,Tryz.ntmps24
  go_wp2
  refine wp_loop_rounds 1 ?_
  rw [rounds_succ]
  go_wp2
  go_ret
  exact ⟨rfl,Below.refl _ _⟩
 ·obtain ⟨b,off,rfl,hb,hcl⟩:=h1 hn
  obtain ⟨b2,off2,rfl,hb2,hcl2⟩:=h2 hn
  have hq:((zs.length:Int) != (zs.length:Int))=false:=by simp
  clear h1 h2 hn
  go_enter Tryz.func24,Tryz.ntmps24
  go_wp2
  go_loopw [5] (fun i wr=>∃ k:Nat,k≤zs.length∧i=.int .i64 k∧Below w.heap.size w wr) (fun i _=>zs.length - (intOf i).toNat)
  case atStart=>exact ⟨0,Nat.zero_le _,rfl,Below.refl _ _⟩
  case round =>
   obtain ⟨k,hk,rfl,hbw⟩:=hrel
   by_cases hlt:k < zs.length
   ·have c1:wr.cell? ⟨b,off + k,none⟩=some (.int .i64 (zs[k]?.getD 0)):=(hbw.cell (p:=⟨b,off + k,none⟩) hb).trans (hcl _ hlt)
    have c2:wr.cell? ⟨b2,off2 + k,none⟩=some (.int .i64 (zs[k]?.getD 0)):=(hbw.cell (p:=⟨b2,off2 + k,none⟩) hb2).trans (hcl2 _ hlt)
    have hi1:(k:Int) < (zs.length:Int):=by omega
    generalize zs[k]?.getD 0=x at *
    clear hcl hcl2
    go_wp2
    go_quiet (fail)
    go_wp2
    go_roundw
    case rel=>exact ⟨k + 1,by omega,by go_num,below_drewN hbw _⟩
    case measure=>simp [intOf];omega
   ·clear hcl hcl2
    go_wp2
    go_ret
    exact ⟨rfl,hbw⟩
def Seen (w:World) (bs:Nat) (enc:Int) (A:List Int) (i:Nat):Prop:=w.heap[bs]?=some (.cells #[.int .i64 (kC (alF enc A i) 0:Nat),.int .i64 (kC (alF enc A i) 1:Nat),.int .i64 (kC (alF enc A i) 2:Nat),.int .i64 (kC (alF enc A i) 3:Nat)] 53 (0,0))
open Go.RowKit
set_option maxHeartbeats 8000000 in
theorem typeds_any (enc:Int) (w:World) (g t:Nat) (A:List Int) (m:Nat) (o:Opv) (v:Value) (h:BtW enc w g t A m) (ho:o.put.length≤1048576) (hp:Rd .i64 w v o.put):Yes 105 w g o v:=by
 intro w1 hb1
 obtain ⟨ap,cp,rfl,_⟩:=id hp
 obtain ⟨who,k,a,b,put⟩:=o
 unfold Opv.val
 dsimp only at *
 obtain ⟨w2,hw2,kk2,hb2⟩:∃ w2,w2=w1.alloc (.cells #[.int .i64 who,.int .i64 k,.int .i64 a,.int .i64 b,.slice ap put.length cp] 38)∧w2.heap[w1.heap.size]?=some (.cells #[.int .i64 who,.int .i64 k,.int .i64 a,.int .i64 b,.slice ap put.length cp] 38 (0,0))∧Below w1.heap.size w1 w2:=⟨_,rfl,heap_alloc_new _ _,zxa (Below.refl _ _) _⟩
 have HB2:=zh hb2
 have hbw:=zxt hb1 hb2
 have h2:=h.ext hbw
 obtain ⟨vA,hg,hov⟩:=h2.ex
 obtain ⟨av,cv,rfl⟩:=hov.form
 have hlA:=h2.tz.len
 have HTZ:=zh h2.tz
 have HPT:=zh (hp.ext hbw)
 have HOV:=zh hov.rdi
 have HC:Hid (∀ w',Below w2.heap.size w2 w'→w'.cell? ⟨g,0,none⟩=some (.pointer (some ⟨t,0,none⟩))∧w'.cell? ⟨g,1,none⟩=some (.slice av A.length cv)∧w'.cell? ⟨w1.heap.size,2,none⟩=some (.int .i64 a)∧w'.cell? ⟨w1.heap.size,3,none⟩=some (.int .i64 b)∧w'.cell? ⟨w1.heap.size,4,none⟩=some (.slice ap put.length cp)):=fun w' hb=>by
  obtain ⟨_,c0,c1,_⟩:=cells2 ((hb.block g (Array.getElem?_eq_some_iff.1 hg).1).trans hg)
  obtain ⟨_,_,_,d2,d3,d4⟩:=cells5 ((hb.block _ (Array.getElem?_eq_some_iff.1 kk2).1).trans kk2)
  exact ⟨c0,c1,d2,d3,d4⟩
 have CPY:Hid (∀ w',Below w2.heap.size w2 w'→Calls Tryz.prog 20 #[.slice ap put.length cp] w' fun e w''=>∃ v',e=.returned v'∧Hid (OwnI w'' w'.heap.size v' put)∧Below w'.heap.size w' w''):=fun w' hb=>copied_any _ put w' (HPT.out.ext hb) (by omega)
 have TYP:Hid (∀ w' v',Below w2.heap.size w2 w'→Rd .i64 w' v' put→Calls Tryz.prog 23 #[.pointer (some ⟨t,0,none⟩),.int .i64 a,v',.int .i64 b] w' fun e w''=>∃ v,e=.returned (.tuple #[v,.int .i64 (tyE A a b)])∧Hid (OwnI w'' w'.heap.size v (tyL A a b put))∧Below w'.heap.size w' w''):=fun w' v' hb hv=>Typed_any enc w' t A a v' put b (HTZ.out.ext hb) hv (by omega)
 have RTY:Hid (∀ w',Below w2.heap.size w2 w'→Calls Tryz.prog 26 #[.slice av A.length cv,.int .i64 a,.slice ap put.length cp,.int .i64 b] w' fun e w''=>∃ v,e=.returned (.tuple #[v,.int .i64 (tyE A a b)])∧Hid (OwnI w'' w'.heap.size v (tyL A a b put))∧Below w'.heap.size w' w''):=fun w' hb=>rTyped_any w' _ A a _ put b (HOV.out.ext hb) hlA (HPT.out.ext hb) (by omega)
 obtain ⟨R,hR⟩:∃ R,R=tyL A a b put:=⟨_,rfl⟩
 rw [← hR] at TYP RTY
 obtain ⟨er,her⟩:∃ er,er=tyE A a b:=⟨_,rfl⟩
 rw [← her] at TYP RTY
 have SAM:Hid (∀ w' v1 v2,Rd .i64 w' v1 R→Rd .i64 w' v2 R→Calls Tryz.prog 24 #[v1,v2] w' fun e w''=>e=.returned (.bool true)∧Below w'.heap.size w' w''):=fun w' v1 v2 k1 k2=>same_yes v1 v2 R w' k1 k2
 obtain ⟨c0,c1,d2,d3,d4⟩:=HC.out w2 (Below.refl _ _)
 clear h hp hb1 hb2 hbw h2 hg hov kk2 hR her ho
 go_enter Tryz.func105,Tryz.ntmps105
 go_upto_region 1 with fail
 rw [← hw2]
 clear hw2
 refine wp_region_held_drew (S:=fun w''=>w''.cell? ⟨g,0,none⟩=some (.pointer (some ⟨t,0,none⟩))∧w''.cell? ⟨g,1,none⟩=some (.slice av A.length cv)∧w''.cell? ⟨w1.heap.size,2,none⟩=some (.int .i64 a)∧w''.cell? ⟨w1.heap.size,3,none⟩=some (.int .i64 b)∧w''.cell? ⟨w1.heap.size,4,none⟩=some (.slice ap put.length cp)) (by kernel_rfl) (⟨c0,c1,d2,d3,d4⟩) (fun _=>?_)
 refine tkH 0 rfl ?_
 refine tkH 1 rfl ?_
 refine tkH 2 rfl ?_
 refine tkH 3 rfl ?_
 refine tkH 4 rfl ?_
 refine tkH 5 rfl ?_
 refine tkH 6 rfl ?_
 refine tkH 7 rfl ?_
 refine tkH 9 rfl ?_
 refine tkH 10 rfl ?_
 refine rdH 8 rfl fun K hK=>?_
 go_simp
 refine (CPY.out _ (Below.drew (Below.refl _ _))).mono ?_;clear c0 c1 d2 d3 d4;rintro e y3 ⟨v3,rfl,ho3,hb⟩;have HY3:=zh (zxt (Below.drew (Below.refl w2.heap.size w2)) hb);clear hb;obtain ⟨a3,k3,hv3⟩:=ho3.out.form;subst hv3;have HO3:=zh ho3.out;clear ho3;obtain ⟨c0,c1,d2,d3,d4⟩:=HC.out y3 HY3.out;try dsimp only
 refine hK.out _ _ ?_ (fun _=>?_)
 ·(try simp only [World.cell?_drew]);exact ⟨c0,c1,d2,d3,d4⟩
 clear hK K
 try simp only [Act.put,tS]
 refine rdH 11 rfl fun K hK=>?_
 go_simp
 refine (TYP.out _ _ HY3.out HO3.out.rdi).mono ?_;clear c0 c1 d2 d3 d4;rintro e y4 ⟨v4,rfl,ho4,hb⟩;have HY4:=zh (zxt HY3.out hb);clear hb;obtain ⟨a4,k4,hv4⟩:=ho4.out.form;generalize hn4:R.length=n4 at hv4;clear hn4;subst hv4;have HO4:=zh ho4.out;clear ho4;obtain ⟨c0,c1,d2,d3,d4⟩:=HC.out y4 HY4.out;try dsimp only
 refine hK.out _ _ ?_ (fun _=>?_)
 ·(try simp only [World.cell?_drew]);exact ⟨c0,c1,d2,d3,d4⟩
 clear hK K
 try simp only [Act.put,tS]
 refine tkH 12 rfl ?_
 refine tkH 13 rfl ?_
 refine tkH 14 rfl ?_
 refine tkH 15 rfl ?_
 refine tkH 16 rfl ?_
 refine dnH ?_
 skip
 go_upto_region 2 with fail
 refine wp_region_held_drew (S:=fun w''=>w''.cell? ⟨g,0,none⟩=some (.pointer (some ⟨t,0,none⟩))∧w''.cell? ⟨g,1,none⟩=some (.slice av A.length cv)∧w''.cell? ⟨w1.heap.size,2,none⟩=some (.int .i64 a)∧w''.cell? ⟨w1.heap.size,3,none⟩=some (.int .i64 b)∧w''.cell? ⟨w1.heap.size,4,none⟩=some (.slice ap put.length cp)) (by kernel_rfl) (⟨c0,c1,d2,d3,d4⟩) (fun _=>?_)
 refine tkH 0 rfl ?_
 refine tkH 1 rfl ?_
 refine tkH 2 rfl ?_
 refine tkH 3 rfl ?_
 refine tkH 4 rfl ?_
 refine tkH 5 rfl ?_
 refine tkH 6 rfl ?_
 refine tkH 7 rfl ?_
 refine tkH 8 rfl ?_
 refine tkH 9 rfl ?_
 refine rdH 10 rfl fun K hK=>?_
 go_simp
 refine (RTY.out _ HY4.out.drew).mono ?_;clear c0 c1 d2 d3 d4;rintro e y5 ⟨v5,rfl,ho5,hb⟩;have HB45:=zh (zxt (Below.drew (Below.refl y4.heap.size y4)) hb);have HY5:=zh (zxt HY4.out.drew hb);clear hb;obtain ⟨a5,k5,hv5⟩:=ho5.out.form;generalize hn5:R.length=n5 at hv5;clear hn5;subst hv5;have HO5:=zh ho5.out;clear ho5;obtain ⟨c0,c1,d2,d3,d4⟩:=HC.out y5 HY5.out;try dsimp only
 refine hK.out _ _ ?_ (fun _=>?_)
 ·(try simp only [World.cell?_drew]);exact ⟨c0,c1,d2,d3,d4⟩
 clear hK K
 try simp only [Act.put,tS]
 refine tkH 11 rfl ?_
 refine tkH 12 rfl ?_
 refine tkH 13 rfl ?_
 refine tkH 14 rfl ?_
 refine tkH 15 rfl ?_
 refine dnH ?_
 skip
 have SM:=zh (SAM.out y5 _ _ (HO4.out.rdi.ext HB45.out) HO5.out.rdi)
 clear c0 c1 d2 d3 d4 CPY TYP RTY SAM
 go_wp2_with (go_at_call 24;refine SM.out.mono ?_;rintro e y9 ⟨rfl,hb⟩;have HB9:=zh hb;clear hb;(try dsimp only))
 go_ret
 exact ⟨rfl,zxt (zxt HB2.out HY5.out) HB9.out⟩
end Go.Proofs.YtjomfbegghgbdaaGreat.P
