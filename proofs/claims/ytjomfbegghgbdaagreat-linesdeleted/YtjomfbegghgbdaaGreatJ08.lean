import Derived.Test.YtjomfbegghgbdaaGreatJ00
import Derived.Test.YtjomfbegghgbdaaGreatJ07
import Derived.Lib.Strings
import Derived.Deep.RegionHeld3
import Derived.Deep.RegionWith
namespace Go.Proofs.YtjomfbegghgbdaaGreat
open Go.RowKit
def Byt (zs:List Int):Prop:=∀ z ∈ zs,0≤z∧z≤255
theorem Byt.take {zs:List Int} (h:Byt zs) (n:Nat):Byt (zs.take n):=fun z hz=>h z (List.mem_of_mem_take hz)
theorem Byt.drop {zs:List Int} (h:Byt zs) (n:Nat):Byt (zs.drop n):=fun z hz=>h z (List.mem_of_mem_drop hz)
theorem pre_iff (m z:List Int):(decide (m.length≤z.length) && decide (z.take m.length=m))=m.isPrefixOf z:=by
 rw [Bool.eq_iff_iff,List.isPrefixOf_iff_prefix]
 simp only [Bool.and_eq_true,decide_eq_true_eq]
 constructor
 ·rintro ⟨_,h⟩
  exact List.prefix_iff_eq_take.2 h.symm
 ·intro h
  exact ⟨h.length_le,(List.prefix_iff_eq_take.1 h).symm⟩
theorem Rd.take {k:IntKind} {w:World} {ao:Option Addr} {n cap:Nat} {zs:List Int} (h:Rd k w (.slice ao n cap) zs) (m:Nat) (hm:m≤zs.length):Rd k w (.slice ao m cap) (zs.take m):=by
 obtain ⟨ao',cap',hv,h1,h2,h3⟩:=h
 cases hv
 refine ⟨ao,cap,by rw [List.length_take,Nat.min_eq_left hm],by rw [List.length_take];omega,h2,fun hn=>?_⟩
 obtain ⟨b,off,ha,hb,hc⟩:=h3 (fun h=>hn (by rw [h];simp))
 refine ⟨b,off,ha,hb,fun i hi=>?_⟩
 rw [List.length_take] at hi
 rw [hc i (by omega),List.getElem?_take,if_pos (by omega)]
theorem take_grow (m z:List Int) (k:Nat) (h:m.take k=z.take k) (hm:k < m.length) (hz:k < z.length) (he:m[k]?.getD 0=z[k]?.getD 0):m.take (k + 1)=z.take (k + 1):=by
 rw [List.take_succ_eq_append_getElem hm,List.take_succ_eq_append_getElem hz,h]
 simp [hm,hz] at he
 rw [he]
theorem pre_no (m z:List Int) (k:Nat) (hm:k < m.length) (hz:m.length≤z.length) (he:m[k]?.getD 0≠z[k]?.getD 0):m.isPrefixOf z=false:=by
 rw [Bool.eq_false_iff]
 intro h
 rw [List.isPrefixOf_iff_prefix] at h
 obtain ⟨t,rfl⟩:=h
 exact he (by rw [List.getElem?_append_left hm])
theorem pre_yes (m z:List Int) (hz:m.length≤z.length) (he:m.take m.length=z.take m.length):m.isPrefixOf z=true:=by
 rw [← pre_iff]
 rw [List.take_length] at he
 simp [hz,← he]
theorem begins_any (v1 v2:Value) (z m:List Int) (at':Nat) (w:World) (h1:Rd .u8 w v1 z) (h2:Rd .u8 w v2 m) (hat:at'≤z.length) (hm0:m≠[]) (hsum:z.length + m.length≤4611686018427387904) :
  Calls Tryz.prog 135 #[v1,.int .i64 at',v2] w fun e w'=>e=.returned (.bool (m.isPrefixOf (z.drop at')))∧Below w.heap.size w w':=by
 have hz1:=h1.len
 have hz2:=h2.len
 obtain ⟨ao,cp,rfl,hl1,hc1,h1⟩:=h1
 obtain ⟨ao2,cp2,rfl,hl2,hc2,h2⟩:=h2
 by_cases hl:at' + m.length≤z.length
 ·have hmp:0 < m.length:=List.length_pos_iff.2 hm0
  have hzn:z≠[]:=List.length_pos_iff.1 (by omega)
  obtain ⟨b,off,rfl,hb,hcl⟩:=h1 hzn
  obtain ⟨b2,off2,rfl,hb2,hcl2⟩:=h2 hm0
  have HY:Hid (m.take m.length=(z.drop at').take m.length→m.isPrefixOf (z.drop at')=true):=pre_yes m _ (by rw [List.length_drop];omega)
  have HN:Hid (∀ k,k < m.length→m[k]?.getD 0≠z[at' + k]?.getD 0→m.isPrefixOf (z.drop at')=false):=fun k hk he=>pre_no m _ k hk (by rw [List.length_drop];omega) (by rw [List.getElem?_drop];exact he)
  have HG:Hid (∀ k,k < m.length→m.take k=(z.drop at').take k→m[k]?.getD 0=z[at' + k]?.getD 0→m.take (k + 1)=(z.drop at').take (k + 1)):=fun k hk h he=>take_grow m _ k h hk (by rw [List.length_drop];omega) (by rw [List.getElem?_drop];exact he)
  clear h1 h2 hm0 hmp hzn
  generalize m.isPrefixOf (z.drop at')=R at *
  go_enter Tryz.func135,Tryz.ntmps135
  go_wp2
  go_loopw [7] (fun i wr=>∃ k:Nat,k≤m.length∧i=.int .i64 k∧m.take k=(z.drop at').take k∧Below w.heap.size w wr) (fun i _=>m.length - (intOf i).toNat)
  case atStart=>exact ⟨0,Nat.zero_le _,rfl,rfl,Below.refl _ _⟩
  case round =>
   obtain ⟨k,hk,rfl,ht,hbw⟩:=hrel
   have HT:Hid (m.take k=(z.drop at').take k):=ht
   clear ht
   by_cases hlt:k < m.length
   ·have c1:wr.cell? ⟨b,off + (at' + k),none⟩=some (.int .u8 (z[at' + k]?.getD 0)):=(hbw.cell (p:=⟨b,off + (at' + k),none⟩) hb).trans (hcl _ (by omega))
    have c2:wr.cell? ⟨b2,off2 + k,none⟩=some (.int .u8 (m[k]?.getD 0)):=(hbw.cell (p:=⟨b2,off2 + k,none⟩) hb2).trans (hcl2 _ hlt)
    have HN':=HN.out k hlt
    have HG':=HG.out k hlt HT.out
    generalize z[at' + k]?.getD 0=x at *
    generalize m[k]?.getD 0=y at *
    clear hcl hcl2 HN HG
    by_cases he:y=x
    ·have HG2:Hid (m.take (k + 1)=(z.drop at').take (k + 1)):=HG' he
     subst he
     clear HN' HG'
     have hi1:(at':Int) + (k:Int) < (z.length:Int):=by omega
     go_wp2
     go_quiet (fail)
     go_wp2
     go_roundw
     case rel=>exact ⟨k + 1,by omega,by go_num,HG2.out,below_drewN hbw _⟩
     case measure=>simp [intOf];omega
    ·have HR:Hid (R=false):=HN' he
     have hne:(x != y)=true:=by simp;exact fun h=>he h.symm
     clear HN' HG' he
     go_wp2
     go_quiet (fail)
     go_wp2
     go_ret
     exact ⟨by rw [HR.out];rfl,below_drewN hbw _⟩
   ·have hke:k=m.length:=by omega
    subst hke
    have HR:Hid (R=true):=HY.out HT.out
    clear HY HN HG hcl hcl2 HT
    go_wp2
    go_ret
    exact ⟨by rw [HR.out];rfl,hbw⟩
 ·have e1:m.isPrefixOf (z.drop at')=false:=by
   rw [← pre_iff];simp only [List.length_drop]
   rw [decide_eq_false (by omega),Bool.false_and]
  rw [e1]
  clear h1 h2 e1 hm0
  go_enter Tryz.func135,Tryz.ntmps135
  go_wp2
  all_goals (go_ret;exact ⟨rfl,Below.refl _ _⟩)
end Go.Proofs.YtjomfbegghgbdaaGreat

namespace Go.Proofs.YtjomfbegghgbdaaGreat
open Go.RowKit
theorem row_any (c:Int) (w:World) (h:0≤c) (h':c≤255):Calls Tryz.prog 179 #[.int .u8 c] w fun e w'=>e=.returned (.tuple #[.int .i64 (Cx.rowN c),.int .u8 (Cx.rowLo c),.int .u8 (Cx.rowHi c)])∧w'=w:=by
 have fin:∀ (n lo hi:Int),Cx.rowN c=n→Cx.rowLo c=lo→Cx.rowHi c=hi→Calls Tryz.prog 179 #[.int .u8 c] w (fun e w'=>e=.returned (.tuple #[.int .i64 n,.int .u8 lo,.int .u8 hi])∧w'=w) →
   Calls Tryz.prog 179 #[.int .u8 c] w fun e w'=>e=.returned (.tuple #[.int .i64 (Cx.rowN c),.int .u8 (Cx.rowLo c),.int .u8 (Cx.rowHi c)])∧w'=w:=by
  intro n lo hi e1 e2 e3 h;rw [e1,e2,e3];exact h
 rcases (show c≤127∨(128≤c∧c < 194)∨(194≤c∧c≤223)∨c=224∨(225≤c∧c≤236)∨c=237∨(238≤c∧c≤239)∨c=240∨(241≤c∧c≤243)∨c=244∨(245≤c∧c≤255) from by omega) with g | ⟨g,g'⟩ | ⟨g,g'⟩ | g | ⟨g,g'⟩ | g | ⟨g,g'⟩ | g | ⟨g,g'⟩ | g | ⟨g,g'⟩
 ·refine fin 1 0 0 (by unfold Cx.rowN;rw [if_pos g]) (by unfold Cx.rowLo;rw [if_pos (by omega)]) (by unfold Cx.rowHi;rw [if_pos (by omega)]) ?_
  go_enter Tryz.func179,Tryz.ntmps179;go_wp2;go_ret3;exact ⟨rfl,rfl⟩
 ·refine fin 0 0 0 (by unfold Cx.rowN;rw [if_neg (by omega),if_pos (by omega)]) (by unfold Cx.rowLo;rw [if_pos (by omega)]) (by unfold Cx.rowHi;rw [if_pos (by omega)]) ?_
  go_enter Tryz.func179,Tryz.ntmps179;go_wp2;go_ret3;exact ⟨rfl,rfl⟩
 ·refine fin 2 128 191 (by unfold Cx.rowN;repeat' split <;> omega) (by unfold Cx.rowLo;repeat' split <;> omega) (by unfold Cx.rowHi;repeat' split <;> omega) ?_
  go_enter Tryz.func179,Tryz.ntmps179;go_wp2;go_ret3;exact ⟨rfl,rfl⟩
 ·subst g;refine fin 3 160 191 rfl rfl rfl ?_
  go_enter Tryz.func179,Tryz.ntmps179;go_wp2;go_ret3;exact ⟨rfl,rfl⟩
 ·refine fin 3 128 191 (by unfold Cx.rowN;repeat' split <;> omega) (by unfold Cx.rowLo;repeat' split <;> omega) (by unfold Cx.rowHi;repeat' split <;> omega) ?_
  go_enter Tryz.func179,Tryz.ntmps179;go_wp2;go_ret3;exact ⟨rfl,rfl⟩
 ·subst g;refine fin 3 128 159 rfl rfl rfl ?_
  go_enter Tryz.func179,Tryz.ntmps179;go_wp2;go_ret3;exact ⟨rfl,rfl⟩
 ·refine fin 3 128 191 (by unfold Cx.rowN;repeat' split <;> omega) (by unfold Cx.rowLo;repeat' split <;> omega) (by unfold Cx.rowHi;repeat' split <;> omega) ?_
  go_enter Tryz.func179,Tryz.ntmps179;go_wp2;go_ret3;exact ⟨rfl,rfl⟩
 ·subst g;refine fin 4 144 191 rfl rfl rfl ?_
  go_enter Tryz.func179,Tryz.ntmps179;go_wp2;go_ret3;exact ⟨rfl,rfl⟩
 ·refine fin 4 128 191 (by unfold Cx.rowN;repeat' split <;> omega) (by unfold Cx.rowLo;repeat' split <;> omega) (by unfold Cx.rowHi;repeat' split <;> omega) ?_
  go_enter Tryz.func179,Tryz.ntmps179;go_wp2;go_ret3;exact ⟨rfl,rfl⟩
 ·subst g;refine fin 4 128 143 rfl rfl rfl ?_
  go_enter Tryz.func179,Tryz.ntmps179;go_wp2;go_ret3;exact ⟨rfl,rfl⟩
 ·refine fin 0 0 0 (by unfold Cx.rowN;repeat' split <;> omega) (by unfold Cx.rowLo;repeat' split <;> omega) (by unfold Cx.rowHi;repeat' split <;> omega) ?_
  go_enter Tryz.func179,Tryz.ntmps179;go_wp2;go_ret3;exact ⟨rfl,rfl⟩
theorem ret_int' {k:IntKind} {a b:Int} (h:a=b):Ending.returned (.int k a)=.returned (.int k b):=by rw [h]
theorem rawAtom_any (c:Int) (w:World) (h:0≤c) (h':c≤255):Calls Tryz.prog 174 #[.int .u8 c] w fun e w'=>e=.returned (.int .i64 (-1 - c))∧w'=w:=by
 go_enter Tryz.func174,Tryz.ntmps174
 go_wp2
 go_ret
 exact ⟨rfl,rfl⟩
theorem Byt.at {zs:List Int} (h:Byt zs) (i:Nat):0≤zs[i]?.getD 0∧zs[i]?.getD 0≤255:=by
 by_cases hi:i < zs.length
 ·simp only [hi,List.getElem?_eq_getElem,Option.getD_some]
  exact h _ (List.getElem_mem hi)
 ·simp [List.getElem?_eq_none (show zs.length≤i by omega)]
set_option maxRecDepth 100000 in
theorem match_any (v:Value) (zs:List Int) (w:World) (h:Rd .u8 w v zs) (hb:Byt zs) (hn:zs≠[]) :
  Calls Tryz.prog 172 #[v] w fun e w'=>e=.returned (.int .i64 (Cx.mtch zs))∧w'=w:=by
 have hlen:=h.len
 obtain ⟨ao,cap,rfl,hl,hm,hc⟩:=h
 obtain ⟨b,off,rfl,hbl,hc⟩:=hc hn
 have hpos:0 < zs.length:=List.length_pos_iff.2 hn
 have h0:=hc 0 hpos
 have hb0:=hb.at 0
 rw [Nat.add_zero] at h0
 change 0≤Cx.c0 zs∧Cx.c0 zs≤255 at hb0
 change w.cell? ⟨b,off,none⟩=some (.int .u8 (Cx.c0 zs)) at h0
 have hr:=Cx.rowN_bd (Cx.c0 zs)
 have HY:Hid (∀ k,(∀ j,1≤j→j < k→Cx.okAt zs j=true)→(Cx.rowN (Cx.c0 zs)≤k∨zs.length≤k)→Cx.mtch zs=Cx.rowN (Cx.c0 zs)):=Cx.mtch_yes zs
 have HN:Hid (∀ k:Nat,1≤k→(k:Int) < Cx.rowN (Cx.c0 zs)→k < zs.length→¬ (Cx.loJ (Cx.c0 zs) k≤zs[k]?.getD 0∧zs[k]?.getD 0≤Cx.hiJ (Cx.c0 zs) k)→Cx.mtch zs=0):=Cx.mtch_no zs
 have HO:Hid (∀ k,(Cx.loJ (Cx.c0 zs) k≤zs[k]?.getD 0∧zs[k]?.getD 0≤Cx.hiJ (Cx.c0 zs) k)→Cx.okAt zs k=true):=Cx.okAt_of zs
 have HB:Hid (Byt zs):=hb
 generalize Cx.c0 zs=c at *
 generalize hM:Cx.mtch zs=M at *
 have HC:Hid (∀ i,i < zs.length→w.cell? ⟨b,off + i,none⟩=some (.int .u8 (zs[i]?.getD 0))):=hc
 clear hn hc hb hM hm
 go_enter Tryz.func172,Tryz.ntmps172
 go_wp2_with (go_at_call 179;refine (row_any _ _ hb0.1 hb0.2).mono ?_;rintro e w' ⟨rfl,rfl⟩)
 go_loop [4,5,6] (fun f t i=>∃ k:Nat,1≤k∧k≤4∧i=.int .i64 k∧f=.int .u8 (Cx.loJ c k)∧t=.int .u8 (Cx.hiJ c k)∧Hid (∀ j,1≤j→j < k→Cx.okAt zs j=true)) (fun _ _ i=>5 - (intOf i).toNat)
 case atStart=>exact ⟨1,Nat.le_refl _,by omega,rfl,rfl,rfl,fun j h1 h2=>by omega⟩
 case round =>
  obtain ⟨k,hk1,hk2,rfl,rfl,rfl,HJ⟩:=hrel
  by_cases hr1:(k:Int) < Cx.rowN c
  ·by_cases hl1:k < zs.length
   ·have hx:=HC.out k hl1
    have hxb:=HB.out.at k
    have HN':=HN.out k hk1 hr1 hl1
    have HO':=HO.out k
    generalize zs[k]?.getD 0=x at *
    have HX:Hid (Cx.okAt zs k=true→∀ j,1≤j→j < k + 1→Cx.okAt zs j=true):=fun ho j h1 h2=>by
     by_cases hj:j=k
     ·rw [hj];exact ho
     ·exact HJ.out j h1 (by omega)
    by_cases hlo:Cx.loJ c k≤x
    ·by_cases hhi:x≤Cx.hiJ c k
     ·have HX':Hid (∀ j,1≤j→j < k + 1→Cx.okAt zs j=true):=HX.out (HO' ⟨hlo,hhi⟩)
      have HE1:Hid (Cx.loJ c (k + 1)=128):=by unfold Hid Cx.loJ;rw [if_neg (by omega)]
      have HE2:Hid (Cx.hiJ c (k + 1)=191):=by unfold Hid Cx.hiJ;rw [if_neg (by omega)]
      clear HX HO' HN' HN HO HY HJ HC HB
      go_wp2
      go_round
      case rel=>exact ⟨k + 1,by omega,by omega,by go_num,by rw [HE1.out],by rw [HE2.out],HX'.out⟩
      case measure=>simp [intOf];omega
     ·have HM:Hid (M=0):=HN' (fun h=>hhi h.2)
      clear HX HO' HN' HN HO HY HJ HC HB
      go_wp2
      go_ret
      exact ⟨by rw [HM.out];rfl,rfl⟩
    ·have HM:Hid (M=0):=HN' (fun h=>hlo h.1)
     have hlt:x < Cx.loJ c k:=by omega
     clear HX HO' HN' HN HO HY HJ HC HB
     go_wp2
     go_ret
     exact ⟨by rw [HM.out];rfl,rfl⟩
   ·have HM:Hid (M=Cx.rowN c):=HY.out k HJ.out (.inr (by omega))
    clear HN HO HY HJ HC HB
    go_wp2
    go_ret
    exact ⟨by rw [HM.out];rfl,rfl⟩
  ·have HM:Hid (M=Cx.rowN c):=HY.out k HJ.out (.inl (by omega))
   clear HN HO HY HJ HC HB
   go_wp2
   go_ret
   exact ⟨by rw [HM.out];rfl,rfl⟩
theorem wraps_i64 (n:Int) (h₀:0≤n) (h₁:n < 2 ^ 63):IntKind.i64.wrap n=n:=by rw [IntKind.wrap_i64];omega
theorem and31 {x:Int} (h0:0≤x) (h1:x < 256):bits .and .i64 x 31=x % 32:=bits_mask .i64 63 (by decide) wraps_i64 5 (by decide) x h0 (by omega)
theorem and15 {x:Int} (h0:0≤x) (h1:x < 256):bits .and .i64 x 15=x % 16:=bits_mask .i64 63 (by decide) wraps_i64 4 (by decide) x h0 (by omega)
theorem and7 {x:Int} (h0:0≤x) (h1:x < 256):bits .and .i64 x 7=x % 8:=bits_mask .i64 63 (by decide) wraps_i64 3 (by decide) x h0 (by omega)
theorem or6 {x y:Int} (hx0:0≤x) (hx:x % 64=0) (hx1:x < 9223372036854775808) (h0:0≤y) (h1:y < 64):bits .or .i64 x y=x + y:=bits_join .i64 63 (by decide) wraps_i64 6 x y hx0 (by omega) (by omega) h0 (by omega) (by omega)
theorem wrap_small {x:Int} (h0:0≤x) (h1:x < 9223372036854775808):wrap64 x=x:=by unfold wrap64;omega
def Cx.Whole (zs:List Int):Prop :=
 (∃ x,zs=[x]∧0≤x∧x≤127)∨(∃ x y,zs=[x,y]∧194≤x∧x≤223∧128≤y∧y≤191) ∨
 (∃ x y z,zs=[x,y,z]∧224≤x∧x≤239∧128≤y∧y≤191∧128≤z∧z≤191) ∨
 (∃ x y z u,zs=[x,y,z,u]∧240≤x∧x≤244∧128≤y∧y≤191∧128≤z∧z≤191∧128≤u∧u≤191)
theorem Cx.whole_of (b:List Int) (hb:Byt b) (h0:0 < Cx.mtch b) (hl:Cx.mtch b≤b.length):Cx.Whole (b.take (Cx.mtch b).toNat):=by
 rcases Cx.row_bytes b hb h0 hl with ⟨x,e,_,r⟩ | ⟨x,y,e,_,r⟩ | ⟨x,y,z,e,_,r1,r2,r3,r4,r5,r6⟩ | ⟨x,y,z,u,e,_,r1,r2,r3,r4,r5,r6,r7,r8⟩
 ·exact .inl ⟨x,e,r⟩
 ·exact .inr (.inl ⟨x,y,e,r⟩)
 ·refine .inr (.inr (.inl ⟨x,y,z,e,r1,r2,?_,?_,r5,r6⟩))
  ·unfold Cx.rowLo at r3;repeat' split at r3
   all_goals omega
  ·unfold Cx.rowHi at r4;repeat' split at r4
   all_goals omega
 ·refine .inr (.inr (.inr ⟨x,y,z,u,e,r1,r2,?_,?_,r5,r6,r7,r8⟩))
  ·unfold Cx.rowLo at r3;repeat' split at r3
   all_goals omega
  ·unfold Cx.rowHi at r4;repeat' split at r4
   all_goals omega
set_option maxRecDepth 100000 in
theorem scalar_any (v:Value) (zs:List Int) (w:World) (h:Rd .u8 w v zs) (hw:Cx.Whole zs) :
  Calls Tryz.prog 173 #[v] w fun e w'=>e=.returned (.int .i64 (Cx.val zs))∧Below w.heap.size w w':=by
 obtain ⟨ao,cap,rfl,hl,hm,hc⟩:=h
 have hm':cap≤9223372036854775807:=hm
 clear hm
 rcases hw with ⟨x,rfl,r1,r2⟩ | ⟨x,y,rfl,r1,r2,r3,r4⟩ | ⟨x,y,z,rfl,r1,r2,r3,r4,r5,r6⟩ | ⟨x,y,z,u,rfl,r1,r2,r3,r4,r5,r6,r7,r8⟩
 ·obtain ⟨b,off,rfl,hbl,hc⟩:=hc (by simp)
  have h0:=hc 0 (by simp)
  simp at h0 hl
  clear hc
  simp only [List.length_cons,List.length_nil]
  go_enter Tryz.func173,Tryz.ntmps173
  go_wp2
  go_ret
  exact ⟨rfl,Below.refl _ _⟩
 ·obtain ⟨b,off,rfl,hbl,hc⟩:=hc (by simp)
  have h0:=hc 0 (by simp)
  have h1:=hc 1 (by simp)
  simp at h0 h1 hl
  clear hc
  simp only [List.length_cons,List.length_nil]
  go_enter Tryz.func173,Tryz.ntmps173
  go_wp2
  go_quiet (fail)
  go_wp2
  refine wp_loop_rounds 2 ?_
  rw [rounds_succ]
  go_wp2
  rw [rounds_succ]
  go_wp2
  go_ret
  refine ⟨ret_int' ?_,below_drewN (Below.refl _ _) _⟩
  rw [and31 (by omega) (by omega),wrap_small (by omega) (by omega),or6 (by omega) (by omega) (by omega) (by omega) (by omega)]
  simp only [Cx.val];omega
 ·obtain ⟨b,off,rfl,hbl,hc⟩:=hc (by simp)
  have h0:=hc 0 (by simp)
  have h1:=hc 1 (by simp)
  have h2:=hc 2 (by simp)
  simp at h0 h1 h2 hl
  rw [show off + 2=off + 1 + 1 from rfl] at h2
  clear hc
  simp only [List.length_cons,List.length_nil]
  go_enter Tryz.func173,Tryz.ntmps173
  go_wp2
  go_quiet (fail)
  go_wp2
  refine wp_loop_rounds 3 ?_
  rw [rounds_succ]
  go_wp2
  rw [rounds_succ]
  go_wp2
  rw [rounds_succ]
  go_wp2
  go_ret
  refine ⟨ret_int' ?_,below_drewN (Below.refl _ _) _⟩
  rw [and15 (by omega) (by omega),wrap_small (x:=x % 16 * 64) (by omega) (by omega),or6 (x:=x % 16 * 64) (by omega) (by omega) (by omega) (by omega) (by omega),wrap_small (by omega) (by omega),or6 (by omega) (by omega) (by omega) (by omega) (by omega)]
  simp only [Cx.val];omega
 ·obtain ⟨b,off,rfl,hbl,hc⟩:=hc (by simp)
  have h0:=hc 0 (by simp)
  have h1:=hc 1 (by simp)
  have h2:=hc 2 (by simp)
  have h3:=hc 3 (by simp)
  simp at h0 h1 h2 h3 hl
  rw [show off + 2=off + 1 + 1 from rfl] at h2
  rw [show off + 3=off + 1 + 2 from rfl] at h3
  clear hc
  simp only [List.length_cons,List.length_nil]
  go_enter Tryz.func173,Tryz.ntmps173
  go_wp2
  go_quiet (fail)
  go_wp2
  refine wp_loop_rounds 4 ?_
  rw [rounds_succ]
  go_wp2
  rw [rounds_succ]
  go_wp2
  rw [rounds_succ]
  go_wp2
  rw [rounds_succ]
  go_wp2
  go_ret
  refine ⟨ret_int' ?_,below_drewN (Below.refl _ _) _⟩
  rw [and7 (by omega) (by omega),wrap_small (x:=x % 8 * 64) (by omega) (by omega),or6 (x:=x % 8 * 64) (by omega) (by omega) (by omega) (by omega) (by omega),wrap_small (x:=(x % 8 * 64 + y % 64) * 64) (by omega) (by omega),or6 (x:=(x % 8 * 64 + y % 64) * 64) (by omega) (by omega) (by omega) (by omega) (by omega),wrap_small (by omega) (by omega),or6 (by omega) (by omega) (by omega) (by omega) (by omega)]
  simp only [Cx.val];omega
set_option maxRecDepth 100000 in
theorem first8_any (v:Value) (zs:List Int) (w:World) (h:Rd .u8 w v zs) (hb:Byt zs) (hn:zs≠[]) :
  Calls Tryz.prog 166 #[.agg #[],v] w fun e w'=>e=.returned (.tuple #[.int .i64 (Cx.first8 zs).1,.int .i64 (Cx.first8 zs).2])∧Below w.heap.size w w':=by
 have HR:Hid (Rd .u8 w v zs):=h
 have HB:Hid (Byt zs):=hb
 have HNE:Hid (zs≠[]):=hn
 have hlen:=h.len
 have hmb:=Cx.mtch_bd zs
 have hb0:=hb.at 0
 change 0≤Cx.c0 zs∧Cx.c0 zs≤255 at hb0
 obtain ⟨ao,cap,rfl,hl,hm,hc⟩:=h
 obtain ⟨b,off,rfl,hbl,hc⟩:=hc hn
 have hpos:0 < zs.length:=List.length_pos_iff.2 hn
 have h0:=hc 0 hpos
 rw [Nat.add_zero] at h0
 change w.cell? ⟨b,off,none⟩=some (.int .u8 (Cx.c0 zs)) at h0
 have h0':∀ o:Obj,(w.alloc o).cell? ⟨b,off,none⟩=some (.int .u8 (Cx.c0 zs)):=fun o=>((Below.refl w.heap.size w).alloc (Nat.le_refl _) o |>.cell (p:=⟨b,off,none⟩) hbl).trans h0
 clear hn hc hb hm
 by_cases hs:0 < Cx.mtch zs∧Cx.mtch zs≤zs.length
 ·have HW:Hid (Cx.Whole (zs.take (Cx.mtch zs).toNat)):=Cx.whole_of zs HB.out hs.1 hs.2
  have HE:Hid (Cx.first8 zs=(Cx.val (zs.take (Cx.mtch zs).toNat),Cx.mtch zs)):=by unfold Hid Cx.first8;rw [if_pos hs]
  have HT:Hid (Rd .u8 w (.slice (some ⟨b,off,none⟩) (Cx.mtch zs).toNat cap) (zs.take (Cx.mtch zs).toNat)):=HR.out.take _ (by omega)
  obtain ⟨hs1,hs2⟩:=hs
  go_enter Tryz.func166,Tryz.ntmps166
  go_wp2_with fail
  refine (match_any _ zs _ (HR.out.ext ((Below.refl _ _).alloc (Nat.le_refl _) _)) HB.out HNE.out).mono ?_
  rintro e w' ⟨rfl,rfl⟩
  go_wp2_with fail
  refine (scalar_any _ _ _ (HT.out.ext ((Below.refl _ _).alloc (Nat.le_refl _) _)) HW.out).mono ?_
  rintro e w1 ⟨rfl,hb1⟩
  go_wp2
  go_ret2
  exact ⟨by rw [HE.out];rfl,ext_trans ((Below.refl _ _).alloc (Nat.le_refl _) _) hb1⟩
 ·have HE:Hid (Cx.first8 zs=(-1 - Cx.c0 zs,1)):=by unfold Hid Cx.first8;rw [if_neg hs]
  by_cases hs1:0 < Cx.mtch zs
  ·have hs2:¬ Cx.mtch zs≤zs.length:=fun h=>hs ⟨hs1,h⟩
   clear hs
   go_enter Tryz.func166,Tryz.ntmps166
   go_wp2_with fail
   refine (match_any _ zs _ (HR.out.ext ((Below.refl _ _).alloc (Nat.le_refl _) _)) HB.out HNE.out).mono ?_
   rintro e w' ⟨rfl,rfl⟩
   go_wp2_with fail
   refine (rawAtom_any _ _ hb0.1 hb0.2).mono ?_
   rintro e w1 ⟨rfl,rfl⟩
   go_wp2
   go_ret2
   exact ⟨by rw [HE.out];rfl,(Below.refl _ _).alloc (Nat.le_refl _) _⟩
  ·clear hs
   go_enter Tryz.func166,Tryz.ntmps166
   go_wp2_with fail
   refine (match_any _ zs _ (HR.out.ext ((Below.refl _ _).alloc (Nat.le_refl _) _)) HB.out HNE.out).mono ?_
   rintro e w' ⟨rfl,rfl⟩
   go_wp2_with fail
   refine (rawAtom_any _ _ hb0.1 hb0.2).mono ?_
   rintro e w1 ⟨rfl,rfl⟩
   go_wp2
   go_ret2
   exact ⟨by rw [HE.out];rfl,(Below.refl _ _).alloc (Nat.le_refl _) _⟩
end Go.Proofs.YtjomfbegghgbdaaGreat

namespace Go.Proofs.YtjomfbegghgbdaaGreat
open Go.RowKit
def Cx.wv (k:Int) (zs:List Int):Int:=if k=0 then zs[1]?.getD 0 * 256 + zs[0]?.getD 0 else zs[0]?.getD 0 * 256 + zs[1]?.getD 0
theorem Cx.wv_bd (k:Int) (zs:List Int) (hb:Byt zs):0≤Cx.wv k zs∧Cx.wv k zs≤65535:=by
 have:=hb.at 0
 have:=hb.at 1
 unfold Cx.wv;split <;> omega
theorem or8 {x y:Int} (hx0:0≤x) (hx:x % 256=0) (hx1:x < 9223372036854775808) (h0:0≤y) (h1:y < 256):bits .or .i64 x y=x + y:=bits_join .i64 63 (by decide) wraps_i64 8 x y hx0 (by omega) (by omega) h0 (by omega) (by omega)
set_option maxRecDepth 100000 in
theorem unitW_any (k:Int) (v:Value) (zs:List Int) (w:World) (h:Rd .u8 w v zs) (hb:Byt zs) (hk:k=0∨k=1) (h2:2≤zs.length) :
  Calls Tryz.prog 189 #[.agg #[.int .i64 k],v] w fun e w'=>e=.returned (.int .i64 (Cx.wv k zs))∧∃ n,w'=(w.alloc (.cells #[.int .i64 k] 187)).drewN n:=by
 have hlen:=h.len
 obtain ⟨ao,cap,rfl,hl,hm,hc⟩:=h
 obtain ⟨b,off,rfl,hbl,hc⟩:=hc (List.length_pos_iff.1 (by omega))
 have h0:=hc 0 (by omega)
 have h1:=hc 1 (by omega)
 have hb0:=hb.at 0
 have hb1:=hb.at 1
 have HE:Hid (Cx.wv k zs=if k=0 then zs[1]?.getD 0 * 256 + zs[0]?.getD 0 else zs[0]?.getD 0 * 256 + zs[1]?.getD 0):=rfl
 generalize Cx.wv k zs=R at *
 generalize zs[0]?.getD 0=x at *
 generalize zs[1]?.getD 0=y at *
 rw [Nat.add_zero] at h0
 have h0':∀ o:Obj,(w.alloc o).cell? ⟨b,off,none⟩=some (.int .u8 x):=fun o=>((Below.refl w.heap.size w).alloc (Nat.le_refl _) o |>.cell (p:=⟨b,off,none⟩) hbl).trans h0
 have h1':∀ o:Obj,(w.alloc o).cell? ⟨b,off + 1,none⟩=some (.int .u8 y):=fun o=>((Below.refl w.heap.size w).alloc (Nat.le_refl _) o |>.cell (p:=⟨b,off + 1,none⟩) hbl).trans h1
 have hg0:(0:Int) < (zs.length:Int):=by omega
 have hg1:(1:Int) < (zs.length:Int):=by omega
 clear hc hb hm h0 h1
 rcases hk with rfl | rfl
 ·rw [if_pos rfl] at HE
  go_enter Tryz.func189,Tryz.ntmps189
  go_wp2
  go_quiet (fail)
  go_wp2
  go_ret
  refine ⟨ret_int' ?_,_,rfl⟩
  rw [HE.out]
  rw [or8 (by omega) (by omega) (by omega) (by omega) (by omega)]
 ·rw [if_neg (by omega)] at HE
  go_enter Tryz.func189,Tryz.ntmps189
  go_wp2
  go_quiet (fail)
  go_wp2
  go_ret
  refine ⟨ret_int' ?_,_,rfl⟩
  rw [HE.out]
  rw [or8 (by omega) (by omega) (by omega) (by omega) (by omega)]
def Cx.hiU (a:Int):Bool:=decide (55296≤a) && decide (a < 56320)
def Cx.loU (a:Int):Bool:=decide (56320≤a) && decide (a≤57343)
theorem isHigh_any (a:Int) (w:World):Calls Tryz.prog 191 #[.int .i64 a] w fun e w'=>e=.returned (.bool (Cx.hiU a))∧w'=w:=by
 unfold Cx.hiU
 by_cases h1:55296≤a
 ·go_enter Tryz.func191,Tryz.ntmps191
  go_wp2
  go_ret
  exact ⟨by rw [decide_eq_true h1,Bool.true_and];rfl,rfl⟩
 ·have hd:decide (55296≤a)=false:=by simp;omega
  go_enter Tryz.func191,Tryz.ntmps191
  go_wp2
  go_ret
  exact ⟨rfl,rfl⟩
theorem isLow_any (a:Int) (w:World):Calls Tryz.prog 192 #[.int .i64 a] w fun e w'=>e=.returned (.bool (Cx.loU a))∧w'=w:=by
 unfold Cx.loU
 by_cases h1:56320≤a
 ·go_enter Tryz.func192,Tryz.ntmps192
  go_wp2
  go_ret
  exact ⟨by rw [decide_eq_true h1,Bool.true_and];rfl,rfl⟩
 ·have hd:decide (56320≤a)=false:=by simp;omega
  go_enter Tryz.func192,Tryz.ntmps192
  go_wp2
  go_ret
  exact ⟨rfl,rfl⟩
theorem ext_alloc {a w:World} (h:Below a.heap.size a w) (o:Obj):Below a.heap.size a (w.alloc o):=h.alloc h.size o
theorem two_new {w w':World} {o o':Obj} {n:Nat} (h:w'=((w.alloc o).alloc o').drewN n):Below w.heap.size w w':=by
 subst h;exact below_drewN (((Below.refl _ _).alloc (Nat.le_refl _) _).alloc (by simp) _) _
theorem one_new {w w':World} {o:Obj} {n:Nat} (h:w'=(w.alloc o).drewN n):Below w.heap.size w w':=by
 subst h;exact below_drewN ((Below.refl _ _).alloc (Nat.le_refl _) _) _
theorem Rd.drop {k:IntKind} {w:World} {b off n cap:Nat} {zs:List Int} (h:Rd k w (.slice (some ⟨b,off,none⟩) n cap) zs) (m:Nat) (hm:m < zs.length):Rd k w (.slice (some ⟨b,off + m,none⟩) (n - m) (cap - m)) (zs.drop m):=by
 obtain ⟨ao',cap',hv,h1,h2,h3⟩:=h
 cases hv
 refine ⟨_,cap - m,by rw [List.length_drop],by rw [List.length_drop];omega,by omega,fun hn=>?_⟩
 obtain ⟨b',off',ha,hb,hc⟩:=h3 (fun h=>by rw [h] at hm;simp at hm)
 cases ha
 refine ⟨b,off + m,rfl,hb,fun i hi=>?_⟩
 rw [List.length_drop] at hi
 rw [Nat.add_assoc,hc (m + i) (by omega),List.getElem?_drop]
def Cx.isP (k:Int) (zs:List Int):Bool:=decide (4≤zs.length) && Cx.hiU (Cx.wv k zs) && Cx.loU (Cx.wv k (zs.drop 2))
set_option maxRecDepth 100000 in
set_option maxHeartbeats 1000000 in
theorem isPair_any (k:Int) (v:Value) (zs:List Int) (w:World) (h:Rd .u8 w v zs) (hb:Byt zs) (hk:k=0∨k=1) (h2:2≤zs.length) :
  Calls Tryz.prog 187 #[.agg #[.int .i64 k],v] w fun e w'=>e=.returned (.bool (Cx.isP k zs))∧Below w.heap.size w w':=by
 have HR:Hid (Rd .u8 w v zs):=h
 have HB:Hid (Byt zs):=hb
 have HK:Hid (k=0∨k=1):=hk
 have hlen:=h.len
 obtain ⟨ao,cap,rfl,hl,hm,hc⟩:=h
 obtain ⟨b,off,rfl,hbl,hc⟩:=hc (List.length_pos_iff.1 (by omega))
 clear hm hk hb
 by_cases h4:4≤zs.length
 ·have HD:Hid (Rd .u8 w (.slice (some ⟨b,off + 2,none⟩) (zs.length - 2) (cap - 2)) (zs.drop 2)):=HR.out.drop 2 (by omega)
  have hi4:(4:Int)≤(zs.length:Int):=by omega
  cases hH:Cx.hiU (Cx.wv k zs)
  ·have HE:Hid (Cx.isP k zs=false):=by unfold Hid Cx.isP;rw [hH,Bool.and_false,Bool.false_and]
   clear hc
   go_enter Tryz.func187,Tryz.ntmps187
   go_wp2_with fail
   first | go_region_with (first | (go_at_call 191;refine (isHigh_any _ _).mono ?_;rintro e w' ⟨rfl,rfl⟩;rw [hH]) | (go_at_call_of 189 (Value.slice (some { block:=b,off:=off }) zs.length cap);refine (unitW_any k _ zs _ ?_ HB.out HK.out h2).mono ?_;exact HR.out.ext ((Below.refl _ _).alloc (Nat.le_refl _) _).drew;rintro e w' ⟨rfl,n1,rfl⟩)) | fail
   all_goals
    go_wp2
    go_ret
    exact ⟨by rw [HE.out];rfl,(by repeat (first | exact Below.refl _ _ | apply below_drewN | refine ext_alloc ?_ _ | apply Below.drew))⟩
  ·cases hL:Cx.loU (Cx.wv k (zs.drop 2))
   ·have HE:Hid (Cx.isP k zs=false):=by unfold Hid Cx.isP;rw [hL,Bool.and_false]
    clear hc
    go_enter Tryz.func187,Tryz.ntmps187
    go_wp2_with fail
    first | go_region_with (first | (go_at_call 191;refine (isHigh_any _ _).mono ?_;rintro e w' ⟨rfl,rfl⟩;rw [hH]) | (go_at_call 192;refine (isLow_any _ _).mono ?_;rintro e w' ⟨rfl,rfl⟩;rw [hL]) | (go_at_call_of 189 (Value.slice (some { block:=b,off:=off }) zs.length cap);refine (unitW_any k _ zs _ ?_ HB.out HK.out h2).mono ?_;exact HR.out.ext ((Below.refl _ _).alloc (Nat.le_refl _) _).drew;rintro e w' ⟨rfl,n1,rfl⟩) | (go_at_call 189;refine (unitW_any k _ (zs.drop 2) _ ?_ (HB.out.drop 2) HK.out ?_).mono ?_;exact HD.out.ext (two_new rfl);(rw [List.length_drop];omega);rintro e w' ⟨rfl,n2,rfl⟩)) | fail
    all_goals
     go_wp2
     go_ret
     exact ⟨by rw [HE.out];rfl,(by repeat (first | exact Below.refl _ _ | apply below_drewN | refine ext_alloc ?_ _ | apply Below.drew))⟩
   ·have HE:Hid (Cx.isP k zs=true):=by unfold Hid Cx.isP;rw [hH,hL,decide_eq_true h4];rfl
    clear hc
    go_enter Tryz.func187,Tryz.ntmps187
    go_wp2_with fail
    first | go_region_with (first | (go_at_call 191;refine (isHigh_any _ _).mono ?_;rintro e w' ⟨rfl,rfl⟩;rw [hH]) | (go_at_call 192;refine (isLow_any _ _).mono ?_;rintro e w' ⟨rfl,rfl⟩;rw [hL]) | (go_at_call_of 189 (Value.slice (some { block:=b,off:=off }) zs.length cap);refine (unitW_any k _ zs _ ?_ HB.out HK.out h2).mono ?_;exact HR.out.ext ((Below.refl _ _).alloc (Nat.le_refl _) _).drew;rintro e w' ⟨rfl,n1,rfl⟩) | (go_at_call 189;refine (unitW_any k _ (zs.drop 2) _ ?_ (HB.out.drop 2) HK.out ?_).mono ?_;exact HD.out.ext (two_new rfl);(rw [List.length_drop];omega);rintro e w' ⟨rfl,n2,rfl⟩)) | fail
    all_goals
     go_wp2
     go_ret
     exact ⟨by rw [HE.out];rfl,(by repeat (first | exact Below.refl _ _ | apply below_drewN | refine ext_alloc ?_ _ | apply Below.drew))⟩
 ·have HE:Hid (Cx.isP k zs=false):=by unfold Hid Cx.isP;rw [decide_eq_false h4];rfl
  have hd:decide ((4:Int)≤(zs.length:Int))=false:=by simp;omega
  clear hc
  go_enter Tryz.func187,Tryz.ntmps187
  go_wp2
  go_quiet (fail)
  go_wp2
  go_ret
  exact ⟨by rw [HE.out];rfl,(by repeat (first | exact Below.refl _ _ | apply below_drewN | refine ext_alloc ?_ _ | apply Below.drew))⟩
end Go.Proofs.YtjomfbegghgbdaaGreat

namespace Go.Proofs.YtjomfbegghgbdaaGreat
open Go.RowKit
theorem and63 {x:Int} (h0:0≤x) (h1:x < 9223372036854775808):bits .and .i64 x 63=x % 64:=bits_mask .i64 63 (by decide) wraps_i64 6 (by decide) x h0 (by omega)
theorem orJ (i:Nat) {x y:Int} (hx0:0≤x) (hx:x % 2 ^ i=0) (hx1:x < 9223372036854775808) (h0:0≤y) (h1:y < 2 ^ i) (h2:y < 9223372036854775808):bits .or .i64 x y=x + y:=bits_join .i64 63 (by decide) wraps_i64 i x y hx0 hx (by omega) h0 h1 (by omega)
theorem further_any (r:Int) (w:World) (h0:0≤r) (h1:r≤1114111):Calls Tryz.prog 176 #[.int .i64 r] w fun e w'=>e=.returned (.int .u8 (128 + r % 64))∧w'=w:=by
 have e1:bits .and .i64 r 63=r % 64:=and63 h0 (by omega)
 have e2:bits .or .i64 128 (r % 64)=128 + r % 64:=orJ 6 (by omega) (by decide) (by omega) (by omega) (by omega) (by omega)
 go_enter Tryz.func176,Tryz.ntmps176
 go_wp2
 go_ret
 exact ⟨ret_int' (by omega),rfl⟩
theorem rawByte_any (a:Int) (w:World) (h0:-256≤a) (h1:a≤-1):Calls Tryz.prog 175 #[.int .i64 a] w fun e w'=>e=.returned (.int .u8 (-1 - a))∧w'=w:=by
 go_enter Tryz.func175,Tryz.ntmps175
 go_wp2
 go_ret
 exact ⟨rfl,rfl⟩
theorem cell_lit1 (w:World) (o:Obj) (e:TypeId) (cs:List Value):∀ j u,cs[j]?=some u→((w.alloc o).alloc (.cells cs.toArray e)).cell? ((⟨w.heap.size + 1,0,none⟩:Addr).add j)=some u:=by
 intro j u hu
 have h:((w.alloc o).alloc (.cells cs.toArray e)).heap[w.heap.size + 1]?=some (.cells cs.toArray e):=by
  have:=heap_alloc_new (w.alloc o) (.cells cs.toArray e)
  rwa [World.size_alloc] at this
 have hadd:(⟨w.heap.size + 1,0,none⟩:Addr).add j=⟨w.heap.size + 1,j,none⟩:=by unfold Addr.add;split <;> simp_all
 rw [hadd,cell_of_row _ _ j _ _ _ h]
 simpa using hu
theorem below_put {base:Nat} {w w':World} {o o':Obj} {out:Value} {n:Nat} (hbase:base≤w.heap.size) (hlt:∀ k,out.ownBlock=some k→base≤k∧k < n) (hg:((w.alloc o).alloc o').grownBy w' out.ownBlock):Below base w w' :=
 (((Below.refl base w).alloc hbase o).alloc (by simp;omega) o').grown hg (by simp;omega) (fun k hk=>(hlt k hk).1)
theorem below_put3 {base:Nat} {w w':World} {o o' o'':Obj} {out:Value} {n:Nat} (hbase:base≤w.heap.size) (hlt:∀ k,out.ownBlock=some k→base≤k∧k < n) (hg:(((w.alloc o).alloc o').alloc o'').grownBy w' out.ownBlock):Below base w w' :=
 ((((Below.refl base w).alloc hbase o).alloc (by simp;omega) o').alloc (by simp;omega) o'').grown hg (by simp;omega) (fun k hk=>(hlt k hk).1)
theorem grown_put3 {w w':World} {o o' o'':Obj} {row:Option Nat} (hg:(((w.alloc o).alloc o').alloc o'').grownBy w' row):w.grownBy w' row :=
 ⟨hg.os,hg.tape,hg.output,by have:=hg.size;simp at this;omega,fun k hk hne=>by
  rw [hg.block k (by simp;omega) hne,Below.heap_alloc _ _ _ (by simp;omega),Below.heap_alloc _ _ _ (by simp;omega),Below.heap_alloc _ _ _ hk]⟩
theorem ones_u8 (bs:List Int):∀ u ∈ bs.map (Value.int .u8),u.oneCell'=true:=by
 intro u hu
 obtain ⟨_,_,rfl⟩:=List.mem_map.1 hu
 rfl
set_option maxRecDepth 100000 in
theorem put1_any (out:Value) (xs:List Int) (base:Nat) (a:Int) (w:World) (hown:w.ownsRow base 5 1 out xs.length (xs.map (Value.int .u8))) (hbase:base≤w.heap.size) (hl:xs.length + 4≤140737488355328) (hf:Cx.fits 1 a=true) :
  Calls Tryz.prog 169 #[.agg #[],out,.int .i64 a] w fun e w'=>∃ v',e=.returned v'∧w'.ownsRow base 5 1 v' (xs ++ Cx.put 1 a).length ((xs ++ Cx.put 1 a).map (Value.int .u8))∧Below base w w':=by
 obtain ⟨i0,hi,hz0,hz1,hz2⟩:=info_parts Tryz.info_u8
 have hfr:(-256≤a∧a≤-129)∨(0≤a∧a≤1114111):=by
  unfold Cx.fits Cx.isSc at hf
  simp at hf
  omega
 have hlt:=hown.lt
 clear hf
 rcases (show (-256≤a∧a≤-129)∨(0≤a∧a < 128)∨(128≤a∧a < 2048)∨(2048≤a∧a < 65536)∨(65536≤a∧a≤1114111) from by omega) with ⟨h1,h2⟩ | ⟨h1,h2⟩ | ⟨h1,h2⟩ | ⟨h1,h2⟩ | ⟨h1,h2⟩
 ·have HE:Hid (Cx.put 1 a=[-1 - a]):=by unfold Hid Cx.put;rw [if_pos (by omega)]
  clear hfr
  go_enter Tryz.func169,Tryz.ntmps169
  go_wp2_with (first | (go_at_call 175;refine (rawByte_any _ _ (by omega) (by omega)).mono ?_;rintro e w' ⟨rfl,rfl⟩) | (at_builtin;refine wpList_append_own _ rfl _ _ 22 rfl base 5 i0 (.int .u8 0) 1 1 Tryz.underlying22 hi hz0 hz1 hz2 rfl (by decide) _ _ _ rfl ((hown.alloc _).alloc _) ⟨w.heap.size + 1,0,none⟩ 1 1 ([-1 - a].map (Value.int .u8)) rfl rfl (cell_lit1 _ _ _ _) (ones_u8 _) (by unfold maxLen;omega) (by omega) (by simp;omega) ?_;intro v' w' hown' hg' hx'))
  go_ret
  exact ⟨_,rfl,by rw [HE.out,List.length_append,List.map_append];exact hown',below_put hbase hlt hg'⟩
 ·have HE:Hid (Cx.put 1 a=[a]):=by unfold Hid Cx.put Cx.put8;rw [if_neg (by omega),if_pos rfl,if_pos h2]
  clear hfr
  go_enter Tryz.func169,Tryz.ntmps169
  go_wp2_with (first | (at_builtin;refine wpList_append_own _ rfl _ _ 22 rfl base 5 i0 (.int .u8 0) 1 1 Tryz.underlying22 hi hz0 hz1 hz2 rfl (by decide) _ _ _ rfl ((hown.alloc _).alloc _) ⟨w.heap.size + 1,0,none⟩ 1 1 ([a].map (Value.int .u8)) rfl rfl (cell_lit1 _ _ _ _) (ones_u8 _) (by unfold maxLen;omega) (by omega) (by simp;omega) ?_;intro v' w' hown' hg' hx'))
  go_ret
  exact ⟨_,rfl,by rw [HE.out,List.length_append,List.map_append];exact hown',below_put hbase hlt hg'⟩
 ·have HE:Hid (Cx.put 1 a=[192 + a / 64,128 + a % 64]):=by unfold Hid Cx.put Cx.put8;rw [if_neg (by omega),if_pos rfl,if_neg (by omega),if_pos h2]
  have e1:bits .or .i64 192 (a / 64)=192 + a / 64:=orJ 5 (by omega) (by decide) (by omega) (by omega) (by omega) (by omega)
  clear hfr
  go_enter Tryz.func169,Tryz.ntmps169
  go_wp2_with (first | (go_at_call 176;refine (further_any _ _ (by omega) (by omega)).mono ?_;rintro e wf ⟨rfl,rfl⟩) | (at_builtin;refine wpList_append_own _ rfl _ _ 22 rfl base 5 i0 (.int .u8 0) 1 1 Tryz.underlying22 hi hz0 hz1 hz2 rfl (by decide) _ _ _ rfl ((hown.alloc _).alloc _) ⟨w.heap.size + 1,0,none⟩ 2 2 ([192 + a / 64,128 + a % 64].map (Value.int .u8)) rfl rfl (cell_lit1 _ _ _ _) (ones_u8 _) (by unfold maxLen;omega) (by omega) (by simp;omega) ?_;intro v' w' hown' hg' hx'))
  go_ret
  exact ⟨_,rfl,by rw [HE.out,List.length_append,List.map_append];exact hown',below_put hbase hlt hg'⟩
 ·have HE:Hid (Cx.put 1 a=[224 + a / 4096,128 + a / 64 % 64,128 + a % 64]):=by unfold Hid Cx.put Cx.put8;rw [if_neg (by omega),if_pos rfl,if_neg (by omega),if_neg (by omega),if_pos h2]
  have e1:bits .or .i64 224 (a / 4096)=224 + a / 4096:=orJ 4 (by omega) (by decide) (by omega) (by omega) (by omega) (by omega)
  clear hfr
  go_enter Tryz.func169,Tryz.ntmps169
  go_wp2_with (first | (go_at_call 176;refine (further_any _ _ (by omega) (by omega)).mono ?_;rintro e wf ⟨rfl,rfl⟩) | (at_builtin;refine wpList_append_own _ rfl _ _ 22 rfl base 5 i0 (.int .u8 0) 1 1 Tryz.underlying22 hi hz0 hz1 hz2 rfl (by decide) _ _ _ rfl ((hown.alloc _).alloc _) ⟨w.heap.size + 1,0,none⟩ 3 3 ([224 + a / 4096,128 + a / 64 % 64,128 + a % 64].map (Value.int .u8)) rfl rfl (cell_lit1 _ _ _ _) (ones_u8 _) (by unfold maxLen;omega) (by omega) (by simp;omega) ?_;intro v' w' hown' hg' hx'))
  go_ret
  exact ⟨_,rfl,by rw [HE.out,List.length_append,List.map_append];exact hown',below_put hbase hlt hg'⟩
 ·have HE:Hid (Cx.put 1 a=[240 + a / 262144,128 + a / 4096 % 64,128 + a / 64 % 64,128 + a % 64]):=by unfold Hid Cx.put Cx.put8;rw [if_neg (by omega),if_pos rfl,if_neg (by omega),if_neg (by omega),if_neg (by omega)]
  have e1:bits .or .i64 240 (a / 262144)=240 + a / 262144:=orJ 4 (by omega) (by decide) (by omega) (by omega) (by omega) (by omega)
  clear hfr
  go_enter Tryz.func169,Tryz.ntmps169
  go_wp2_with (first | (go_at_call 176;refine (further_any _ _ (by omega) (by omega)).mono ?_;rintro e wf ⟨rfl,rfl⟩) | (at_builtin;refine wpList_append_own _ rfl _ _ 22 rfl base 5 i0 (.int .u8 0) 1 1 Tryz.underlying22 hi hz0 hz1 hz2 rfl (by decide) _ _ _ rfl ((hown.alloc _).alloc _) ⟨w.heap.size + 1,0,none⟩ 4 4 ([240 + a / 262144,128 + a / 4096 % 64,128 + a / 64 % 64,128 + a % 64].map (Value.int .u8)) rfl rfl (cell_lit1 _ _ _ _) (ones_u8 _) (by unfold maxLen;omega) (by omega) (by simp;omega) ?_;intro v' w' hown' hg' hx'))
  go_ret
  exact ⟨_,rfl,by rw [HE.out,List.length_append,List.map_append];exact hown',below_put hbase hlt hg'⟩
set_option maxRecDepth 100000 in
theorem put4_any (out:Value) (xs:List Int) (base:Nat) (a:Int) (w:World) (hown:w.ownsRow base 5 1 out xs.length (xs.map (Value.int .u8))) (hbase:base≤w.heap.size) (hl:xs.length + 4≤140737488355328) (hf:Cx.fits 4 a=true) :
  Calls Tryz.prog 196 #[.agg #[],out,.int .i64 a] w fun e w'=>∃ v',e=.returned v'∧w'.ownsRow base 5 1 v' (xs ++ Cx.put 4 a).length ((xs ++ Cx.put 4 a).map (Value.int .u8))∧Below base w w':=by
 obtain ⟨i0,hi,hz0,hz1,hz2⟩:=info_parts Tryz.info_u8
 have hfr:0≤a∧a≤255:=by
  unfold Cx.fits at hf
  simp at hf
  omega
 obtain ⟨h1,h2⟩:=hfr
 have hlt:=hown.lt
 have HE:Hid (Cx.put 4 a=[a]):=by unfold Hid Cx.put;rw [if_neg (by omega)];rfl
 clear hf
 go_enter Tryz.func196,Tryz.ntmps196
 go_wp2_with (at_builtin;refine wpList_append_own _ rfl _ _ 22 rfl base 5 i0 (.int .u8 0) 1 1 Tryz.underlying22 hi hz0 hz1 hz2 rfl (by decide) _ _ _ rfl ((hown.alloc _).alloc _) ⟨w.heap.size + 1,0,none⟩ 1 1 ([a].map (Value.int .u8)) rfl rfl (cell_lit1 _ _ _ _) (ones_u8 _) (by unfold maxLen;omega) (by omega) (by simp;omega) ?_;intro v' w' hown' hg' hx')
 go_ret
 exact ⟨_,rfl,by rw [HE.out,List.length_append,List.map_append];exact hown',below_put hbase hlt hg'⟩
theorem cell_lit2 (w:World) (o o':Obj) (e:TypeId) (cs:List Value):∀ j u,cs[j]?=some u→(((w.alloc o).alloc o').alloc (.cells cs.toArray e)).cell? ((⟨w.heap.size + 1 + 1,0,none⟩:Addr).add j)=some u:=by
 have h:=cell_lit1 (w.alloc o) o' e cs
 rwa [World.size_alloc] at h
set_option maxRecDepth 100000 in
theorem putUnit_any (k:Int) (hk:k=0∨k=1) (out:Value) (xs:List Int) (base:Nat) (u:Int) (w:World) (hown:w.ownsRow base 5 1 out xs.length (xs.map (Value.int .u8))) (hbase:base≤w.heap.size) (hl:xs.length + 4≤140737488355328) (h0:0≤u) (h1:u≤65535) :
  Calls Tryz.prog 190 #[.agg #[.int .i64 k],out,.int .i64 u] w fun e w'=>∃ v',e=.returned v'∧w'.ownsRow base 5 1 v' (xs ++ Cx.unit (k + 2) u).length ((xs ++ Cx.unit (k + 2) u).map (Value.int .u8))∧Below base w w'∧w.grownBy w' out.ownBlock:=by
 obtain ⟨i0,hi,hz0,hz1,hz2⟩:=info_parts Tryz.info_u8
 have hlt:=hown.lt
 rcases hk with rfl | rfl
 ·have HE:Hid (Cx.unit (0 + 2) u=[u % 256,u / 256]):=rfl
  go_enter Tryz.func190,Tryz.ntmps190
  go_wp2_with (at_builtin;refine wpList_append_own _ rfl _ _ 22 rfl base 5 i0 (.int .u8 0) 1 1 Tryz.underlying22 hi hz0 hz1 hz2 rfl (by decide) _ _ _ rfl (((hown.alloc _).alloc _).alloc _) ⟨w.heap.size + 1 + 1,0,none⟩ 2 2 ([u % 256,u / 256].map (Value.int .u8)) rfl rfl (cell_lit2 _ _ _ _ _) (ones_u8 _) (by unfold maxLen;omega) (by omega) (by simp;omega) ?_;intro v' w' hown' hg' hx')
  go_ret
  exact ⟨_,rfl,by rw [HE.out,List.length_append,List.map_append];exact hown',below_put3 hbase hlt hg',grown_put3 hg'⟩
 ·have HE:Hid (Cx.unit (1 + 2) u=[u / 256,u % 256]):=rfl
  go_enter Tryz.func190,Tryz.ntmps190
  go_wp2_with (at_builtin;refine wpList_append_own _ rfl _ _ 22 rfl base 5 i0 (.int .u8 0) 1 1 Tryz.underlying22 hi hz0 hz1 hz2 rfl (by decide) _ _ _ rfl (((hown.alloc _).alloc _).alloc _) ⟨w.heap.size + 1 + 1,0,none⟩ 2 2 ([u / 256,u % 256].map (Value.int .u8)) rfl rfl (cell_lit2 _ _ _ _ _) (ones_u8 _) (by unfold maxLen;omega) (by omega) (by simp;omega) ?_;intro v' w' hown' hg' hx')
  go_ret
  exact ⟨_,rfl,by rw [HE.out,List.length_append,List.map_append];exact hown',below_put3 hbase hlt hg',grown_put3 hg'⟩
set_option maxRecDepth 100000 in
theorem put2_any (k:Int) (hk:k=0∨k=1) (out:Value) (xs:List Int) (base:Nat) (a:Int) (w:World) (hown:w.ownsRow base 5 1 out xs.length (xs.map (Value.int .u8))) (hbase:base≤w.heap.size) (hl:xs.length + 8≤140737488355328) (hf:Cx.fits (k + 2) a=true) :
  Calls Tryz.prog 184 #[.agg #[.int .i64 k],out,.int .i64 a] w fun e w'=>∃ v',e=.returned v'∧w'.ownsRow base 5 1 v' (xs ++ Cx.put (k + 2) a).length ((xs ++ Cx.put (k + 2) a).map (Value.int .u8))∧Below base w w':=by
 obtain ⟨i0,hi,hz0,hz1,hz2⟩:=info_parts Tryz.info_u8
 have hfr:-256≤a∧a≤1114111:=by
  unfold Cx.fits at hf
  rcases hk with rfl | rfl <;> simp at hf <;> omega
 obtain ⟨h1,h2⟩:=hfr
 have hlt:=hown.lt
 have HK:Hid (k=0∨k=1):=hk
 clear hf
 rcases (show a < 0∨(0≤a∧a < 65536)∨65536≤a from by omega) with h3 | ⟨h3,h4⟩ | h3
 ·have HE:Hid (Cx.put (k + 2) a=[-1 - a]):=by unfold Hid Cx.put;rw [if_pos h3]
  clear hk
  go_enter Tryz.func184,Tryz.ntmps184
  go_wp2_with (first | (go_at_call 175;refine (rawByte_any _ _ (by omega) (by omega)).mono ?_;rintro e w' ⟨rfl,rfl⟩) | (at_builtin;refine wpList_append_own _ rfl _ _ 22 rfl base 5 i0 (.int .u8 0) 1 1 Tryz.underlying22 hi hz0 hz1 hz2 rfl (by decide) _ _ _ rfl ((hown.alloc _).alloc _) ⟨w.heap.size + 1,0,none⟩ 1 1 ([-1 - a].map (Value.int .u8)) rfl rfl (cell_lit1 _ _ _ _) (ones_u8 _) (by unfold maxLen;omega) (by omega) (by simp;omega) ?_;intro v' w' hown' hg' hx'))
  go_ret
  exact ⟨_,rfl,by rw [HE.out,List.length_append,List.map_append];exact hown',below_put hbase hlt hg'⟩
 ·have HE:Hid (Cx.put (k + 2) a=Cx.unit (k + 2) a):=by
   unfold Hid Cx.put;rw [if_neg (by omega),if_neg (by omega),if_neg (by omega),if_neg (by omega)]
  clear hk
  go_enter Tryz.func184,Tryz.ntmps184
  go_wp2_with fail
  refine (putUnit_any k HK.out _ xs base a _ (hown.alloc _) (by simp;omega) (by omega) h3 (by omega)).mono ?_
  rintro e w1 ⟨v1,rfl,hown1,hb1,hg1⟩
  have HO:Hid (w1.ownsRow base 5 1 v1 (xs ++ Cx.put (k + 2) a).length ((xs ++ Cx.put (k + 2) a).map (Value.int .u8))):=by rw [HE.out];exact hown1
  clear hown1 hg1
  go_wp2
  go_ret
  exact ⟨_,rfl,HO.out,((Below.refl base w).alloc hbase _).trans hb1⟩
 ·have HE:Hid (xs ++ Cx.put (k + 2) a=(xs ++ Cx.unit (k + 2) (55296 + (a - 65536) / 1024)) ++ Cx.unit (k + 2) (56320 + (a - 65536) % 1024)):=by
   unfold Hid Cx.put;rw [if_neg (by omega),if_neg (by omega),if_neg (by omega),if_pos h3,List.append_assoc,show (a - 65536) % 1024=a % 1024 from by omega]
  clear hk
  go_enter Tryz.func184,Tryz.ntmps184
  go_wp2_with fail
  refine (putUnit_any k HK.out _ xs base _ _ (hown.alloc _) (by simp;omega) (by omega) (by omega) (by omega)).mono ?_
  rintro e w1 ⟨v1,rfl,hown1,hb1,hg1⟩
  have hul:(xs ++ Cx.unit (k + 2) (55296 + (a - 65536) / 1024)).length=xs.length + 2:=by rw [List.length_append,Cx.unit_eq];rfl
  have hcb:w1.cell? ⟨w.heap.size,0,none⟩=some (.int .i64 k):=by
   rw [World.cell?_of_block (w:=w.alloc (.cells #[.int .i64 k] 187)) (hg1.block w.heap.size (by simp) (by intro e;have:=hlt _ e.symm;omega))]
   simp
  have hb1':Hid (Below base (w.alloc (.cells #[.int .i64 k] 187)) w1):=hb1
  have hsz:base≤w1.heap.size:=by have:=hb1.size;simp at this;omega
  clear hb1 hg1
  go_wp2_with fail
  refine (putUnit_any k HK.out _ _ base _ _ hown1 hsz (by rw [hul];omega) (by omega) (by omega)).mono ?_
  rintro e w2 ⟨v2,rfl,hown2,hb2,hg2⟩
  have HO:Hid (w2.ownsRow base 5 1 v2 (xs ++ Cx.put (k + 2) a).length ((xs ++ Cx.put (k + 2) a).map (Value.int .u8))):=by rw [HE.out];exact hown2
  clear hown2 hown1 hg2
  go_wp2
  go_ret
  exact ⟨_,rfl,HO.out,((Below.refl base w).alloc hbase _).trans (hb1'.out.trans hb2)⟩
end Go.Proofs.YtjomfbegghgbdaaGreat
