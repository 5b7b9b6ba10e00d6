import Derived.Test.YtdhciadajendnaaGreatK10
set_option maxRecDepth 100000
namespace Go.Proofs.YtdhciadajendnaaGreat
open Go.RowKit
theorem row_any (c:Int) (w:World) (h:0≤c) (h':c≤255):Calls Tryz.prog 176 #[.int .u8 c] w fun e w'=>e=.returned (.tuple #[.int .i64 (Cx.rowN c),.int .u8 (Cx.rowLo c),.int .u8 (Cx.rowHi c)])∧w'=w:=by
 have fin:∀ (n lo hi:Int),Cx.rowN c=n→Cx.rowLo c=lo→Cx.rowHi c=hi→Calls Tryz.prog 176 #[.int .u8 c] w (fun e w'=>e=.returned (.tuple #[.int .i64 n,.int .u8 lo,.int .u8 hi])∧w'=w) →
   Calls Tryz.prog 176 #[.int .u8 c] w fun e w'=>e=.returned (.tuple #[.int .i64 (Cx.rowN c),.int .u8 (Cx.rowLo c),.int .u8 (Cx.rowHi c)])∧w'=w:=by
  intro n lo hi e1 e2 e3 h;rw [e1,e2,e3];exact h
 rcases (show c≤127∨(128≤c∧c < 194)∨(194≤c∧c≤223)∨c=224∨(225≤c∧c≤236)∨c=237∨(238≤c∧c≤239)∨c=240∨(241≤c∧c≤243)∨c=244∨(245≤c∧c≤255) from by omega) with g | ⟨g,g'⟩ | ⟨g,g'⟩ | g | ⟨g,g'⟩ | g | ⟨g,g'⟩ | g | ⟨g,g'⟩ | g | ⟨g,g'⟩
 ·refine fin 1 0 0 (by unfold Cx.rowN;rw [if_pos g]) (by unfold Cx.rowLo;rw [if_pos (by omega)]) (by unfold Cx.rowHi;rw [if_pos (by omega)]) ?_
  go_enter Tryz.func176,Tryz.ntmps176;go_wp2;go_ret3;exact ⟨rfl,rfl⟩
 ·refine fin 0 0 0 (by unfold Cx.rowN;rw [if_neg (by omega),if_pos (by omega)]) (by unfold Cx.rowLo;rw [if_pos (by omega)]) (by unfold Cx.rowHi;rw [if_pos (by omega)]) ?_
  go_enter Tryz.func176,Tryz.ntmps176;go_wp2;go_ret3;exact ⟨rfl,rfl⟩
 ·refine fin 2 128 191 (by unfold Cx.rowN;repeat' split <;> omega) (by unfold Cx.rowLo;repeat' split <;> omega) (by unfold Cx.rowHi;repeat' split <;> omega) ?_
  go_enter Tryz.func176,Tryz.ntmps176;go_wp2;go_ret3;exact ⟨rfl,rfl⟩
 ·subst g;refine fin 3 160 191 rfl rfl rfl ?_
  go_enter Tryz.func176,Tryz.ntmps176;go_wp2;go_ret3;exact ⟨rfl,rfl⟩
 ·refine fin 3 128 191 (by unfold Cx.rowN;repeat' split <;> omega) (by unfold Cx.rowLo;repeat' split <;> omega) (by unfold Cx.rowHi;repeat' split <;> omega) ?_
  go_enter Tryz.func176,Tryz.ntmps176;go_wp2;go_ret3;exact ⟨rfl,rfl⟩
 ·subst g;refine fin 3 128 159 rfl rfl rfl ?_
  go_enter Tryz.func176,Tryz.ntmps176;go_wp2;go_ret3;exact ⟨rfl,rfl⟩
 ·refine fin 3 128 191 (by unfold Cx.rowN;repeat' split <;> omega) (by unfold Cx.rowLo;repeat' split <;> omega) (by unfold Cx.rowHi;repeat' split <;> omega) ?_
  go_enter Tryz.func176,Tryz.ntmps176;go_wp2;go_ret3;exact ⟨rfl,rfl⟩
 ·subst g;refine fin 4 144 191 rfl rfl rfl ?_
  go_enter Tryz.func176,Tryz.ntmps176;go_wp2;go_ret3;exact ⟨rfl,rfl⟩
 ·refine fin 4 128 191 (by unfold Cx.rowN;repeat' split <;> omega) (by unfold Cx.rowLo;repeat' split <;> omega) (by unfold Cx.rowHi;repeat' split <;> omega) ?_
  go_enter Tryz.func176,Tryz.ntmps176;go_wp2;go_ret3;exact ⟨rfl,rfl⟩
 ·subst g;refine fin 4 128 143 rfl rfl rfl ?_
  go_enter Tryz.func176,Tryz.ntmps176;go_wp2;go_ret3;exact ⟨rfl,rfl⟩
 ·refine fin 0 0 0 (by unfold Cx.rowN;repeat' split <;> omega) (by unfold Cx.rowLo;repeat' split <;> omega) (by unfold Cx.rowHi;repeat' split <;> omega) ?_
  go_enter Tryz.func176,Tryz.ntmps176;go_wp2;go_ret3;exact ⟨rfl,rfl⟩
theorem ret_int' {k:IntKind} {a b:Int} (h:a=b):Ending.returned (.int k a)=.returned (.int k b):=by rw [h]
theorem rawAtom_any (c:Int) (w:World) (h:0≤c) (h':c≤255):Calls Tryz.prog 171 #[.int .u8 c] w fun e w'=>e=.returned (.int .i64 (-1 - c))∧w'=w:=by
 go_enter Tryz.func171,Tryz.ntmps171
 go_wp2
 go_ret
 exact ⟨rfl,rfl⟩
theorem Byt.at {zs:List Int} (h:Byt zs) (i:Nat):0≤zs[i]?.getD 0∧zs[i]?.getD 0≤255:=by
 by_cases hi:i < zs.length
 ·simp only [hi,List.getElem?_eq_getElem,Option.getD_some]
  exact h _ (List.getElem_mem hi)
 ·simp [List.getElem?_eq_none (show zs.length≤i by omega)]
theorem match_any (v:Value) (zs:List Int) (w:World) (h:Rd .u8 w v zs) (hb:Byt zs) (hn:zs≠[]) :
  Calls Tryz.prog 169 #[v] w fun e w'=>e=.returned (.int .i64 (Cx.mtch zs))∧w'=w:=by
 have hlen:=h.len
 obtain ⟨ao,cap,rfl,hl,hm,hc⟩:=h
 obtain ⟨b,off,rfl,hbl,hc⟩:=hc hn
 have hpos:0 < zs.length:=List.length_pos_iff.2 hn
 have h0:=hc 0 hpos
 have hb0:=hb.at 0
 rw [Nat.add_zero] at h0
 change 0≤Cx.c0 zs∧Cx.c0 zs≤255 at hb0
 change w.cell? ⟨b,off,none⟩=some (.int .u8 (Cx.c0 zs)) at h0
 have hr:=Cx.rowN_bd (Cx.c0 zs)
 have HY:Hid (∀ k,(∀ j,1≤j→j < k→Cx.okAt zs j=true)→(Cx.rowN (Cx.c0 zs)≤k∨zs.length≤k)→Cx.mtch zs=Cx.rowN (Cx.c0 zs)):=Cx.mtch_yes zs
 have HN:Hid (∀ k:Nat,1≤k→(k:Int) < Cx.rowN (Cx.c0 zs)→k < zs.length→¬ (Cx.loJ (Cx.c0 zs) k≤zs[k]?.getD 0∧zs[k]?.getD 0≤Cx.hiJ (Cx.c0 zs) k)→Cx.mtch zs=0):=Cx.mtch_no zs
 have HO:Hid (∀ k,(Cx.loJ (Cx.c0 zs) k≤zs[k]?.getD 0∧zs[k]?.getD 0≤Cx.hiJ (Cx.c0 zs) k)→Cx.okAt zs k=true):=Cx.okAt_of zs
 have HB:Hid (Byt zs):=hb
 generalize Cx.c0 zs=c at *
 generalize hM:Cx.mtch zs=M at *
 have HC:Hid (∀ i,i < zs.length→w.cell? ⟨b,off + i,none⟩=some (.int .u8 (zs[i]?.getD 0))):=hc
 clear hn hc hb hM hm
 go_enter Tryz.func169,Tryz.ntmps169
 go_wp2_with (go_at_call 176;refine (row_any _ _ hb0.1 hb0.2).mono ?_;rintro e w' ⟨rfl,rfl⟩)
 go_loop [4,5,6] (fun f t i=>∃ k:Nat,1≤k∧k≤4∧i=.int .i64 k∧f=.int .u8 (Cx.loJ c k)∧t=.int .u8 (Cx.hiJ c k)∧Hid (∀ j,1≤j→j < k→Cx.okAt zs j=true)) (fun _ _ i=>5 - (intOf i).toNat)
 case atStart=>exact ⟨1,Nat.le_refl _,by omega,rfl,rfl,rfl,fun j h1 h2=>by omega⟩
 case round =>
  obtain ⟨k,hk1,hk2,rfl,rfl,rfl,HJ⟩:=hrel
  by_cases hr1:(k:Int) < Cx.rowN c
  ·by_cases hl1:k < zs.length
   ·have hx:=HC.out k hl1
    have hxb:=HB.out.at k
    have HN':=HN.out k hk1 hr1 hl1
    have HO':=HO.out k
    generalize zs[k]?.getD 0=x at *
    have HX:Hid (Cx.okAt zs k=true→∀ j,1≤j→j < k + 1→Cx.okAt zs j=true):=fun ho j h1 h2=>by
     by_cases hj:j=k
     ·rw [hj];exact ho
     ·exact HJ.out j h1 (by omega)
    by_cases hlo:Cx.loJ c k≤x
    ·by_cases hhi:x≤Cx.hiJ c k
     ·have HX':Hid (∀ j,1≤j→j < k + 1→Cx.okAt zs j=true):=HX.out (HO' ⟨hlo,hhi⟩)
      have HE1:Hid (Cx.loJ c (k + 1)=128):=by unfold Hid Cx.loJ;rw [if_neg (by omega)]
      have HE2:Hid (Cx.hiJ c (k + 1)=191):=by unfold Hid Cx.hiJ;rw [if_neg (by omega)]
      clear HX HO' HN' HN HO HY HJ HC HB
      go_wp2
      go_round
      case rel=>exact ⟨k + 1,by omega,by omega,by go_num,by rw [HE1.out],by rw [HE2.out],HX'.out⟩
      case measure=>simp [intOf];omega
     ·have HM:Hid (M=0):=HN' (fun h=>hhi h.2)
      clear HX HO' HN' HN HO HY HJ HC HB
      go_wp2
      go_ret
      exact ⟨by rw [HM.out];rfl,rfl⟩
    ·have HM:Hid (M=0):=HN' (fun h=>hlo h.1)
     have hlt:x < Cx.loJ c k:=by omega
     clear HX HO' HN' HN HO HY HJ HC HB
     go_wp2
     go_ret
     exact ⟨by rw [HM.out];rfl,rfl⟩
   ·have HM:Hid (M=Cx.rowN c):=HY.out k HJ.out (.inr (by omega))
    clear HN HO HY HJ HC HB
    go_wp2
    go_ret
    exact ⟨by rw [HM.out];rfl,rfl⟩
  ·have HM:Hid (M=Cx.rowN c):=HY.out k HJ.out (.inl (by omega))
   clear HN HO HY HJ HC HB
   go_wp2
   go_ret
   exact ⟨by rw [HM.out];rfl,rfl⟩
theorem wraps_i64 (n:Int) (h₀:0≤n) (h₁:n < 2 ^ 63):IntKind.i64.wrap n=n:=by rw [IntKind.wrap_i64];omega
theorem and31 {x:Int} (h0:0≤x) (h1:x < 256):bits .and .i64 x 31=x % 32:=bits_mask .i64 63 (by decide) wraps_i64 5 (by decide) x h0 (by omega)
theorem and15 {x:Int} (h0:0≤x) (h1:x < 256):bits .and .i64 x 15=x % 16:=bits_mask .i64 63 (by decide) wraps_i64 4 (by decide) x h0 (by omega)
theorem and7 {x:Int} (h0:0≤x) (h1:x < 256):bits .and .i64 x 7=x % 8:=bits_mask .i64 63 (by decide) wraps_i64 3 (by decide) x h0 (by omega)
theorem or6 {x y:Int} (hx0:0≤x) (hx:x % 64=0) (hx1:x < 9223372036854775808) (h0:0≤y) (h1:y < 64):bits .or .i64 x y=x + y:=bits_join .i64 63 (by decide) wraps_i64 6 x y hx0 (by omega) (by omega) h0 (by omega) (by omega)
theorem wrap_small {x:Int} (h0:0≤x) (h1:x < 9223372036854775808):wrap64 x=x:=by unfold wrap64;omega
def Cx.Whole (zs:List Int):Prop :=
 (∃ x,zs=[x]∧0≤x∧x≤127)∨(∃ x y,zs=[x,y]∧194≤x∧x≤223∧128≤y∧y≤191) ∨
 (∃ x y z,zs=[x,y,z]∧224≤x∧x≤239∧128≤y∧y≤191∧128≤z∧z≤191) ∨
 (∃ x y z u,zs=[x,y,z,u]∧240≤x∧x≤244∧128≤y∧y≤191∧128≤z∧z≤191∧128≤u∧u≤191)
theorem Cx.whole_of (b:List Int) (hb:Byt b) (h0:0 < Cx.mtch b) (hl:Cx.mtch b≤b.length):Cx.Whole (b.take (Cx.mtch b).toNat):=by
 rcases Cx.row_bytes b hb h0 hl with ⟨x,e,_,r⟩ | ⟨x,y,e,_,r⟩ | ⟨x,y,z,e,_,r1,r2,r3,r4,r5,r6⟩ | ⟨x,y,z,u,e,_,r1,r2,r3,r4,r5,r6,r7,r8⟩
 ·exact .inl ⟨x,e,r⟩
 ·exact .inr (.inl ⟨x,y,e,r⟩)
 ·refine .inr (.inr (.inl ⟨x,y,z,e,r1,r2,?_,?_,r5,r6⟩))
  ·unfold Cx.rowLo at r3;repeat' split at r3
   all_goals omega
  ·unfold Cx.rowHi at r4;repeat' split at r4
   all_goals omega
 ·refine .inr (.inr (.inr ⟨x,y,z,u,e,r1,r2,?_,?_,r5,r6,r7,r8⟩))
  ·unfold Cx.rowLo at r3;repeat' split at r3
   all_goals omega
  ·unfold Cx.rowHi at r4;repeat' split at r4
   all_goals omega
theorem scalar_any (v:Value) (zs:List Int) (w:World) (h:Rd .u8 w v zs) (hw:Cx.Whole zs) :
  Calls Tryz.prog 170 #[v] w fun e w'=>e=.returned (.int .i64 (Cx.val zs))∧Below w.heap.size w w':=by
 obtain ⟨ao,cap,rfl,hl,hm,hc⟩:=h
 have hm':cap≤9223372036854775807:=hm
 clear hm
 rcases hw with ⟨x,rfl,r1,r2⟩ | ⟨x,y,rfl,r1,r2,r3,r4⟩ | ⟨x,y,z,rfl,r1,r2,r3,r4,r5,r6⟩ | ⟨x,y,z,u,rfl,r1,r2,r3,r4,r5,r6,r7,r8⟩
 ·obtain ⟨b,off,rfl,hbl,hc⟩:=hc (by simp)
  have h0:=hc 0 (by simp)
  simp at h0 hl
  clear hc
  simp only [List.length_cons,List.length_nil]
  go_enter Tryz.func170,Tryz.ntmps170
  go_wp2
  go_ret
  exact ⟨rfl,Below.refl _ _⟩
 ·obtain ⟨b,off,rfl,hbl,hc⟩:=hc (by simp)
  have h0:=hc 0 (by simp)
  have h1:=hc 1 (by simp)
  simp at h0 h1 hl
  clear hc
  simp only [List.length_cons,List.length_nil]
  go_enter Tryz.func170,Tryz.ntmps170
  go_wp2
  go_quiet (fail)
  go_wp2
  refine wp_loop_rounds 2 ?_
  rw [rounds_succ]
  go_wp2
  rw [rounds_succ]
  go_wp2
  go_ret
  refine ⟨ret_int' ?_,below_drewN (Below.refl _ _) _⟩
  rw [and31 (by omega) (by omega),wrap_small (by omega) (by omega),or6 (by omega) (by omega) (by omega) (by omega) (by omega)]
  simp only [Cx.val];omega
 ·obtain ⟨b,off,rfl,hbl,hc⟩:=hc (by simp)
  have h0:=hc 0 (by simp)
  have h1:=hc 1 (by simp)
  have h2:=hc 2 (by simp)
  simp at h0 h1 h2 hl
  rw [show off + 2=off + 1 + 1 from rfl] at h2
  clear hc
  simp only [List.length_cons,List.length_nil]
  go_enter Tryz.func170,Tryz.ntmps170
  go_wp2
  go_quiet (fail)
  go_wp2
  refine wp_loop_rounds 3 ?_
  rw [rounds_succ]
  go_wp2
  rw [rounds_succ]
  go_wp2
  rw [rounds_succ]
  go_wp2
  go_ret
  refine ⟨ret_int' ?_,below_drewN (Below.refl _ _) _⟩
  rw [and15 (by omega) (by omega),wrap_small (x:=x % 16 * 64) (by omega) (by omega),or6 (x:=x % 16 * 64) (by omega) (by omega) (by omega) (by omega) (by omega),wrap_small (by omega) (by omega),or6 (by omega) (by omega) (by omega) (by omega) (by omega)]
  simp only [Cx.val];omega
 ·obtain ⟨b,off,rfl,hbl,hc⟩:=hc (by simp)
  have h0:=hc 0 (by simp)
  have h1:=hc 1 (by simp)
  have h2:=hc 2 (by simp)
  have h3:=hc 3 (by simp)
  simp at h0 h1 h2 h3 hl
  rw [show off + 2=off + 1 + 1 from rfl] at h2
  rw [show off + 3=off + 1 + 2 from rfl] at h3
  clear hc
  simp only [List.length_cons,List.length_nil]
  go_enter Tryz.func170,Tryz.ntmps170
  go_wp2
  go_quiet (fail)
  go_wp2
  refine wp_loop_rounds 4 ?_
  rw [rounds_succ]
  go_wp2
  rw [rounds_succ]
  go_wp2
  rw [rounds_succ]
  go_wp2
  rw [rounds_succ]
  go_wp2
  go_ret
  refine ⟨ret_int' ?_,below_drewN (Below.refl _ _) _⟩
  rw [and7 (by omega) (by omega),wrap_small (x:=x % 8 * 64) (by omega) (by omega),or6 (x:=x % 8 * 64) (by omega) (by omega) (by omega) (by omega) (by omega),wrap_small (x:=(x % 8 * 64 + y % 64) * 64) (by omega) (by omega),or6 (x:=(x % 8 * 64 + y % 64) * 64) (by omega) (by omega) (by omega) (by omega) (by omega),wrap_small (by omega) (by omega),or6 (by omega) (by omega) (by omega) (by omega) (by omega)]
  simp only [Cx.val];omega
theorem first8_any (v:Value) (zs:List Int) (w:World) (h:Rd .u8 w v zs) (hb:Byt zs) (hn:zs≠[]) :
  Calls Tryz.prog 163 #[.agg #[],v] w fun e w'=>e=.returned (.tuple #[.int .i64 (Cx.first8 zs).1,.int .i64 (Cx.first8 zs).2])∧Below w.heap.size w w':=by
 have HR:Hid (Rd .u8 w v zs):=h
 have HB:Hid (Byt zs):=hb
 have HNE:Hid (zs≠[]):=hn
 have hlen:=h.len
 have hmb:=Cx.mtch_bd zs
 have hb0:=hb.at 0
 change 0≤Cx.c0 zs∧Cx.c0 zs≤255 at hb0
 obtain ⟨ao,cap,rfl,hl,hm,hc⟩:=h
 obtain ⟨b,off,rfl,hbl,hc⟩:=hc hn
 have hpos:0 < zs.length:=List.length_pos_iff.2 hn
 have h0:=hc 0 hpos
 rw [Nat.add_zero] at h0
 change w.cell? ⟨b,off,none⟩=some (.int .u8 (Cx.c0 zs)) at h0
 have h0':∀ o:Obj,(w.alloc o).cell? ⟨b,off,none⟩=some (.int .u8 (Cx.c0 zs)):=fun o=>((Below.refl w.heap.size w).alloc (Nat.le_refl _) o |>.cell (p:=⟨b,off,none⟩) hbl).trans h0
 clear hn hc hb hm
 by_cases hs:0 < Cx.mtch zs∧Cx.mtch zs≤zs.length
 ·have HW:Hid (Cx.Whole (zs.take (Cx.mtch zs).toNat)):=Cx.whole_of zs HB.out hs.1 hs.2
  have HE:Hid (Cx.first8 zs=(Cx.val (zs.take (Cx.mtch zs).toNat),Cx.mtch zs)):=by unfold Hid Cx.first8;rw [if_pos hs]
  have HT:Hid (Rd .u8 w (.slice (some ⟨b,off,none⟩) (Cx.mtch zs).toNat cap) (zs.take (Cx.mtch zs).toNat)):=HR.out.take _ (by omega)
  obtain ⟨hs1,hs2⟩:=hs
  go_enter Tryz.func163,Tryz.ntmps163
  go_wp2_with fail
  refine (match_any _ zs _ (HR.out.ext ((Below.refl _ _).alloc (Nat.le_refl _) _)) HB.out HNE.out).mono ?_
  rintro e w' ⟨rfl,rfl⟩
  go_wp2_with fail
  refine (scalar_any _ _ _ (HT.out.ext ((Below.refl _ _).alloc (Nat.le_refl _) _)) HW.out).mono ?_
  rintro e w1 ⟨rfl,hb1⟩
  go_wp2
  go_ret2
  exact ⟨by rw [HE.out];rfl,zxt ((Below.refl _ _).alloc (Nat.le_refl _) _) hb1⟩
 ·have HE:Hid (Cx.first8 zs=(-1 - Cx.c0 zs,1)):=by unfold Hid Cx.first8;rw [if_neg hs]
  by_cases hs1:0 < Cx.mtch zs
  ·have hs2:¬ Cx.mtch zs≤zs.length:=fun h=>hs ⟨hs1,h⟩
   clear hs
   go_enter Tryz.func163,Tryz.ntmps163
   go_wp2_with fail
   refine (match_any _ zs _ (HR.out.ext ((Below.refl _ _).alloc (Nat.le_refl _) _)) HB.out HNE.out).mono ?_
   rintro e w' ⟨rfl,rfl⟩
   go_wp2_with fail
   refine (rawAtom_any _ _ hb0.1 hb0.2).mono ?_
   rintro e w1 ⟨rfl,rfl⟩
   go_wp2
   go_ret2
   exact ⟨by rw [HE.out];rfl,(Below.refl _ _).alloc (Nat.le_refl _) _⟩
  ·clear hs
   go_enter Tryz.func163,Tryz.ntmps163
   go_wp2_with fail
   refine (match_any _ zs _ (HR.out.ext ((Below.refl _ _).alloc (Nat.le_refl _) _)) HB.out HNE.out).mono ?_
   rintro e w' ⟨rfl,rfl⟩
   go_wp2_with fail
   refine (rawAtom_any _ _ hb0.1 hb0.2).mono ?_
   rintro e w1 ⟨rfl,rfl⟩
   go_wp2
   go_ret2
   exact ⟨by rw [HE.out];rfl,(Below.refl _ _).alloc (Nat.le_refl _) _⟩
end Go.Proofs.YtdhciadajendnaaGreat
namespace Go.Proofs.YtdhciadajendnaaGreat.Cx
def mean (zs:List Int):Int:=match zs with
 | [a]=>a
 | [a,b]=>(a - 192) * 64 + b - 128
 | [a,b,c]=>((a - 224) * 64 + b - 128) * 64 + c - 128
 | [a,b,c,d]=>(((a - 240) * 64 + b - 128) * 64 + c - 128) * 64 + d - 128
 | _=>0
def hitB (b:List Int) (k:Nat):Bool:=decide (k≤b.length) && isSc (mean (b.take k)) && decide ((put8 (mean (b.take k))).length=k) && (put8 (mean (b.take k))).isPrefixOf b
theorem sc_iff (a:Int):isSc a=true ↔ (0≤a∧a < 55296)∨(57343 < a∧a≤1114111):=by
 unfold isSc;simp
theorem put8_one (a:Int) (h:(put8 a).length=1):a < 128:=by
 unfold put8 at h;repeat' split at h
 all_goals first | assumption | simp at h
theorem put8_two (a:Int) (h:(put8 a).length=2):128≤a∧a < 2048:=by
 unfold put8 at h;repeat' split at h
 all_goals first | (simp at h;done) | omega
theorem put8_three (a:Int) (h:(put8 a).length=3):2048≤a∧a < 65536:=by
 unfold put8 at h;repeat' split at h
 all_goals first | (simp at h;done) | omega
theorem put8_four (a:Int) (h:(put8 a).length=4):65536≤a:=by
 unfold put8 at h;repeat' split at h
 all_goals first | (simp at h;done) | omega
theorem put8_1 (a:Int) (h:a < 128):put8 a=[a]:=by unfold put8;rw [if_pos h]
theorem put8_2 (a:Int) (h:128≤a) (h':a < 2048):put8 a=[192 + a / 64,128 + a % 64]:=by unfold put8;rw [if_neg (by omega),if_pos h']
theorem put8_3 (a:Int) (h:2048≤a) (h':a < 65536):put8 a=[224 + a / 4096,128 + a / 64 % 64,128 + a % 64]:=by unfold put8;rw [if_neg (by omega),if_neg (by omega),if_pos h']
theorem put8_4 (a:Int) (h:65536≤a):put8 a=[240 + a / 262144,128 + a / 4096 % 64,128 + a / 64 % 64,128 + a % 64]:=by unfold put8;rw [if_neg (by omega),if_neg (by omega),if_neg (by omega)]
theorem mtch_eq (b:List Int):mtch b=if okAll b=true then rowN (c0 b) else 0:=rfl
theorem hitB_iff (b:List Int) (k:Nat) (m:Int) (hm:mean (b.take k)=m):hitB b k=true ↔ (k≤b.length∧isSc m=true∧(put8 m).length=k∧(put8 m).isPrefixOf b=true):=by
 subst hm
 unfold hitB
 simp only [Bool.and_eq_true,decide_eq_true_eq,and_assoc]
theorem ok_j (b:List Int) (j:Nat) (x:Int) (hx:b[j]?=some x) (h:loJ (c0 b) j≤x∧x≤hiJ (c0 b) j):okAt b j=true:=okAt_of b j (by rw [hx];exact h)
theorem hit1 (x:Int) (l:List Int) (hx:0≤x∧x≤255):hitB (x :: l) 1=true ↔ mtch (x :: l)=1:=by
 have e:mtch (x :: l)=1 ↔ x≤127:=by
  have c:c0 (x :: l)=x:=rfl
  constructor
  ·intro h
   rw [mtch_eq,c] at h
   split at h
   ·unfold rowN at h;repeat' split at h
    all_goals omega
   ·omega
  ·intro h
   have r:rowN x=1:=by unfold rowN;rw [if_pos h]
   rw [mtch_yes (x :: l) 1 (fun j h1 h2=>by omega) (.inl (by rw [c,r];decide)),c,r]
 rw [e,hitB_iff _ _ x rfl]
 constructor
 ·rintro ⟨_,_,h,_⟩
  have:=put8_one x h
  omega
 ·intro h
  rw [put8_1 x (by omega),sc_iff]
  exact ⟨by simp,.inl ⟨hx.1,by omega⟩,rfl,by simp⟩
theorem hit2 (x y:Int) (l:List Int) (hb:∀ z ∈ x :: y :: l,0≤z∧z≤255):hitB (x :: y :: l) 2=true ↔ mtch (x :: y :: l)=2:=by
 have hx:=hb x (by simp)
 have hy:=hb y (by simp)
 have e:mtch (x :: y :: l)=2 ↔ 194≤x∧x≤223∧128≤y∧y≤191:=by
  have c:c0 (x :: y :: l)=x:=rfl
  constructor
  ·intro h
   rcases row_bytes (x :: y :: l) hb (by omega) (by rw [h];simp only [List.length_cons];omega) with ⟨a,e,h',_⟩ | ⟨a,b,e,h',r⟩ | ⟨a,b,d,e,h',_⟩ | ⟨a,b,d,f,e,h',_⟩
   ·omega
   ·rw [h] at e
    have e':[x,y]=[a,b]:=e
    cases e'
    omega
   ·omega
   ·omega
  ·intro h
   have r:rowN x=2:=by unfold rowN;repeat' split <;> omega
   rw [mtch_yes (x :: y :: l) 2 (fun j h1 h2=>?_) (.inl (by rw [c,r];decide)),c,r]
   obtain rfl:j=1:=by omega
   refine ok_j _ _ y rfl ?_
   unfold loJ hiJ rowLo rowHi
   rw [c,if_pos rfl,if_pos rfl]
   repeat' split
   all_goals omega
 rw [e,hitB_iff _ _ ((x - 192) * 64 + y - 128) rfl]
 constructor
 ·rintro ⟨_,_,h,hp⟩
  have:=put8_two _ h
  rw [put8_2 _ this.1 this.2] at hp
  simp at hp
  omega
 ·intro h
  rw [put8_2 _ (by omega) (by omega),sc_iff]
  refine ⟨by simp,.inl ⟨by omega,by omega⟩,rfl,?_⟩
  simp
  omega
theorem hit3 (x y z:Int) (l:List Int) (hb:∀ u ∈ x :: y :: z :: l,0≤u∧u≤255):hitB (x :: y :: z :: l) 3=true ↔ mtch (x :: y :: z :: l)=3:=by
 have hx:=hb x (by simp)
 have hy:=hb y (by simp)
 have hz:=hb z (by simp)
 have e:mtch (x :: y :: z :: l)=3 ↔ 224≤x∧x≤239∧128≤y∧y≤191∧(x=224→160≤y)∧(x=237→y≤159)∧128≤z∧z≤191:=by
  have c:c0 (x :: y :: z :: l)=x:=rfl
  constructor
  ·intro h
   rcases row_bytes (x :: y :: z :: l) hb (by omega) (by rw [h];simp only [List.length_cons];omega) with ⟨a,e,h',_⟩ | ⟨a,b,e,h',r⟩ | ⟨a,b,d,e,h',r1,r2,r3,r4,r5⟩ | ⟨a,b,d,f,e,h',_⟩
   ·omega
   ·omega
   ·rw [h] at e
    have e':[x,y,z]=[a,b,d]:=e
    cases e'
    unfold rowLo at r3;unfold rowHi at r4
    repeat' split at r3
    all_goals repeat' split at r4
    all_goals omega
   ·omega
  ·intro h
   have r:rowN x=3:=by unfold rowN;repeat' split <;> omega
   rw [mtch_yes (x :: y :: z :: l) 3 (fun j h1 h2=>?_) (.inl (by rw [c,r];decide)),c,r]
   have hj:j=1∨j=2:=by omega
   rcases hj with rfl | rfl
   ·refine ok_j _ _ y rfl ?_
    unfold loJ hiJ rowLo rowHi
    rw [c,if_pos rfl,if_pos rfl]
    repeat' split
    all_goals omega
   ·refine ok_j _ _ z rfl ?_
    unfold loJ hiJ
    rw [if_neg (by decide),if_neg (by decide)]
    omega
 rw [e,hitB_iff _ _ (((x - 224) * 64 + y - 128) * 64 + z - 128) rfl]
 constructor
 ·rintro ⟨_,hs,h,hp⟩
  have:=put8_three _ h
  rw [put8_3 _ this.1 this.2] at hp
  rw [sc_iff] at hs
  simp at hp
  omega
 ·intro h
  rw [put8_3 _ (by omega) (by omega),sc_iff]
  refine ⟨by simp,by omega,rfl,?_⟩
  simp
  omega
theorem hit4 (x y z u:Int) (l:List Int) (hb:∀ v ∈ x :: y :: z :: u :: l,0≤v∧v≤255):hitB (x :: y :: z :: u :: l) 4=true ↔ mtch (x :: y :: z :: u :: l)=4:=by
 have hx:=hb x (by simp)
 have hy:=hb y (by simp)
 have hz:=hb z (by simp)
 have hu:=hb u (by simp)
 have e:mtch (x :: y :: z :: u :: l)=4 ↔ 240≤x∧x≤244∧128≤y∧y≤191∧(x=240→144≤y)∧(x=244→y≤143)∧128≤z∧z≤191∧128≤u∧u≤191:=by
  have c:c0 (x :: y :: z :: u :: l)=x:=rfl
  constructor
  ·intro h
   rcases row_bytes (x :: y :: z :: u :: l) hb (by omega) (by rw [h];simp only [List.length_cons];omega) with ⟨a,e,h',_⟩ | ⟨a,b,e,h',r⟩ | ⟨a,b,d,e,h',r⟩ | ⟨a,b,d,f,e,h',r1,r2,r3,r4,r5⟩
   ·omega
   ·omega
   ·omega
   ·rw [h] at e
    have e':[x,y,z,u]=[a,b,d,f]:=e
    cases e'
    unfold rowLo at r3;unfold rowHi at r4
    repeat' split at r3
    all_goals repeat' split at r4
    all_goals omega
  ·intro h
   have r:rowN x=4:=by unfold rowN;repeat' split <;> omega
   rw [mtch_yes (x :: y :: z :: u :: l) 4 (fun j h1 h2=>?_) (.inl (by rw [c,r];decide)),c,r]
   have hj:j=1∨j=2∨j=3:=by omega
   rcases hj with rfl | rfl | rfl
   ·refine ok_j _ _ y rfl ?_
    unfold loJ hiJ rowLo rowHi
    rw [c,if_pos rfl,if_pos rfl]
    repeat' split
    all_goals omega
   ·refine ok_j _ _ z rfl ?_
    unfold loJ hiJ
    rw [if_neg (by decide),if_neg (by decide)]
    omega
   ·refine ok_j _ _ u rfl ?_
    unfold loJ hiJ
    rw [if_neg (by decide),if_neg (by decide)]
    omega
 rw [e,hitB_iff _ _ ((((x - 240) * 64 + y - 128) * 64 + z - 128) * 64 + u - 128) rfl]
 constructor
 ·rintro ⟨_,hs,h,hp⟩
  have:=put8_four _ h
  rw [put8_4 _ this] at hp
  rw [sc_iff] at hs
  simp at hp
  omega
 ·intro h
  rw [put8_4 _ (by omega),sc_iff]
  refine ⟨by simp,by omega,rfl,?_⟩
  simp
  omega
theorem hit_iff (b:List Int) (hb:∀ z ∈ b,0≤z∧z≤255) (k:Nat) (h1:1≤k) (h4:k≤4):hitB b k=true ↔ (mtch b=k∧k≤b.length):=by
 by_cases hl:k≤b.length
 ·have e:k=1∨k=2∨k=3∨k=4:=by omega
  simp only [hl,and_true]
  rcases e with rfl | rfl | rfl | rfl
  ·match b,hb,hl with
   | x :: l,hb,_=>exact hit1 x l (hb x (by simp))
  ·match b,hb,hl with
   | [_],_,hl=>simp at hl
   | x :: y :: l,hb,_=>exact hit2 x y l hb
  ·match b,hb,hl with
   | [_],_,hl=>simp at hl
   | [_,_],_,hl=>simp at hl
   | x :: y :: z :: l,hb,_=>exact hit3 x y z l hb
  ·match b,hb,hl with
   | [_],_,hl=>simp at hl
   | [_,_],_,hl=>simp at hl
   | [_,_,_],_,hl=>simp at hl
   | x :: y :: z :: u :: l,hb,_=>exact hit4 x y z u l hb
 ·constructor
  ·intro h;unfold hitB at h;rw [decide_eq_false hl] at h;simp at h
  ·rintro ⟨_,h⟩;exact absurd h hl
theorem mean_val (b:List Int) (hb:∀ z ∈ b,0≤z∧z≤255) (h0:0 < mtch b) (hl:mtch b≤b.length):mean (b.take (mtch b).toNat)=val (b.take (mtch b).toNat):=by
 rcases row_bytes b hb h0 hl with ⟨x,e,_⟩ | ⟨x,y,e,_⟩ | ⟨x,y,z,e,_⟩ | ⟨x,y,z,u,e,_⟩
 all_goals
  rw [e]
  simp only [mean,val]
  try omega
theorem first8_hit (b:List Int) (hb:∀ z ∈ b,0≤z∧z≤255) (k:Nat) (h1:1≤k) (h4:k≤4) (h:hitB b k=true):first8 b=(mean (b.take k),(k:Int)):=by
 obtain ⟨hm,hl⟩:=(hit_iff b hb k h1 h4).1 h
 have h0:0 < mtch b:=by omega
 have hl':mtch b≤b.length:=by omega
 have e:=mean_val b hb h0 hl'
 unfold first8
 rw [if_pos ⟨h0,hl'⟩,← e,hm]
 rfl
theorem first8_none (b:List Int) (hb:∀ z ∈ b,0≤z∧z≤255) (h:∀ k:Nat,1≤k→k≤4→k≤b.length→hitB b k=false):first8 b=(-1 - c0 b,1):=by
 have hbd:=mtch_bd b
 unfold first8
 rw [if_neg]
 rintro ⟨h0,hl⟩
 have:=h (mtch b).toNat (by omega) (by omega) (by omega)
 have h':=(hit_iff b hb (mtch b).toNat (by omega) (by omega)).2 ⟨by omega,by omega⟩
 rw [this] at h'
 cases h'
end Go.Proofs.YtdhciadajendnaaGreat.Cx
