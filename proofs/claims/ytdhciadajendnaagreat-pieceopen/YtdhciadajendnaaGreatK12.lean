import Derived.Test.YtdhciadajendnaaGreatK11
import Derived.Deep.RegionHeld3
import Derived.Deep.RegionWith
set_option maxRecDepth 100000
namespace Go.Proofs.YtdhciadajendnaaGreat
open Go.RowKit
theorem meant1 (b off cap len at':Nat) (x:Int) (w:World) (hx:0≤x∧x≤255) (hbl:b < w.heap.size) (h0:w.cell? ⟨b,off + at',none⟩=some (.int .u8 x)) (hl:at' + 1≤len) :
  Calls Tryz.prog 138 #[.slice (some ⟨b,off,none⟩) len cap,.int .i64 at',.int .i64 1] w fun e w'=>e=.returned (.int .i64 (Cx.mean [x]))∧Below w.heap.size w w':=by
 have h0':∀ o:Obj,(w.alloc o).cell? ⟨b,off + at',none⟩=some (.int .u8 x):=fun o=>((Below.refl w.heap.size w).alloc (Nat.le_refl _) o |>.cell (p:=⟨b,off + at',none⟩) hbl).trans h0
 have hi:(at':Int) < (len:Int):=by omega
 clear h0
 go_enter Tryz.func138,Tryz.ntmps138
 go_wp2
 go_quiet (fail)
 go_wp2
 refine wp_loop_rounds 1 ?_
 rw [rounds_succ]
 go_wp2
 go_ret
 exact ⟨ret_int' (by simp only [Cx.mean]),below_drewN ((Below.refl _ _).alloc (Nat.le_refl _) _) _⟩
theorem meant2 (b off cap len at':Nat) (x y:Int) (w:World) (hx:0≤x∧x≤255) (hy:0≤y∧y≤255) (hbl:b < w.heap.size) (h0:w.cell? ⟨b,off + at',none⟩=some (.int .u8 x)) (h1:w.cell? ⟨b,off + (at' + 1),none⟩=some (.int .u8 y)) (hl:at' + 2≤len) (hm:len≤4611686018427387904) :
  Calls Tryz.prog 138 #[.slice (some ⟨b,off,none⟩) len cap,.int .i64 at',.int .i64 2] w fun e w'=>e=.returned (.int .i64 (Cx.mean [x,y]))∧Below w.heap.size w w':=by
 have h0':∀ o:Obj,(w.alloc o).cell? ⟨b,off + at',none⟩=some (.int .u8 x):=fun o=>((Below.refl w.heap.size w).alloc (Nat.le_refl _) o |>.cell (p:=⟨b,off + at',none⟩) hbl).trans h0
 have h1':∀ o:Obj,(w.alloc o).cell? ⟨b,off + (at' + 1),none⟩=some (.int .u8 y):=fun o=>((Below.refl w.heap.size w).alloc (Nat.le_refl _) o |>.cell (p:=⟨b,off + (at' + 1),none⟩) hbl).trans h1
 have hi:(at':Int) < (len:Int):=by omega
 have hi1:(at':Int) + 1 < (len:Int):=by omega
 clear h0 h1
 go_enter Tryz.func138,Tryz.ntmps138
 go_wp2
 go_quiet (fail)
 go_wp2
 refine wp_loop_rounds 2 ?_
 rw [rounds_succ]
 go_wp2
 rw [rounds_succ]
 go_wp2
 go_ret
 exact ⟨ret_int' (by simp only [Cx.mean]),below_drewN ((Below.refl _ _).alloc (Nat.le_refl _) _) _⟩
theorem meant3 (b off cap len at':Nat) (x y z:Int) (w:World) (hx:0≤x∧x≤255) (hy:0≤y∧y≤255) (hz:0≤z∧z≤255) (hbl:b < w.heap.size) (h0:w.cell? ⟨b,off + at',none⟩=some (.int .u8 x)) (h1:w.cell? ⟨b,off + (at' + 1),none⟩=some (.int .u8 y)) (h2:w.cell? ⟨b,off + (at' + 2),none⟩=some (.int .u8 z)) (hl:at' + 3≤len) (hm:len≤4611686018427387904) :
  Calls Tryz.prog 138 #[.slice (some ⟨b,off,none⟩) len cap,.int .i64 at',.int .i64 3] w fun e w'=>e=.returned (.int .i64 (Cx.mean [x,y,z]))∧Below w.heap.size w w':=by
 have h0':∀ o:Obj,(w.alloc o).cell? ⟨b,off + at',none⟩=some (.int .u8 x):=fun o=>((Below.refl w.heap.size w).alloc (Nat.le_refl _) o |>.cell (p:=⟨b,off + at',none⟩) hbl).trans h0
 have h1':∀ o:Obj,(w.alloc o).cell? ⟨b,off + (at' + 1),none⟩=some (.int .u8 y):=fun o=>((Below.refl w.heap.size w).alloc (Nat.le_refl _) o |>.cell (p:=⟨b,off + (at' + 1),none⟩) hbl).trans h1
 have h2':∀ o:Obj,(w.alloc o).cell? ⟨b,off + (at' + 2),none⟩=some (.int .u8 z):=fun o=>((Below.refl w.heap.size w).alloc (Nat.le_refl _) o |>.cell (p:=⟨b,off + (at' + 2),none⟩) hbl).trans h2
 have hi:(at':Int) < (len:Int):=by omega
 have hi1:(at':Int) + 1 < (len:Int):=by omega
 have hi2:(at':Int) + 2 < (len:Int):=by omega
 clear h0 h1 h2
 go_enter Tryz.func138,Tryz.ntmps138
 go_wp2
 go_quiet (fail)
 go_wp2
 refine wp_loop_rounds 3 ?_
 rw [rounds_succ]
 go_wp2
 rw [rounds_succ]
 go_wp2
 rw [rounds_succ]
 go_wp2
 go_ret
 exact ⟨ret_int' (by simp only [Cx.mean]),below_drewN ((Below.refl _ _).alloc (Nat.le_refl _) _) _⟩
theorem meant4 (b off cap len at':Nat) (x y z u:Int) (w:World) (hx:0≤x∧x≤255) (hy:0≤y∧y≤255) (hz:0≤z∧z≤255) (hu:0≤u∧u≤255) (hbl:b < w.heap.size) (h0:w.cell? ⟨b,off + at',none⟩=some (.int .u8 x)) (h1:w.cell? ⟨b,off + (at' + 1),none⟩=some (.int .u8 y)) (h2:w.cell? ⟨b,off + (at' + 2),none⟩=some (.int .u8 z)) (h3:w.cell? ⟨b,off + (at' + 3),none⟩=some (.int .u8 u)) (hl:at' + 4≤len) (hm:len≤4611686018427387904) :
  Calls Tryz.prog 138 #[.slice (some ⟨b,off,none⟩) len cap,.int .i64 at',.int .i64 4] w fun e w'=>e=.returned (.int .i64 (Cx.mean [x,y,z,u]))∧Below w.heap.size w w':=by
 have h0':∀ o:Obj,(w.alloc o).cell? ⟨b,off + at',none⟩=some (.int .u8 x):=fun o=>((Below.refl w.heap.size w).alloc (Nat.le_refl _) o |>.cell (p:=⟨b,off + at',none⟩) hbl).trans h0
 have h1':∀ o:Obj,(w.alloc o).cell? ⟨b,off + (at' + 1),none⟩=some (.int .u8 y):=fun o=>((Below.refl w.heap.size w).alloc (Nat.le_refl _) o |>.cell (p:=⟨b,off + (at' + 1),none⟩) hbl).trans h1
 have h2':∀ o:Obj,(w.alloc o).cell? ⟨b,off + (at' + 2),none⟩=some (.int .u8 z):=fun o=>((Below.refl w.heap.size w).alloc (Nat.le_refl _) o |>.cell (p:=⟨b,off + (at' + 2),none⟩) hbl).trans h2
 have h3':∀ o:Obj,(w.alloc o).cell? ⟨b,off + (at' + 3),none⟩=some (.int .u8 u):=fun o=>((Below.refl w.heap.size w).alloc (Nat.le_refl _) o |>.cell (p:=⟨b,off + (at' + 3),none⟩) hbl).trans h3
 have hi:(at':Int) < (len:Int):=by omega
 have hi1:(at':Int) + 1 < (len:Int):=by omega
 have hi2:(at':Int) + 2 < (len:Int):=by omega
 have hi3:(at':Int) + 3 < (len:Int):=by omega
 clear h0 h1 h2 h3
 go_enter Tryz.func138,Tryz.ntmps138
 go_wp2
 go_quiet (fail)
 go_wp2
 refine wp_loop_rounds 4 ?_
 rw [rounds_succ]
 go_wp2
 rw [rounds_succ]
 go_wp2
 rw [rounds_succ]
 go_wp2
 rw [rounds_succ]
 go_wp2
 go_ret
 exact ⟨ret_int' (by simp only [Cx.mean]),below_drewN ((Below.refl _ _).alloc (Nat.le_refl _) _) _⟩
theorem drop_take (zs:List Int) (n at':Nat):∀ i,i < n→((zs.drop at').take n)[i]?.getD 0=zs[at' + i]?.getD 0:=by
 intro i hi
 rw [List.getElem?_take,if_pos hi,List.getElem?_drop]
theorem meant_any (v:Value) (zs:List Int) (at' n:Nat) (w:World) (h:Rd .u8 w v zs) (hb:Byt zs) (h1:1≤n) (h4:n≤4) (hl:at' + n≤zs.length) (hm:zs.length≤4611686018427387904) :
  Calls Tryz.prog 138 #[v,.int .i64 at',.int .i64 n] w fun e w'=>e=.returned (.int .i64 (Cx.mean ((zs.drop at').take n)))∧Below w.heap.size w w':=by
 obtain ⟨ao,cap,rfl,hlc,hcm,hc⟩:=h
 obtain ⟨b,off,rfl,hbl,hc⟩:=hc (List.length_pos_iff.1 (by omega))
 have e:n=1∨n=2∨n=3∨n=4:=by omega
 have g:∀ j,j < n→w.cell? ⟨b,off + (at' + j),none⟩=some (.int .u8 (zs[at' + j]?.getD 0)):=fun j hj=>hc _ (by omega)
 have len:((zs.drop at').take n).length=n:=by rw [List.length_take,List.length_drop];omega
 have dt:=drop_take zs n at'
 rcases e with rfl | rfl | rfl | rfl
 ·have e:(zs.drop at').take 1=[zs[at']?.getD 0]:=by
   apply List.ext_getElem (by simpa using len)
   intro i h1 h2
   have:=dt i (by omega)
   rw [List.getElem?_eq_getElem h1] at this
   simp at h2;subst h2
   simpa using this
  rw [e]
  exact meant1 b off cap zs.length at' _ w (hb.at _) hbl (g 0 (by omega)) hl
 ·have e:(zs.drop at').take 2=[zs[at']?.getD 0,zs[at' + 1]?.getD 0]:=by
   apply List.ext_getElem (by simpa using len)
   intro i h1 h2
   have:=dt i (by omega)
   rw [List.getElem?_eq_getElem h1] at this
   have hi:i=0∨i=1:=by simp at h2;omega
   rcases hi with rfl | rfl <;> simpa using this
  rw [e]
  exact meant2 b off cap zs.length at' _ _ w (hb.at _) (hb.at _) hbl (g 0 (by omega)) (g 1 (by omega)) hl hm
 ·have e:(zs.drop at').take 3=[zs[at']?.getD 0,zs[at' + 1]?.getD 0,zs[at' + 2]?.getD 0]:=by
   apply List.ext_getElem (by simpa using len)
   intro i h1 h2
   have:=dt i (by omega)
   rw [List.getElem?_eq_getElem h1] at this
   have hi:i=0∨i=1∨i=2:=by simp at h2;omega
   rcases hi with rfl | rfl | rfl <;> simpa using this
  rw [e]
  exact meant3 b off cap zs.length at' _ _ _ w (hb.at _) (hb.at _) (hb.at _) hbl (g 0 (by omega)) (g 1 (by omega)) (g 2 (by omega)) hl hm
 ·have e:(zs.drop at').take 4=[zs[at']?.getD 0,zs[at' + 1]?.getD 0,zs[at' + 2]?.getD 0,zs[at' + 3]?.getD 0]:=by
   apply List.ext_getElem (by simpa using len)
   intro i h1 h2
   have:=dt i (by omega)
   rw [List.getElem?_eq_getElem h1] at this
   have hi:i=0∨i=1∨i=2∨i=3:=by simp at h2;omega
   rcases hi with rfl | rfl | rfl | rfl <;> simpa using this
  rw [e]
  exact meant4 b off cap zs.length at' _ _ _ _ w (hb.at _) (hb.at _) (hb.at _) (hb.at _) hbl (g 0 (by omega)) (g 1 (by omega)) (g 2 (by omega)) (g 3 (by omega)) hl hm
theorem Cx.hit_no_sc (b:List Int) (k:Nat) (h:Cx.isSc (Cx.mean (b.take k))=false):Cx.hitB b k=false:=by unfold Cx.hitB;rw [h];simp
theorem Cx.hit_eq (b:List Int) (k:Nat) (h:k≤b.length) (hs:Cx.isSc (Cx.mean (b.take k))=true):Cx.hitB b k=(decide ((Cx.put8 (Cx.mean (b.take k))).length=k) && (Cx.put8 (Cx.mean (b.take k))).isPrefixOf b):=by
 unfold Cx.hitB;rw [hs,decide_eq_true h];simp
theorem Cx.put8_ne (a:Int):Cx.put8 a≠[]:=by
 unfold Cx.put8
 repeat' split
 all_goals simp
theorem Cx.put8_len (a:Int):(Cx.put8 a).length≤4:=by
 unfold Cx.put8
 repeat' split
 all_goals simp
theorem Rd.of_lit {w w':World} {v:Value} {bs:List Int} (h:Cx.Lit w w' v bs) (hl:bs.length≤maxLen):Rd .u8 w' v bs:=by
 obtain ⟨g,rfl,hg,hc,hb⟩:=h.head
 refine ⟨_,_,rfl,Nat.le_refl _,hl,fun hn=>⟨g,0,rfl,?_,fun i hi=>?_⟩⟩
 ·have:=hc 0 (List.length_pos_iff.2 hn)
  exact World.block_lt_of_cell? w' _ this
 ·rw [Nat.zero_add,hc i hi];simp [List.getD]
set_option maxHeartbeats 1000000 in
theorem eightAt_any (v:Value) (zs:List Int) (at':Nat) (w:World) (h:Rd .u8 w v zs) (hb:Byt zs) (hl:at' < zs.length) (hm:zs.length≤4611686018427387000) :
  Calls Tryz.prog 129 #[v,.int .i64 at'] w fun e w'=>e=.returned (.tuple #[.int .i64 (Cx.first8 (zs.drop at')).1,.int .i64 (Cx.first8 (zs.drop at')).2])∧Below w.heap.size w w':=by
 have HR:Hid (Rd .u8 w v zs):=h
 have HB:Hid (Byt zs):=hb
 have hx:=hb.at at'
 obtain ⟨ao,cap,rfl,hlc,hcm,hc⟩:=h
 obtain ⟨b,off,rfl,hbl,hc⟩:=hc (List.length_pos_iff.1 (by omega))
 have h0:=hc at' hl
 have HX:Hid (zs[at']?.getD 0=Cx.c0 (zs.drop at')):=by unfold Hid Cx.c0;rw [List.getElem?_drop,Nat.add_zero]
 have HY:Hid (∀ k:Nat,1≤k→k≤4→Cx.hitB (zs.drop at') k=true→Cx.first8 (zs.drop at')=(Cx.mean ((zs.drop at').take k),(k:Int))):=Cx.first8_hit _ (hb.drop at')
 have HN:Hid ((∀ k:Nat,1≤k→k≤4→k≤(zs.drop at').length→Cx.hitB (zs.drop at') k=false)→Cx.first8 (zs.drop at')=(-1 - Cx.c0 (zs.drop at'),1)):=Cx.first8_none _ (hb.drop at')
 have hlen:(zs.drop at').length=zs.length - at':=List.length_drop
 generalize zs[at']?.getD 0=x at *
 clear hc hb hcm
 go_enter Tryz.func129,Tryz.ntmps129
 go_wp2_with fail
 go_loopw [6] (fun i wr=>∃ k:Nat,1≤k∧k≤5∧i=.int .i64 k∧Hid (∀ j:Nat,1≤j→j < k→Cx.hitB (zs.drop at') j=false)∧Below w.heap.size w wr) (fun i _=>5 - (intOf i).toNat)
 case atStart=>exact ⟨1,Nat.le_refl _,by omega,rfl,fun j h1 h2=>by omega,Below.refl _ _⟩
 case round =>
  obtain ⟨k,hk1,hk2,rfl,HJ,hbw⟩:=hrel
  have HBW:Hid (Below w.heap.size w wr):=hbw
  by_cases hin:k≤4∧at' + k≤zs.length
  ·obtain ⟨hin1,hin2⟩:=hin
   have HK:Hid (Cx.hitB (zs.drop at') k=false→∀ j:Nat,1≤j→j < k + 1→Cx.hitB (zs.drop at') j=false):=fun hh j h1 h2=>by
    by_cases hj:j=k
    ·rw [hj];exact hh
    ·exact HJ.out j h1 (by omega)
   have HF:=HY.out k hk1 hin1
   have HQ:=Cx.hit_eq (zs.drop at') k (by omega)
   have HS:=Cx.hit_no_sc (zs.drop at') k
   have HSC:=Cx.sc_iff (Cx.mean ((zs.drop at').take k))
   clear HJ HN HY hbw h0
   go_wp2_with fail
   refine (meant_any _ zs at' k _ (HR.out.ext HBW.out) HB.out hk1 hin1 hin2 (by omega)).mono ?_
   rintro e w1 ⟨rfl,hb1⟩
   have HW1:Hid (Below w.heap.size w w1):=zxt HBW.out hb1
   clear hb1 HBW
   generalize Cx.mean ((zs.drop at').take k)=m at *
   have HF':Hid (Cx.hitB (zs.drop at') k=true→Cx.first8 (zs.drop at')=(m,(k:Int))):=HF
   have HQ':Hid (Cx.isSc m=true→Cx.hitB (zs.drop at') k=(decide ((Cx.put8 m).length=k) && (Cx.put8 m).isPrefixOf (zs.drop at'))):=HQ
   have HS':Hid (Cx.isSc m=false→Cx.hitB (zs.drop at') k=false):=HS
   have HSC':Hid (Cx.isSc m=true ↔ (0≤m∧m < 55296)∨(57343 < m∧m≤1114111)):=HSC
   clear HF HQ HS HSC
   go_wp2_with fail
   refine (Scalar_any m _).mono ?_
   rintro e w' ⟨rfl,rfl⟩
   cases hsc:Cx.isSc m
   ·have HT:Hid (∀ j:Nat,1≤j→j < k + 1→Cx.hitB (zs.drop at') j=false):=HK.out (HS'.out hsc)
    clear HK HF' HQ' HS' HSC' hsc
    go_wp2_with fail
    go_roundw
    case rel=>exact ⟨k + 1,by omega,by omega,by go_num,HT.out,HW1.out⟩
    case measure=>simp [intOf];omega
   ·have hmr:=HSC'.out.1 hsc
    have hm0:0≤m:=by omega
    have hm1:m≤1114111:=by omega
    have HE:Hid (Cx.hitB (zs.drop at') k=(decide ((Cx.put8 m).length=k) && (Cx.put8 m).isPrefixOf (zs.drop at'))):=HQ'.out hsc
    clear HQ' HS' HSC' hsc hmr
    go_wp2_with fail
    refine (eight_any m _ hm0 hm1).mono ?_
    rintro e w2 ⟨pv,rfl,hlit⟩
    have hpl:=Cx.put8_len m
    have hpn:Hid (Cx.put8 m≠[]):=Cx.put8_ne m
    have hrd:=Rd.of_lit hlit (by simp only [maxLen];omega)
    have HW2:Hid (Below w.heap.size w w2):=by obtain ⟨_,_,_,_,hb2⟩:=hlit;exact zxt HW1.out hb2
    obtain ⟨pa,pc,rfl,_⟩:=id hrd
    have HP:Hid (Rd .u8 w2 (.slice pa (Cx.put8 m).length pc) (Cx.put8 m)):=hrd
    clear hrd hlit HW1
    generalize Cx.put8 m=ps at *
    go_wp2_with fail
    refine (begins_any _ _ zs ps at' _ (HR.out.ext HW2.out) HP.out (by omega) hpn.out (by omega)).mono ?_
    rintro e w3 ⟨rfl,hb3⟩
    have HW3:Hid (Below w.heap.size w w3):=zxt HW2.out hb3
    clear hb3 HW2 HP
    by_cases hpk:ps.length=k
    ·have hq:((ps.length:Int) == (k:Int))=true:=by rw [hpk];simp
     cases hpf:ps.isPrefixOf (zs.drop at')
     ·have HT:Hid (∀ j:Nat,1≤j→j < k + 1→Cx.hitB (zs.drop at') j=false):=HK.out (by rw [HE.out,hpf];simp)
      clear HK HF' HE hpf hpk
      go_wp2_with fail
      go_roundw
      case rel=>exact ⟨k + 1,by omega,by omega,by go_num,HT.out,HW3.out⟩
      case measure=>simp [intOf];omega
     ·have HT:Hid (Cx.first8 (zs.drop at')=(m,(k:Int))):=HF'.out (by rw [HE.out,hpf,decide_eq_true hpk];rfl)
      clear HK HF' HE hpf hpk
      go_wp2_with fail
      go_ret2
      exact ⟨by rw [HT.out];rfl,HW3.out⟩
    ·have hq:((ps.length:Int) == (k:Int))=false:=by simp;omega
     have HT:Hid (∀ j:Nat,1≤j→j < k + 1→Cx.hitB (zs.drop at') j=false):=HK.out (by rw [HE.out,decide_eq_false hpk];rfl)
     generalize ps.isPrefixOf (zs.drop at')=pf at *
     clear HK HF' HE hpk
     go_wp2_with fail
     go_roundw
     case rel=>exact ⟨k + 1,by omega,by omega,by go_num,HT.out,HW3.out⟩
     case measure=>simp [intOf];omega
  ·have HT:Hid (Cx.first8 (zs.drop at')=(-1 - x,1)):=by
    rw [HX.out]
    exact HN.out fun j h1 h4 hj=>HJ.out j h1 (by omega)
   have hcx:wr.cell? ⟨b,off + at',none⟩=some (.int .u8 x):=(hbw.cell (p:=⟨b,off + at',none⟩) hbl).trans h0
   clear HJ HN HY HX h0 hbw
   by_cases hin1:k≤4
   ·have hin2:zs.length < at' + k:=by omega
    clear hin
    go_wp2_with fail
    go_ret2
    exact ⟨by rw [HT.out];rfl,HBW.out⟩
   ·clear hin
    go_wp2_with fail
    go_ret2
    exact ⟨by rw [HT.out];rfl,HBW.out⟩
open Go.RowKit
def Cx.wv (k:Int) (zs:List Int):Int:=if k=0 then zs[1]?.getD 0 * 256 + zs[0]?.getD 0 else zs[0]?.getD 0 * 256 + zs[1]?.getD 0
theorem Cx.wv_bd (k:Int) (zs:List Int) (hb:Byt zs):0≤Cx.wv k zs∧Cx.wv k zs≤65535:=by
 have:=hb.at 0
 have:=hb.at 1
 unfold Cx.wv;split <;> omega
theorem or8 {x y:Int} (hx0:0≤x) (hx:x % 256=0) (hx1:x < 9223372036854775808) (h0:0≤y) (h1:y < 256):bits .or .i64 x y=x + y:=bits_join .i64 63 (by decide) wraps_i64 8 x y hx0 (by omega) (by omega) h0 (by omega) (by omega)
theorem unitW_any (k:Int) (v:Value) (zs:List Int) (w:World) (h:Rd .u8 w v zs) (hb:Byt zs) (hk:k=0∨k=1) (h2:2≤zs.length) :
  Calls Tryz.prog 186 #[.agg #[.int .i64 k],v] w fun e w'=>e=.returned (.int .i64 (Cx.wv k zs))∧∃ n,w'=(w.alloc (.cells #[.int .i64 k] 153)).drewN n:=by
 have hlen:=h.len
 obtain ⟨ao,cap,rfl,hl,hm,hc⟩:=h
 obtain ⟨b,off,rfl,hbl,hc⟩:=hc (List.length_pos_iff.1 (by omega))
 have h0:=hc 0 (by omega)
 have h1:=hc 1 (by omega)
 have hb0:=hb.at 0
 have hb1:=hb.at 1
 have HE:Hid (Cx.wv k zs=if k=0 then zs[1]?.getD 0 * 256 + zs[0]?.getD 0 else zs[0]?.getD 0 * 256 + zs[1]?.getD 0):=rfl
 generalize Cx.wv k zs=R at *
 generalize zs[0]?.getD 0=x at *
 generalize zs[1]?.getD 0=y at *
 rw [Nat.add_zero] at h0
 have h0':∀ o:Obj,(w.alloc o).cell? ⟨b,off,none⟩=some (.int .u8 x):=fun o=>((Below.refl w.heap.size w).alloc (Nat.le_refl _) o |>.cell (p:=⟨b,off,none⟩) hbl).trans h0
 have h1':∀ o:Obj,(w.alloc o).cell? ⟨b,off + 1,none⟩=some (.int .u8 y):=fun o=>((Below.refl w.heap.size w).alloc (Nat.le_refl _) o |>.cell (p:=⟨b,off + 1,none⟩) hbl).trans h1
 have hg0:(0:Int) < (zs.length:Int):=by omega
 have hg1:(1:Int) < (zs.length:Int):=by omega
 clear hc hb hm h0 h1
 rcases hk with rfl | rfl
 ·rw [if_pos rfl] at HE
  go_enter Tryz.func186,Tryz.ntmps186
  go_wp2
  go_quiet (fail)
  go_wp2
  go_ret
  refine ⟨ret_int' ?_,_,rfl⟩
  rw [HE.out]
  rw [or8 (by omega) (by omega) (by omega) (by omega) (by omega)]
 ·rw [if_neg (by omega)] at HE
  go_enter Tryz.func186,Tryz.ntmps186
  go_wp2
  go_quiet (fail)
  go_wp2
  go_ret
  refine ⟨ret_int' ?_,_,rfl⟩
  rw [HE.out]
  rw [or8 (by omega) (by omega) (by omega) (by omega) (by omega)]
def Cx.hiU (a:Int):Bool:=decide (55296≤a) && decide (a < 56320)
def Cx.loU (a:Int):Bool:=decide (56320≤a) && decide (a≤57343)
theorem isHigh_any (a:Int) (w:World):Calls Tryz.prog 188 #[.int .i64 a] w fun e w'=>e=.returned (.bool (Cx.hiU a))∧w'=w:=by
 unfold Cx.hiU
 by_cases h1:55296≤a
 ·go_enter Tryz.func188,Tryz.ntmps188
  go_wp2
  go_ret
  exact ⟨by rw [decide_eq_true h1,Bool.true_and];rfl,rfl⟩
 ·have hd:decide (55296≤a)=false:=by simp;omega
  go_enter Tryz.func188,Tryz.ntmps188
  go_wp2
  go_ret
  exact ⟨rfl,rfl⟩
theorem isLow_any (a:Int) (w:World):Calls Tryz.prog 189 #[.int .i64 a] w fun e w'=>e=.returned (.bool (Cx.loU a))∧w'=w:=by
 unfold Cx.loU
 by_cases h1:56320≤a
 ·go_enter Tryz.func189,Tryz.ntmps189
  go_wp2
  go_ret
  exact ⟨by rw [decide_eq_true h1,Bool.true_and];rfl,rfl⟩
 ·have hd:decide (56320≤a)=false:=by simp;omega
  go_enter Tryz.func189,Tryz.ntmps189
  go_wp2
  go_ret
  exact ⟨rfl,rfl⟩
theorem zxa {a w:World} (h:Below a.heap.size a w) (o:Obj):Below a.heap.size a (w.alloc o):=h.alloc h.size o
theorem two_new {w w':World} {o o':Obj} {n:Nat} (h:w'=((w.alloc o).alloc o').drewN n):Below w.heap.size w w':=by
 subst h;exact below_drewN (((Below.refl _ _).alloc (Nat.le_refl _) _).alloc (by simp) _) _
theorem one_new {w w':World} {o:Obj} {n:Nat} (h:w'=(w.alloc o).drewN n):Below w.heap.size w w':=by
 subst h;exact below_drewN ((Below.refl _ _).alloc (Nat.le_refl _) _) _
theorem Rd.drop {k:IntKind} {w:World} {b off n cap:Nat} {zs:List Int} (h:Rd k w (.slice (some ⟨b,off,none⟩) n cap) zs) (m:Nat) (hm:m < zs.length):Rd k w (.slice (some ⟨b,off + m,none⟩) (n - m) (cap - m)) (zs.drop m):=by
 obtain ⟨ao',cap',hv,h1,h2,h3⟩:=h
 cases hv
 refine ⟨_,cap - m,by rw [List.length_drop],by rw [List.length_drop];omega,by omega,fun hn=>?_⟩
 obtain ⟨b',off',ha,hb,hc⟩:=h3 (fun h=>by rw [h] at hm;simp at hm)
 cases ha
 refine ⟨b,off + m,rfl,hb,fun i hi=>?_⟩
 rw [List.length_drop] at hi
 rw [Nat.add_assoc,hc (m + i) (by omega),List.getElem?_drop]
def Cx.isP (k:Int) (zs:List Int):Bool:=decide (4≤zs.length) && Cx.hiU (Cx.wv k zs) && Cx.loU (Cx.wv k (zs.drop 2))
set_option maxHeartbeats 1000000 in
theorem isPair_any (k:Int) (v:Value) (zs:List Int) (w:World) (h:Rd .u8 w v zs) (hb:Byt zs) (hk:k=0∨k=1) (h2:2≤zs.length) :
  Calls Tryz.prog 184 #[.agg #[.int .i64 k],v] w fun e w'=>e=.returned (.bool (Cx.isP k zs))∧Below w.heap.size w w':=by
 have HR:Hid (Rd .u8 w v zs):=h
 have HB:Hid (Byt zs):=hb
 have HK:Hid (k=0∨k=1):=hk
 have hlen:=h.len
 obtain ⟨ao,cap,rfl,hl,hm,hc⟩:=h
 obtain ⟨b,off,rfl,hbl,hc⟩:=hc (List.length_pos_iff.1 (by omega))
 clear hm hk hb
 by_cases h4:4≤zs.length
 ·have HD:Hid (Rd .u8 w (.slice (some ⟨b,off + 2,none⟩) (zs.length - 2) (cap - 2)) (zs.drop 2)):=HR.out.drop 2 (by omega)
  have hi4:(4:Int)≤(zs.length:Int):=by omega
  cases hH:Cx.hiU (Cx.wv k zs)
  ·have HE:Hid (Cx.isP k zs=false):=by unfold Hid Cx.isP;rw [hH,Bool.and_false,Bool.false_and]
   clear hc
   go_enter Tryz.func184,Tryz.ntmps184
   go_wp2_with fail
   first | go_region_with (first | (go_at_call 188;refine (isHigh_any _ _).mono ?_;rintro e w' ⟨rfl,rfl⟩;rw [hH]) | (go_at_call_of 186 (Value.slice (some { block:=b,off:=off }) zs.length cap);refine (unitW_any k _ zs _ ?_ HB.out HK.out h2).mono ?_;exact HR.out.ext ((Below.refl _ _).alloc (Nat.le_refl _) _).drew;rintro e w' ⟨rfl,n1,rfl⟩)) | fail
   all_goals
    go_wp2
    go_ret
    exact ⟨by rw [HE.out];rfl,(by repeat (first | exact Below.refl _ _ | apply below_drewN | refine zxa ?_ _ | apply Below.drew))⟩
  ·cases hL:Cx.loU (Cx.wv k (zs.drop 2))
   ·have HE:Hid (Cx.isP k zs=false):=by unfold Hid Cx.isP;rw [hL,Bool.and_false]
    clear hc
    go_enter Tryz.func184,Tryz.ntmps184
    go_wp2_with fail
    first | go_region_with (first | (go_at_call 188;refine (isHigh_any _ _).mono ?_;rintro e w' ⟨rfl,rfl⟩;rw [hH]) | (go_at_call 189;refine (isLow_any _ _).mono ?_;rintro e w' ⟨rfl,rfl⟩;rw [hL]) | (go_at_call_of 186 (Value.slice (some { block:=b,off:=off }) zs.length cap);refine (unitW_any k _ zs _ ?_ HB.out HK.out h2).mono ?_;exact HR.out.ext ((Below.refl _ _).alloc (Nat.le_refl _) _).drew;rintro e w' ⟨rfl,n1,rfl⟩) | (go_at_call 186;refine (unitW_any k _ (zs.drop 2) _ ?_ (HB.out.drop 2) HK.out ?_).mono ?_;exact HD.out.ext (two_new rfl);(rw [List.length_drop];omega);rintro e w' ⟨rfl,n2,rfl⟩)) | fail
    all_goals
     go_wp2
     go_ret
     exact ⟨by rw [HE.out];rfl,(by repeat (first | exact Below.refl _ _ | apply below_drewN | refine zxa ?_ _ | apply Below.drew))⟩
   ·have HE:Hid (Cx.isP k zs=true):=by unfold Hid Cx.isP;rw [hH,hL,decide_eq_true h4];rfl
    clear hc
    go_enter Tryz.func184,Tryz.ntmps184
    go_wp2_with fail
    first | go_region_with (first | (go_at_call 188;refine (isHigh_any _ _).mono ?_;rintro e w' ⟨rfl,rfl⟩;rw [hH]) | (go_at_call 189;refine (isLow_any _ _).mono ?_;rintro e w' ⟨rfl,rfl⟩;rw [hL]) | (go_at_call_of 186 (Value.slice (some { block:=b,off:=off }) zs.length cap);refine (unitW_any k _ zs _ ?_ HB.out HK.out h2).mono ?_;exact HR.out.ext ((Below.refl _ _).alloc (Nat.le_refl _) _).drew;rintro e w' ⟨rfl,n1,rfl⟩) | (go_at_call 186;refine (unitW_any k _ (zs.drop 2) _ ?_ (HB.out.drop 2) HK.out ?_).mono ?_;exact HD.out.ext (two_new rfl);(rw [List.length_drop];omega);rintro e w' ⟨rfl,n2,rfl⟩)) | fail
    all_goals
     go_wp2
     go_ret
     exact ⟨by rw [HE.out];rfl,(by repeat (first | exact Below.refl _ _ | apply below_drewN | refine zxa ?_ _ | apply Below.drew))⟩
 ·have HE:Hid (Cx.isP k zs=false):=by unfold Hid Cx.isP;rw [decide_eq_false h4];rfl
  have hd:decide ((4:Int)≤(zs.length:Int))=false:=by simp;omega
  clear hc
  go_enter Tryz.func184,Tryz.ntmps184
  go_wp2
  go_quiet (fail)
  go_wp2
  go_ret
  exact ⟨by rw [HE.out];rfl,(by repeat (first | exact Below.refl _ _ | apply below_drewN | refine zxa ?_ _ | apply Below.drew))⟩
open Go.RowKit
def Cx.pairV (k:Int) (zs:List Int):Int:=65536 + (Cx.wv k zs - 55296) * 1024 + (Cx.wv k (zs.drop 2) - 56320)
set_option maxHeartbeats 1000000 in
theorem pair_any (k:Int) (v:Value) (zs:List Int) (w:World) (h:Rd .u8 w v zs) (hb:Byt zs) (hk:k=0∨k=1) (h4:4≤zs.length) :
  Calls Tryz.prog 185 #[.agg #[.int .i64 k],v] w fun e w'=>e=.returned (.int .i64 (Cx.pairV k zs))∧Below w.heap.size w w':=by
 have HR:Hid (Rd .u8 w v zs):=h
 have HB:Hid (Byt zs):=hb
 have HK:Hid (k=0∨k=1):=hk
 have hlen:=h.len
 obtain ⟨ao,cap,rfl,hl,hm,hc⟩:=h
 obtain ⟨b,off,rfl,hbl,_⟩:=hc (List.length_pos_iff.1 (by omega))
 clear hc hm hk
 have HD:Hid (Rd .u8 w (.slice (some ⟨b,off + 2,none⟩) (zs.length - 2) (cap - 2)) (zs.drop 2)):=HR.out.drop 2 (by omega)
 have hx:=Cx.wv_bd k zs hb
 have hy:=Cx.wv_bd k (zs.drop 2) (hb.drop 2)
 have HE:Hid (Cx.pairV k zs=65536 + (Cx.wv k zs - 55296) * 1024 + (Cx.wv k (zs.drop 2) - 56320)):=rfl
 have hi2:(2:Int)≤(zs.length:Int):=by omega
 have hc2:¬ cap=2:=by omega
 clear hb
 generalize Cx.pairV k zs=R at *
 go_enter Tryz.func185,Tryz.ntmps185
 go_wp2_with fail
 first | go_region_with (first | (go_at_call_of 186 (Value.slice (some { block:=b,off:=off }) zs.length cap);refine (unitW_any k _ zs _ ?_ HB.out HK.out ?_).mono ?_;exact HR.out.ext (by repeat (first | exact Below.refl _ _ | apply below_drewN | refine zxa ?_ _ | apply Below.drew));omega;rintro e w' ⟨rfl,n1,rfl⟩) | (go_at_call 186;refine (unitW_any k _ (zs.drop 2) _ ?_ (HB.out.drop 2) HK.out ?_).mono ?_;exact HD.out.ext (by repeat (first | exact Below.refl _ _ | apply below_drewN | refine zxa ?_ _ | apply Below.drew));(rw [List.length_drop];omega);rintro e w' ⟨rfl,n2,rfl⟩)) | fail
 all_goals
  go_wp2
  go_ret
  exact ⟨ret_int' (by rw [HE.out];simp only [IntKind.wrap_i64];omega),by repeat (first | exact Below.refl _ _ | apply below_drewN | refine zxa ?_ _ | apply Below.drew)⟩
def Cx.first16 (k:Int) (zs:List Int):Int × Int:=if zs.length=1 then (-1 - Cx.c0 zs,1) else if Cx.isP k zs=true then (Cx.pairV k zs,4) else (Cx.wv k zs,2)
theorem first16_any (k:Int) (v:Value) (zs:List Int) (w:World) (h:Rd .u8 w v zs) (hb:Byt zs) (hk:k=0∨k=1) (hn:zs≠[]) :
  Calls Tryz.prog 178 #[.agg #[.int .i64 k],v] w fun e w'=>e=.returned (.tuple #[.int .i64 (Cx.first16 k zs).1,.int .i64 (Cx.first16 k zs).2])∧Below w.heap.size w w':=by
 have HR:Hid (Rd .u8 w v zs):=h
 have HB:Hid (Byt zs):=hb
 have HK:Hid (k=0∨k=1):=hk
 have hlen:=h.len
 have hb0:=hb.at 0
 change 0≤Cx.c0 zs∧Cx.c0 zs≤255 at hb0
 obtain ⟨ao,cap,rfl,hl,hm,hc⟩:=h
 obtain ⟨b,off,rfl,hbl,hc⟩:=hc hn
 have hpos:0 < zs.length:=List.length_pos_iff.2 hn
 have h0:=hc 0 hpos
 rw [Nat.add_zero] at h0
 change w.cell? ⟨b,off,none⟩=some (.int .u8 (Cx.c0 zs)) at h0
 have h0':∀ o:Obj,(w.alloc o).cell? ⟨b,off,none⟩=some (.int .u8 (Cx.c0 zs)):=fun o=>((Below.refl w.heap.size w).alloc (Nat.le_refl _) o |>.cell (p:=⟨b,off,none⟩) hbl).trans h0
 clear hn hc hm hk hb h0
 by_cases h1:zs.length=1
 ·have HE:Hid (Cx.first16 k zs=(-1 - Cx.c0 zs,1)):=by unfold Hid Cx.first16;rw [if_pos h1]
  have hbq:((zs.length:Int) == 1)=true:=by rw [h1];rfl
  clear h1
  go_enter Tryz.func178,Tryz.ntmps178
  go_wp2_with fail
  refine (rawAtom_any _ _ hb0.1 hb0.2).mono ?_
  rintro e w1 ⟨rfl,rfl⟩
  go_wp2
  go_ret2
  exact ⟨by rw [HE.out];rfl,(Below.refl _ _).alloc (Nat.le_refl _) _⟩
 ·have hbq:((zs.length:Int) == 1)=false:=by simp;omega
  have h2:2≤zs.length:=by omega
  cases hp:Cx.isP k zs
  ·have HE:Hid (Cx.first16 k zs=(Cx.wv k zs,2)):=by unfold Hid Cx.first16;rw [if_neg h1,hp];rfl
   clear h1 h0'
   go_enter Tryz.func178,Tryz.ntmps178
   go_wp2_with fail
   refine (isPair_any k _ zs _ (HR.out.ext ((Below.refl _ _).alloc (Nat.le_refl _) _)) HB.out HK.out h2).mono ?_
   rintro e w1 ⟨rfl,hb1⟩
   have hcb:w1.cell? ⟨w.heap.size,0,none⟩=some (.int .i64 k):=(hb1.cell (p:=⟨w.heap.size,0,none⟩) (by simp)).trans (by simp)
   have HW1:Hid (Below w.heap.size w w1):=zxt ((Below.refl _ _).alloc (Nat.le_refl _) _) hb1
   clear hb1
   rw [hp]
   go_wp2_with fail
   refine (unitW_any k _ zs _ (HR.out.ext HW1.out) HB.out HK.out h2).mono ?_
   rintro e w2 ⟨rfl,n2,rfl⟩
   go_wp2
   go_ret2
   exact ⟨by rw [HE.out];rfl,zxt HW1.out (one_new rfl)⟩
  ·have h4:4≤zs.length:=by
    unfold Cx.isP at hp
    simp only [Bool.and_eq_true,decide_eq_true_eq] at hp
    exact hp.1.1
   have HE:Hid (Cx.first16 k zs=(Cx.pairV k zs,4)):=by unfold Hid Cx.first16;rw [if_neg h1,hp];rfl
   clear h1 h0'
   go_enter Tryz.func178,Tryz.ntmps178
   go_wp2_with fail
   refine (isPair_any k _ zs _ (HR.out.ext ((Below.refl _ _).alloc (Nat.le_refl _) _)) HB.out HK.out h2).mono ?_
   rintro e w1 ⟨rfl,hb1⟩
   have hcb:w1.cell? ⟨w.heap.size,0,none⟩=some (.int .i64 k):=(hb1.cell (p:=⟨w.heap.size,0,none⟩) (by simp)).trans (by simp)
   have HW1:Hid (Below w.heap.size w w1):=zxt ((Below.refl _ _).alloc (Nat.le_refl _) _) hb1
   clear hb1
   rw [hp]
   go_wp2_with fail
   refine (pair_any k _ zs _ (HR.out.ext HW1.out) HB.out HK.out h4).mono ?_
   rintro e w2 ⟨rfl,hb2⟩
   go_wp2
   go_ret2
   exact ⟨by rw [HE.out];rfl,zxt HW1.out hb2⟩
theorem first4_any (v:Value) (zs:List Int) (w:World) (h:Rd .u8 w v zs) (hb:Byt zs) (hn:zs≠[]) :
  Calls Tryz.prog 190 #[.agg #[],v] w fun e w'=>e=.returned (.tuple #[.int .i64 (Cx.c0 zs),.int .i64 1])∧Below w.heap.size w w':=by
 have hlen:=h.len
 have hb0:=hb.at 0
 change 0≤Cx.c0 zs∧Cx.c0 zs≤255 at hb0
 obtain ⟨ao,cap,rfl,hl,hm,hc⟩:=h
 obtain ⟨b,off,rfl,hbl,hc⟩:=hc hn
 have hpos:0 < zs.length:=List.length_pos_iff.2 hn
 have h0:=hc 0 hpos
 rw [Nat.add_zero] at h0
 change w.cell? ⟨b,off,none⟩=some (.int .u8 (Cx.c0 zs)) at h0
 have h0':∀ o:Obj,(w.alloc o).cell? ⟨b,off,none⟩=some (.int .u8 (Cx.c0 zs)):=fun o=>((Below.refl w.heap.size w).alloc (Nat.le_refl _) o |>.cell (p:=⟨b,off,none⟩) hbl).trans h0
 clear hn hc hm hb h0
 go_enter Tryz.func190,Tryz.ntmps190
 go_wp2
 go_ret2
 exact ⟨rfl,(Below.refl _ _).alloc (Nat.le_refl _) _⟩
def Cx.fst (enc:Int) (zs:List Int):Int × Int:=if enc=1 then Cx.first8 zs else if enc=2 then Cx.first16 0 zs else if enc=3 then Cx.first16 1 zs else (Cx.c0 zs,1)
end Go.Proofs.YtdhciadajendnaaGreat
