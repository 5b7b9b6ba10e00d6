import Derived.Test.YtgfdfajblidleaaGreatK07
set_option maxRecDepth 100000
namespace Go.Proofs.YtgfdfajblidleaaGreat
open Go.RowKit
theorem meant1 (b off cap len at':Nat) (x:Int) (w:World) (hx:0≤x∧x≤255) (hbl:b < w.heap.size) (h0:w.cell? ⟨b,off + at',none⟩=some (.int .u8 x)) (hl:at' + 1≤len) :
  Calls Tryz.prog 90 #[.slice (some ⟨b,off,none⟩) len cap,.int .i64 at',.int .i64 1] w fun e w'=>e=.returned (.int .i64 (Cx.mean [x]))∧Below w.heap.size w w':=by
 have h0':∀ o:Obj,(w.alloc o).cell? ⟨b,off + at',none⟩=some (.int .u8 x):=fun o=>((Below.refl w.heap.size w).alloc (Nat.le_refl _) o |>.cell (p:=⟨b,off + at',none⟩) hbl).trans h0
 have hi:(at':Int) < (len:Int):=by omega
 clear h0
 go_enter Tryz.func90,Tryz.ntmps90
 go_wp2
 go_quiet (fail)
 go_wp2
 refine wp_loop_rounds 1 ?_
 rw [rounds_succ]
 go_wp2
 go_ret
 exact ⟨ret_int' (by simp only [Cx.mean]),below_drewN ((Below.refl _ _).alloc (Nat.le_refl _) _) _⟩
theorem meant2 (b off cap len at':Nat) (x y:Int) (w:World) (hx:0≤x∧x≤255) (hy:0≤y∧y≤255) (hbl:b < w.heap.size) (h0:w.cell? ⟨b,off + at',none⟩=some (.int .u8 x)) (h1:w.cell? ⟨b,off + (at' + 1),none⟩=some (.int .u8 y)) (hl:at' + 2≤len) (hm:len≤4611686018427387904) :
  Calls Tryz.prog 90 #[.slice (some ⟨b,off,none⟩) len cap,.int .i64 at',.int .i64 2] w fun e w'=>e=.returned (.int .i64 (Cx.mean [x,y]))∧Below w.heap.size w w':=by
 have h0':∀ o:Obj,(w.alloc o).cell? ⟨b,off + at',none⟩=some (.int .u8 x):=fun o=>((Below.refl w.heap.size w).alloc (Nat.le_refl _) o |>.cell (p:=⟨b,off + at',none⟩) hbl).trans h0
 have h1':∀ o:Obj,(w.alloc o).cell? ⟨b,off + (at' + 1),none⟩=some (.int .u8 y):=fun o=>((Below.refl w.heap.size w).alloc (Nat.le_refl _) o |>.cell (p:=⟨b,off + (at' + 1),none⟩) hbl).trans h1
 have hi:(at':Int) < (len:Int):=by omega
 have hi1:(at':Int) + 1 < (len:Int):=by omega
 clear h0 h1
 go_enter Tryz.func90,Tryz.ntmps90
 go_wp2
 go_quiet (fail)
 go_wp2
 refine wp_loop_rounds 2 ?_
 rw [rounds_succ]
 go_wp2
 rw [rounds_succ]
 go_wp2
 go_ret
 exact ⟨ret_int' (by simp only [Cx.mean]),below_drewN ((Below.refl _ _).alloc (Nat.le_refl _) _) _⟩
theorem meant3 (b off cap len at':Nat) (x y z:Int) (w:World) (hx:0≤x∧x≤255) (hy:0≤y∧y≤255) (hz:0≤z∧z≤255) (hbl:b < w.heap.size) (h0:w.cell? ⟨b,off + at',none⟩=some (.int .u8 x)) (h1:w.cell? ⟨b,off + (at' + 1),none⟩=some (.int .u8 y)) (h2:w.cell? ⟨b,off + (at' + 2),none⟩=some (.int .u8 z)) (hl:at' + 3≤len) (hm:len≤4611686018427387904) :
  Calls Tryz.prog 90 #[.slice (some ⟨b,off,none⟩) len cap,.int .i64 at',.int .i64 3] w fun e w'=>e=.returned (.int .i64 (Cx.mean [x,y,z]))∧Below w.heap.size w w':=by
 have h0':∀ o:Obj,(w.alloc o).cell? ⟨b,off + at',none⟩=some (.int .u8 x):=fun o=>((Below.refl w.heap.size w).alloc (Nat.le_refl _) o |>.cell (p:=⟨b,off + at',none⟩) hbl).trans h0
 have h1':∀ o:Obj,(w.alloc o).cell? ⟨b,off + (at' + 1),none⟩=some (.int .u8 y):=fun o=>((Below.refl w.heap.size w).alloc (Nat.le_refl _) o |>.cell (p:=⟨b,off + (at' + 1),none⟩) hbl).trans h1
 have h2':∀ o:Obj,(w.alloc o).cell? ⟨b,off + (at' + 2),none⟩=some (.int .u8 z):=fun o=>((Below.refl w.heap.size w).alloc (Nat.le_refl _) o |>.cell (p:=⟨b,off + (at' + 2),none⟩) hbl).trans h2
 have hi:(at':Int) < (len:Int):=by omega
 have hi1:(at':Int) + 1 < (len:Int):=by omega
 have hi2:(at':Int) + 2 < (len:Int):=by omega
 clear h0 h1 h2
 go_enter Tryz.func90,Tryz.ntmps90
 go_wp2
 go_quiet (fail)
 go_wp2
 refine wp_loop_rounds 3 ?_
 rw [rounds_succ]
 go_wp2
 rw [rounds_succ]
 go_wp2
 rw [rounds_succ]
 go_wp2
 go_ret
 exact ⟨ret_int' (by simp only [Cx.mean]),below_drewN ((Below.refl _ _).alloc (Nat.le_refl _) _) _⟩
theorem meant4 (b off cap len at':Nat) (x y z u:Int) (w:World) (hx:0≤x∧x≤255) (hy:0≤y∧y≤255) (hz:0≤z∧z≤255) (hu:0≤u∧u≤255) (hbl:b < w.heap.size) (h0:w.cell? ⟨b,off + at',none⟩=some (.int .u8 x)) (h1:w.cell? ⟨b,off + (at' + 1),none⟩=some (.int .u8 y)) (h2:w.cell? ⟨b,off + (at' + 2),none⟩=some (.int .u8 z)) (h3:w.cell? ⟨b,off + (at' + 3),none⟩=some (.int .u8 u)) (hl:at' + 4≤len) (hm:len≤4611686018427387904) :
  Calls Tryz.prog 90 #[.slice (some ⟨b,off,none⟩) len cap,.int .i64 at',.int .i64 4] w fun e w'=>e=.returned (.int .i64 (Cx.mean [x,y,z,u]))∧Below w.heap.size w w':=by
 have h0':∀ o:Obj,(w.alloc o).cell? ⟨b,off + at',none⟩=some (.int .u8 x):=fun o=>((Below.refl w.heap.size w).alloc (Nat.le_refl _) o |>.cell (p:=⟨b,off + at',none⟩) hbl).trans h0
 have h1':∀ o:Obj,(w.alloc o).cell? ⟨b,off + (at' + 1),none⟩=some (.int .u8 y):=fun o=>((Below.refl w.heap.size w).alloc (Nat.le_refl _) o |>.cell (p:=⟨b,off + (at' + 1),none⟩) hbl).trans h1
 have h2':∀ o:Obj,(w.alloc o).cell? ⟨b,off + (at' + 2),none⟩=some (.int .u8 z):=fun o=>((Below.refl w.heap.size w).alloc (Nat.le_refl _) o |>.cell (p:=⟨b,off + (at' + 2),none⟩) hbl).trans h2
 have h3':∀ o:Obj,(w.alloc o).cell? ⟨b,off + (at' + 3),none⟩=some (.int .u8 u):=fun o=>((Below.refl w.heap.size w).alloc (Nat.le_refl _) o |>.cell (p:=⟨b,off + (at' + 3),none⟩) hbl).trans h3
 have hi:(at':Int) < (len:Int):=by omega
 have hi1:(at':Int) + 1 < (len:Int):=by omega
 have hi2:(at':Int) + 2 < (len:Int):=by omega
 have hi3:(at':Int) + 3 < (len:Int):=by omega
 clear h0 h1 h2 h3
 go_enter Tryz.func90,Tryz.ntmps90
 go_wp2
 go_quiet (fail)
 go_wp2
 refine wp_loop_rounds 4 ?_
 rw [rounds_succ]
 go_wp2
 rw [rounds_succ]
 go_wp2
 rw [rounds_succ]
 go_wp2
 rw [rounds_succ]
 go_wp2
 go_ret
 exact ⟨ret_int' (by simp only [Cx.mean]),below_drewN ((Below.refl _ _).alloc (Nat.le_refl _) _) _⟩
theorem drop_take (zs:List Int) (n at':Nat):∀ i,i < n→((zs.drop at').take n)[i]?.getD 0=zs[at' + i]?.getD 0:=by
 intro i hi
 rw [List.getElem?_take,if_pos hi,List.getElem?_drop]
theorem meant_any (v:Value) (zs:List Int) (at' n:Nat) (w:World) (h:Rd .u8 w v zs) (hb:Byt zs) (h1:1≤n) (h4:n≤4) (hl:at' + n≤zs.length) (hm:zs.length≤4611686018427387904) :
  Calls Tryz.prog 90 #[v,.int .i64 at',.int .i64 n] w fun e w'=>e=.returned (.int .i64 (Cx.mean ((zs.drop at').take n)))∧Below w.heap.size w w':=by
 obtain ⟨ao,cap,rfl,hlc,hcm,hc⟩:=h
 obtain ⟨b,off,rfl,hbl,hc⟩:=hc (List.length_pos_iff.1 (by omega))
 have e:n=1∨n=2∨n=3∨n=4:=by omega
 have g:∀ j,j < n→w.cell? ⟨b,off + (at' + j),none⟩=some (.int .u8 (zs[at' + j]?.getD 0)):=fun j hj=>hc _ (by omega)
 have len:((zs.drop at').take n).length=n:=by rw [List.length_take,List.length_drop];omega
 have dt:=drop_take zs n at'
 rcases e with rfl | rfl | rfl | rfl
 ·have e:(zs.drop at').take 1=[zs[at']?.getD 0]:=by
   apply List.ext_getElem (by simpa using len)
   intro i h1 h2
   have:=dt i (by omega)
   rw [List.getElem?_eq_getElem h1] at this
   simp at h2;subst h2
   simpa using this
  rw [e]
  exact meant1 b off cap zs.length at' _ w (hb.at _) hbl (g 0 (by omega)) hl
 ·have e:(zs.drop at').take 2=[zs[at']?.getD 0,zs[at' + 1]?.getD 0]:=by
   apply List.ext_getElem (by simpa using len)
   intro i h1 h2
   have:=dt i (by omega)
   rw [List.getElem?_eq_getElem h1] at this
   have hi:i=0∨i=1:=by simp at h2;omega
   rcases hi with rfl | rfl <;> simpa using this
  rw [e]
  exact meant2 b off cap zs.length at' _ _ w (hb.at _) (hb.at _) hbl (g 0 (by omega)) (g 1 (by omega)) hl hm
 ·have e:(zs.drop at').take 3=[zs[at']?.getD 0,zs[at' + 1]?.getD 0,zs[at' + 2]?.getD 0]:=by
   apply List.ext_getElem (by simpa using len)
   intro i h1 h2
   have:=dt i (by omega)
   rw [List.getElem?_eq_getElem h1] at this
   have hi:i=0∨i=1∨i=2:=by simp at h2;omega
   rcases hi with rfl | rfl | rfl <;> simpa using this
  rw [e]
  exact meant3 b off cap zs.length at' _ _ _ w (hb.at _) (hb.at _) (hb.at _) hbl (g 0 (by omega)) (g 1 (by omega)) (g 2 (by omega)) hl hm
 ·have e:(zs.drop at').take 4=[zs[at']?.getD 0,zs[at' + 1]?.getD 0,zs[at' + 2]?.getD 0,zs[at' + 3]?.getD 0]:=by
   apply List.ext_getElem (by simpa using len)
   intro i h1 h2
   have:=dt i (by omega)
   rw [List.getElem?_eq_getElem h1] at this
   have hi:i=0∨i=1∨i=2∨i=3:=by simp at h2;omega
   rcases hi with rfl | rfl | rfl | rfl <;> simpa using this
  rw [e]
  exact meant4 b off cap zs.length at' _ _ _ _ w (hb.at _) (hb.at _) (hb.at _) (hb.at _) hbl (g 0 (by omega)) (g 1 (by omega)) (g 2 (by omega)) (g 3 (by omega)) hl hm
theorem Cx.hit_no_sc (b:List Int) (k:Nat) (h:Cx.isSc (Cx.mean (b.take k))=false):Cx.hitB b k=false:=by unfold Cx.hitB;rw [h];simp
theorem Cx.hit_eq (b:List Int) (k:Nat) (h:k≤b.length) (hs:Cx.isSc (Cx.mean (b.take k))=true):Cx.hitB b k=(decide ((Cx.put8 (Cx.mean (b.take k))).length=k) && (Cx.put8 (Cx.mean (b.take k))).isPrefixOf b):=by
 unfold Cx.hitB;rw [hs,decide_eq_true h];simp
theorem Cx.put8_ne (a:Int):Cx.put8 a≠[]:=by
 unfold Cx.put8
 repeat' split
 all_goals simp
theorem Cx.put8_len (a:Int):(Cx.put8 a).length≤4:=by
 unfold Cx.put8
 repeat' split
 all_goals simp
theorem Rd.of_lit {w w':World} {v:Value} {bs:List Int} (h:Cx.Lit w w' v bs) (hl:bs.length≤maxLen):Rd .u8 w' v bs:=by
 obtain ⟨g,rfl,hg,hc,hb⟩:=h.head
 refine ⟨_,_,rfl,Nat.le_refl _,hl,fun hn=>⟨g,0,rfl,?_,fun i hi=>?_⟩⟩
 ·have:=hc 0 (List.length_pos_iff.2 hn)
  exact World.block_lt_of_cell? w' _ this
 ·rw [Nat.zero_add,hc i hi];simp [List.getD]
set_option maxHeartbeats 1000000 in
theorem eightAt_any (v:Value) (zs:List Int) (at':Nat) (w:World) (h:Rd .u8 w v zs) (hb:Byt zs) (hl:at' < zs.length) (hm:zs.length≤4611686018427387000) :
  Calls Tryz.prog 71 #[v,.int .i64 at'] w fun e w'=>e=.returned (.tuple #[.int .i64 (Cx.first8 (zs.drop at')).1,.int .i64 (Cx.first8 (zs.drop at')).2])∧Below w.heap.size w w':=by
 have HR:Hid (Rd .u8 w v zs):=h
 have HB:Hid (Byt zs):=hb
 have hx:=hb.at at'
 obtain ⟨ao,cap,rfl,hlc,hcm,hc⟩:=h
 obtain ⟨b,off,rfl,hbl,hc⟩:=hc (List.length_pos_iff.1 (by omega))
 have h0:=hc at' hl
 have HX:Hid (zs[at']?.getD 0=Cx.c0 (zs.drop at')):=by unfold Hid Cx.c0;rw [List.getElem?_drop,Nat.add_zero]
 have HY:Hid (∀ k:Nat,1≤k→k≤4→Cx.hitB (zs.drop at') k=true→Cx.first8 (zs.drop at')=(Cx.mean ((zs.drop at').take k),(k:Int))):=Cx.first8_hit _ (hb.drop at')
 have HN:Hid ((∀ k:Nat,1≤k→k≤4→k≤(zs.drop at').length→Cx.hitB (zs.drop at') k=false)→Cx.first8 (zs.drop at')=(-1 - Cx.c0 (zs.drop at'),1)):=Cx.first8_none _ (hb.drop at')
 have hlen:(zs.drop at').length=zs.length - at':=List.length_drop
 generalize zs[at']?.getD 0=x at *
 clear hc hb hcm
 go_enter Tryz.func71,Tryz.ntmps71
 go_wp2_with fail
 go_loopw [6] (fun i wr=>∃ k:Nat,1≤k∧k≤5∧i=.int .i64 k∧Hid (∀ j:Nat,1≤j→j < k→Cx.hitB (zs.drop at') j=false)∧Below w.heap.size w wr) (fun i _=>5 - (intOf i).toNat)
 case atStart=>exact ⟨1,Nat.le_refl _,by omega,rfl,fun j h1 h2=>by omega,Below.refl _ _⟩
 case round =>
  obtain ⟨k,hk1,hk2,rfl,HJ,hbw⟩:=hrel
  have HBW:Hid (Below w.heap.size w wr):=hbw
  by_cases hin:k≤4∧at' + k≤zs.length
  ·obtain ⟨hin1,hin2⟩:=hin
   have HK:Hid (Cx.hitB (zs.drop at') k=false→∀ j:Nat,1≤j→j < k + 1→Cx.hitB (zs.drop at') j=false):=fun hh j h1 h2=>by
    by_cases hj:j=k
    ·rw [hj];exact hh
    ·exact HJ.out j h1 (by omega)
   have HF:=HY.out k hk1 hin1
   have HQ:=Cx.hit_eq (zs.drop at') k (by omega)
   have HS:=Cx.hit_no_sc (zs.drop at') k
   have HSC:=Cx.sc_iff (Cx.mean ((zs.drop at').take k))
   clear HJ HN HY hbw h0
   go_wp2_with fail
   refine (meant_any _ zs at' k _ (HR.out.ext HBW.out) HB.out hk1 hin1 hin2 (by omega)).mono ?_
   rintro e w1 ⟨rfl,hb1⟩
   have HW1:Hid (Below w.heap.size w w1):=zxt HBW.out hb1
   clear hb1 HBW
   generalize Cx.mean ((zs.drop at').take k)=m at *
   have HF':Hid (Cx.hitB (zs.drop at') k=true→Cx.first8 (zs.drop at')=(m,(k:Int))):=HF
   have HQ':Hid (Cx.isSc m=true→Cx.hitB (zs.drop at') k=(decide ((Cx.put8 m).length=k) && (Cx.put8 m).isPrefixOf (zs.drop at'))):=HQ
   have HS':Hid (Cx.isSc m=false→Cx.hitB (zs.drop at') k=false):=HS
   have HSC':Hid (Cx.isSc m=true ↔ (0≤m∧m < 55296)∨(57343 < m∧m≤1114111)):=HSC
   clear HF HQ HS HSC
   go_wp2_with fail
   refine (Scalar_any m _).mono ?_
   rintro e w' ⟨rfl,rfl⟩
   cases hsc:Cx.isSc m
   ·have HT:Hid (∀ j:Nat,1≤j→j < k + 1→Cx.hitB (zs.drop at') j=false):=HK.out (HS'.out hsc)
    clear HK HF' HQ' HS' HSC' hsc
    go_wp2_with fail
    go_roundw
    case rel=>exact ⟨k + 1,by omega,by omega,by go_num,HT.out,HW1.out⟩
    case measure=>simp [intOf];omega
   ·have hmr:=HSC'.out.1 hsc
    have hm0:0≤m:=by omega
    have hm1:m≤1114111:=by omega
    have HE:Hid (Cx.hitB (zs.drop at') k=(decide ((Cx.put8 m).length=k) && (Cx.put8 m).isPrefixOf (zs.drop at'))):=HQ'.out hsc
    clear HQ' HS' HSC' hsc hmr
    go_wp2_with fail
    refine (eight_any m _ hm0 hm1).mono ?_
    rintro e w2 ⟨pv,rfl,hlit⟩
    have hpl:=Cx.put8_len m
    have hpn:Hid (Cx.put8 m≠[]):=Cx.put8_ne m
    have hrd:=Rd.of_lit hlit (by simp only [maxLen];omega)
    have HW2:Hid (Below w.heap.size w w2):=by obtain ⟨_,_,_,_,hb2⟩:=hlit;exact zxt HW1.out hb2
    obtain ⟨pa,pc,rfl,_⟩:=id hrd
    have HP:Hid (Rd .u8 w2 (.slice pa (Cx.put8 m).length pc) (Cx.put8 m)):=hrd
    clear hrd hlit HW1
    generalize Cx.put8 m=ps at *
    go_wp2_with fail
    refine (begins_any _ _ zs ps at' _ (HR.out.ext HW2.out) HP.out (by omega) hpn.out (by omega)).mono ?_
    rintro e w3 ⟨rfl,hb3⟩
    have HW3:Hid (Below w.heap.size w w3):=zxt HW2.out hb3
    clear hb3 HW2 HP
    by_cases hpk:ps.length=k
    ·have hq:((ps.length:Int) == (k:Int))=true:=by rw [hpk];simp
     cases hpf:ps.isPrefixOf (zs.drop at')
     ·have HT:Hid (∀ j:Nat,1≤j→j < k + 1→Cx.hitB (zs.drop at') j=false):=HK.out (by rw [HE.out,hpf];simp)
      clear HK HF' HE hpf hpk
      go_wp2_with fail
      go_roundw
      case rel=>exact ⟨k + 1,by omega,by omega,by go_num,HT.out,HW3.out⟩
      case measure=>simp [intOf];omega
     ·have HT:Hid (Cx.first8 (zs.drop at')=(m,(k:Int))):=HF'.out (by rw [HE.out,hpf,decide_eq_true hpk];rfl)
      clear HK HF' HE hpf hpk
      go_wp2_with fail
      go_ret2
      exact ⟨by rw [HT.out];rfl,HW3.out⟩
    ·have hq:((ps.length:Int) == (k:Int))=false:=by simp;omega
     have HT:Hid (∀ j:Nat,1≤j→j < k + 1→Cx.hitB (zs.drop at') j=false):=HK.out (by rw [HE.out,decide_eq_false hpk];rfl)
     generalize ps.isPrefixOf (zs.drop at')=pf at *
     clear HK HF' HE hpk
     go_wp2_with fail
     go_roundw
     case rel=>exact ⟨k + 1,by omega,by omega,by go_num,HT.out,HW3.out⟩
     case measure=>simp [intOf];omega
  ·have HT:Hid (Cx.first8 (zs.drop at')=(-1 - x,1)):=by
    rw [HX.out]
    exact HN.out fun j h1 h4 hj=>HJ.out j h1 (by omega)
   have hcx:wr.cell? ⟨b,off + at',none⟩=some (.int .u8 x):=(hbw.cell (p:=⟨b,off + at',none⟩) hbl).trans h0
   clear HJ HN HY HX h0 hbw
   by_cases hin1:k≤4
   ·have hin2:zs.length < at' + k:=by omega
    clear hin
    go_wp2_with fail
    go_ret2
    exact ⟨by rw [HT.out];rfl,HBW.out⟩
   ·clear hin
    go_wp2_with fail
    go_ret2
    exact ⟨by rw [HT.out];rfl,HBW.out⟩
open Go.RowKit
def Cx.pairV (k:Int) (zs:List Int):Int:=65536 + (Cx.wv k zs - 55296) * 1024 + (Cx.wv k (zs.drop 2) - 56320)
set_option maxHeartbeats 1000000 in
theorem pair_any (k:Int) (v:Value) (zs:List Int) (w:World) (h:Rd .u8 w v zs) (hb:Byt zs) (hk:k=0∨k=1) (h4:4≤zs.length) :
  Calls Tryz.prog 153 #[.agg #[.int .i64 k],v] w fun e w'=>e=.returned (.int .i64 (Cx.pairV k zs))∧Below w.heap.size w w':=by
 have HR:Hid (Rd .u8 w v zs):=h
 have HB:Hid (Byt zs):=hb
 have HK:Hid (k=0∨k=1):=hk
 have hlen:=h.len
 obtain ⟨ao,cap,rfl,hl,hm,hc⟩:=h
 obtain ⟨b,off,rfl,hbl,_⟩:=hc (List.length_pos_iff.1 (by omega))
 clear hc hm hk
 have HD:Hid (Rd .u8 w (.slice (some ⟨b,off + 2,none⟩) (zs.length - 2) (cap - 2)) (zs.drop 2)):=HR.out.drop 2 (by omega)
 have hx:=Cx.wv_bd k zs hb
 have hy:=Cx.wv_bd k (zs.drop 2) (hb.drop 2)
 have HE:Hid (Cx.pairV k zs=65536 + (Cx.wv k zs - 55296) * 1024 + (Cx.wv k (zs.drop 2) - 56320)):=rfl
 have hi2:(2:Int)≤(zs.length:Int):=by omega
 have hc2:¬ cap=2:=by omega
 clear hb
 generalize Cx.pairV k zs=R at *
 go_enter Tryz.func153,Tryz.ntmps153
 go_wp2_with fail
 first | go_region_with (first | (go_at_call_of 154 (Value.slice (some { block:=b,off:=off }) zs.length cap);refine (unitW_any k _ zs _ ?_ HB.out HK.out ?_).mono ?_;exact HR.out.ext (by repeat (first | exact Below.refl _ _ | apply below_drewN | refine zxa ?_ _ | apply Below.drew));omega;rintro e w' ⟨rfl,n1,rfl⟩) | (go_at_call 154;refine (unitW_any k _ (zs.drop 2) _ ?_ (HB.out.drop 2) HK.out ?_).mono ?_;exact HD.out.ext (by repeat (first | exact Below.refl _ _ | apply below_drewN | refine zxa ?_ _ | apply Below.drew));(rw [List.length_drop];omega);rintro e w' ⟨rfl,n2,rfl⟩)) | fail
 all_goals
  go_wp2
  go_ret
  exact ⟨ret_int' (by rw [HE.out];simp only [IntKind.wrap_i64];omega),by repeat (first | exact Below.refl _ _ | apply below_drewN | refine zxa ?_ _ | apply Below.drew)⟩
def Cx.first16 (k:Int) (zs:List Int):Int × Int:=if zs.length=1 then (-1 - Cx.c0 zs,1) else if Cx.isP k zs=true then (Cx.pairV k zs,4) else (Cx.wv k zs,2)
theorem first16_any (k:Int) (v:Value) (zs:List Int) (w:World) (h:Rd .u8 w v zs) (hb:Byt zs) (hk:k=0∨k=1) (hn:zs≠[]) :
  Calls Tryz.prog 146 #[.agg #[.int .i64 k],v] w fun e w'=>e=.returned (.tuple #[.int .i64 (Cx.first16 k zs).1,.int .i64 (Cx.first16 k zs).2])∧Below w.heap.size w w':=by
 have HR:Hid (Rd .u8 w v zs):=h
 have HB:Hid (Byt zs):=hb
 have HK:Hid (k=0∨k=1):=hk
 have hlen:=h.len
 have hb0:=hb.at 0
 change 0≤Cx.c0 zs∧Cx.c0 zs≤255 at hb0
 obtain ⟨ao,cap,rfl,hl,hm,hc⟩:=h
 obtain ⟨b,off,rfl,hbl,hc⟩:=hc hn
 have hpos:0 < zs.length:=List.length_pos_iff.2 hn
 have h0:=hc 0 hpos
 rw [Nat.add_zero] at h0
 change w.cell? ⟨b,off,none⟩=some (.int .u8 (Cx.c0 zs)) at h0
 have h0':∀ o:Obj,(w.alloc o).cell? ⟨b,off,none⟩=some (.int .u8 (Cx.c0 zs)):=fun o=>((Below.refl w.heap.size w).alloc (Nat.le_refl _) o |>.cell (p:=⟨b,off,none⟩) hbl).trans h0
 clear hn hc hm hk hb h0
 by_cases h1:zs.length=1
 ·have HE:Hid (Cx.first16 k zs=(-1 - Cx.c0 zs,1)):=by unfold Hid Cx.first16;rw [if_pos h1]
  have hbq:((zs.length:Int) == 1)=true:=by rw [h1];rfl
  clear h1
  go_enter Tryz.func146,Tryz.ntmps146
  go_wp2_with fail
  refine (rawAtom_any _ _ hb0.1 hb0.2).mono ?_
  rintro e w1 ⟨rfl,rfl⟩
  go_wp2
  go_ret2
  exact ⟨by rw [HE.out];rfl,(Below.refl _ _).alloc (Nat.le_refl _) _⟩
 ·have hbq:((zs.length:Int) == 1)=false:=by simp;omega
  have h2:2≤zs.length:=by omega
  cases hp:Cx.isP k zs
  ·have HE:Hid (Cx.first16 k zs=(Cx.wv k zs,2)):=by unfold Hid Cx.first16;rw [if_neg h1,hp];rfl
   clear h1 h0'
   go_enter Tryz.func146,Tryz.ntmps146
   go_wp2_with fail
   refine (isPair_any k _ zs _ (HR.out.ext ((Below.refl _ _).alloc (Nat.le_refl _) _)) HB.out HK.out h2).mono ?_
   rintro e w1 ⟨rfl,hb1⟩
   have hcb:w1.cell? ⟨w.heap.size,0,none⟩=some (.int .i64 k):=(hb1.cell (p:=⟨w.heap.size,0,none⟩) (by simp)).trans (by simp)
   have HW1:Hid (Below w.heap.size w w1):=zxt ((Below.refl _ _).alloc (Nat.le_refl _) _) hb1
   clear hb1
   rw [hp]
   go_wp2_with fail
   refine (unitW_any k _ zs _ (HR.out.ext HW1.out) HB.out HK.out h2).mono ?_
   rintro e w2 ⟨rfl,n2,rfl⟩
   go_wp2
   go_ret2
   exact ⟨by rw [HE.out];rfl,zxt HW1.out (one_new rfl)⟩
  ·have h4:4≤zs.length:=by
    unfold Cx.isP at hp
    simp only [Bool.and_eq_true,decide_eq_true_eq] at hp
    exact hp.1.1
   have HE:Hid (Cx.first16 k zs=(Cx.pairV k zs,4)):=by unfold Hid Cx.first16;rw [if_neg h1,hp];rfl
   clear h1 h0'
   go_enter Tryz.func146,Tryz.ntmps146
   go_wp2_with fail
   refine (isPair_any k _ zs _ (HR.out.ext ((Below.refl _ _).alloc (Nat.le_refl _) _)) HB.out HK.out h2).mono ?_
   rintro e w1 ⟨rfl,hb1⟩
   have hcb:w1.cell? ⟨w.heap.size,0,none⟩=some (.int .i64 k):=(hb1.cell (p:=⟨w.heap.size,0,none⟩) (by simp)).trans (by simp)
   have HW1:Hid (Below w.heap.size w w1):=zxt ((Below.refl _ _).alloc (Nat.le_refl _) _) hb1
   clear hb1
   rw [hp]
   go_wp2_with fail
   refine (pair_any k _ zs _ (HR.out.ext HW1.out) HB.out HK.out h4).mono ?_
   rintro e w2 ⟨rfl,hb2⟩
   go_wp2
   go_ret2
   exact ⟨by rw [HE.out];rfl,zxt HW1.out hb2⟩
theorem first4_any (v:Value) (zs:List Int) (w:World) (h:Rd .u8 w v zs) (hb:Byt zs) (hn:zs≠[]) :
  Calls Tryz.prog 158 #[.agg #[],v] w fun e w'=>e=.returned (.tuple #[.int .i64 (Cx.c0 zs),.int .i64 1])∧Below w.heap.size w w':=by
 have hlen:=h.len
 have hb0:=hb.at 0
 change 0≤Cx.c0 zs∧Cx.c0 zs≤255 at hb0
 obtain ⟨ao,cap,rfl,hl,hm,hc⟩:=h
 obtain ⟨b,off,rfl,hbl,hc⟩:=hc hn
 have hpos:0 < zs.length:=List.length_pos_iff.2 hn
 have h0:=hc 0 hpos
 rw [Nat.add_zero] at h0
 change w.cell? ⟨b,off,none⟩=some (.int .u8 (Cx.c0 zs)) at h0
 have h0':∀ o:Obj,(w.alloc o).cell? ⟨b,off,none⟩=some (.int .u8 (Cx.c0 zs)):=fun o=>((Below.refl w.heap.size w).alloc (Nat.le_refl _) o |>.cell (p:=⟨b,off,none⟩) hbl).trans h0
 clear hn hc hm hb h0
 go_enter Tryz.func158,Tryz.ntmps158
 go_wp2
 go_ret2
 exact ⟨rfl,(Below.refl _ _).alloc (Nat.le_refl _) _⟩
def Cx.fst (enc:Int) (zs:List Int):Int × Int:=if enc=1 then Cx.first8 zs else if enc=2 then Cx.first16 0 zs else if enc=3 then Cx.first16 1 zs else (Cx.c0 zs,1)
open Go.RowKit
def Cx.lowOf (enc:Int):Int:=if enc=2 then 0 else 1
def Cx.unitV (enc:Int) (zs:List Int) (at':Nat):Int:=if at' + 2≤zs.length then Cx.wv (Cx.lowOf enc) (zs.drop at') else -1
theorem unitAt_any (enc:Int) (v:Value) (zs:List Int) (at':Nat) (w:World) (h:Rd .u8 w v zs) (hb:Byt zs) (hat:at'≤4611686018427387800) (hm:zs.length≤4611686018427387000) :
  Calls Tryz.prog 72 #[.int .i64 enc,v,.int .i64 at'] w fun e w'=>e=.returned (.int .i64 (Cx.unitV enc zs at'))∧Below w.heap.size w w':=by
 obtain ⟨ao,cap,rfl,hlc,hcm,hc⟩:=h
 by_cases hl:at' + 2≤zs.length
 ·obtain ⟨b,off,rfl,hbl,hc⟩:=hc (List.length_pos_iff.1 (by omega))
  have h0:=hc at' (by omega)
  have h1:=hc (at' + 1) (by omega)
  have hx:=hb.at at'
  have hy:=hb.at (at' + 1)
  have HE:Hid (Cx.unitV enc zs at'=if enc=2 then zs[at' + 1]?.getD 0 * 256 + zs[at']?.getD 0 else zs[at']?.getD 0 * 256 + zs[at' + 1]?.getD 0):=by
   unfold Hid Cx.unitV Cx.wv Cx.lowOf
   rw [if_pos hl]
   simp only [List.getElem?_drop,Nat.add_zero]
   by_cases he:enc=2 <;> simp [he]
  generalize Cx.unitV enc zs at'=R at *
  generalize zs[at']?.getD 0=x at *
  generalize zs[at' + 1]?.getD 0=y at *
  have hi:(at':Int) < (zs.length:Int):=by omega
  have hi1:(at':Int) + 1 < (zs.length:Int):=by omega
  clear hc hb hcm
  by_cases he:enc=2
  ·subst he
   rw [if_pos rfl] at HE
   go_enter Tryz.func72,Tryz.ntmps72
   go_wp2
   go_quiet (fail)
   go_wp2
   go_ret
   refine ⟨ret_int' ?_,below_drewN (Below.refl _ _) _⟩
   have:=HE.out;omega
  ·rw [if_neg he] at HE
   have hq:(enc == 2)=false:=by simp [he]
   clear he
   go_enter Tryz.func72,Tryz.ntmps72
   go_wp2
   go_quiet (fail)
   go_wp2
   go_ret
   refine ⟨ret_int' ?_,below_drewN (Below.refl _ _) _⟩
   have:=HE.out;omega
 ·have HE:Hid (Cx.unitV enc zs at'=-1):=by unfold Hid Cx.unitV;rw [if_neg hl]
  clear hc hb hcm
  go_enter Tryz.func72,Tryz.ntmps72
  go_wp2
  go_ret
  exact ⟨ret_int' HE.out.symm,Below.refl _ _⟩
theorem Cx.first16_at (enc:Int) (zs:List Int) (at':Nat) (hu:0≤Cx.unitV enc zs at') :
  Cx.first16 (Cx.lowOf enc) (zs.drop at')=if Cx.hiU (Cx.unitV enc zs at')=true∧Cx.loU (Cx.unitV enc zs (at' + 2))=true then (65536 + (Cx.unitV enc zs at' - 55296) * 1024 + Cx.unitV enc zs (at' + 2) - 56320,4) else (Cx.unitV enc zs at',2):=by
 have h2:at' + 2≤zs.length:=by unfold Cx.unitV at hu;split at hu <;> omega
 have hlen:(zs.drop at').length=zs.length - at':=List.length_drop
 have e1:Cx.unitV enc zs at'=Cx.wv (Cx.lowOf enc) (zs.drop at'):=by unfold Cx.unitV;rw [if_pos h2]
 unfold Cx.first16
 rw [if_neg (by omega)]
 by_cases h4:at' + 4≤zs.length
 ·have e2:Cx.unitV enc zs (at' + 2)=Cx.wv (Cx.lowOf enc) ((zs.drop at').drop 2):=by unfold Cx.unitV;rw [if_pos (by omega),List.drop_drop]
  have e3:Cx.isP (Cx.lowOf enc) (zs.drop at')=(Cx.hiU (Cx.unitV enc zs at') && Cx.loU (Cx.unitV enc zs (at' + 2))):=by
   unfold Cx.isP;rw [decide_eq_true (by omega),Bool.true_and,e1,e2]
  rw [e3]
  simp only [Bool.and_eq_true]
  by_cases hc:Cx.hiU (Cx.unitV enc zs at')=true∧Cx.loU (Cx.unitV enc zs (at' + 2))=true
  ·rw [if_pos hc,if_pos hc];unfold Cx.pairV;rw [← e1,← e2];congr 1;omega
  ·rw [if_neg hc,if_neg hc,e1]
 ·have e2:Cx.unitV enc zs (at' + 2)=-1:=by unfold Cx.unitV;rw [if_neg (by omega)]
  have e3:Cx.isP (Cx.lowOf enc) (zs.drop at')=false:=by unfold Cx.isP;rw [decide_eq_false (by omega)];rfl
  rw [e3,if_neg (by simp),e2,if_neg (by simp [Cx.loU]),e1]
theorem Cx.fst_low (enc:Int) (zs:List Int) (h:enc=2∨enc=3):Cx.fst enc zs=Cx.first16 (Cx.lowOf enc) zs:=by
 rcases h with rfl | rfl <;> rfl
theorem At_any (enc:Int) (v:Value) (zs:List Int) (at':Nat) (w:World) (h:Rd .u8 w v zs) (hb:Byt zs) (he:enc=1∨enc=2∨enc=3∨enc=4) (hl:at' < zs.length) (hm:zs.length≤4611686018427387000) :
  Calls Tryz.prog 49 #[.int .i64 enc,v,.int .i64 at'] w fun e w'=>e=.returned (.tuple #[.int .i64 (Cx.fst enc (zs.drop at')).1,.int .i64 (Cx.fst enc (zs.drop at')).2])∧Below w.heap.size w w':=by
 have HR:Hid (Rd .u8 w v zs):=h
 have HB:Hid (Byt zs):=hb
 by_cases h1:enc=1
 ·subst h1
  have HE:Hid (Cx.fst 1 (zs.drop at')=Cx.first8 (zs.drop at')):=rfl
  clear h hb
  generalize Cx.fst 1 (zs.drop at')=R at *
  go_enter Tryz.func49,Tryz.ntmps49
  go_wp2_with fail
  refine (eightAt_any _ zs at' _ HR.out HB.out hl hm).mono ?_
  rintro e w1 ⟨rfl,hb1⟩
  go_wp2
  go_ret2
  exact ⟨by rw [HE.out];rfl,hb1⟩
 have q1:(enc == 1)=false:=by simp [h1]
 have hx:=hb.at at'
 obtain ⟨ao,cap,rfl,hlc,hcm,hc⟩:=h
 obtain ⟨b,off,rfl,hbl,hc⟩:=hc (List.length_pos_iff.1 (by omega))
 have h0:=hc at' hl
 have HX:Hid (zs[at']?.getD 0=Cx.c0 (zs.drop at')):=by unfold Hid Cx.c0;rw [List.getElem?_drop,Nat.add_zero]
 have hi:(at':Int) < (zs.length:Int):=by omega
 by_cases h4:enc=4
 ·subst h4
  have HE:Hid (Cx.fst 4 (zs.drop at')=(zs[at']?.getD 0,1)):=by unfold Hid;rw [HX.out];rfl
  generalize Cx.fst 4 (zs.drop at')=R at *
  generalize zs[at']?.getD 0=x at *
  clear hc hb hcm h1
  go_enter Tryz.func49,Tryz.ntmps49
  go_wp2
  go_ret2
  exact ⟨by rw [HE.out];rfl,Below.refl _ _⟩
 have q4:(enc == 4)=false:=by simp [h4]
 have he':enc=2∨enc=3:=by omega
 have HE:Hid (Cx.fst enc (zs.drop at')=Cx.first16 (Cx.lowOf enc) (zs.drop at')):=Cx.fst_low enc _ he'
 have HF:=Cx.first16_at enc zs at'
 have hub:Cx.unitV enc zs at'≤65535∧-1≤Cx.unitV enc zs at':=by
  have:=Cx.wv_bd (Cx.lowOf enc) (zs.drop at') (hb.drop at')
  unfold Cx.unitV;split <;> omega
 have hub2:Cx.unitV enc zs (at' + 2)≤65535∧-1≤Cx.unitV enc zs (at' + 2):=by
  have:=Cx.wv_bd (Cx.lowOf enc) (zs.drop (at' + 2)) (hb.drop (at' + 2))
  unfold Cx.unitV;split <;> omega
 have HO:Hid (Cx.unitV enc zs at'=-1→Cx.first16 (Cx.lowOf enc) (zs.drop at')=(-1 - Cx.c0 (zs.drop at'),1)):=by
  intro hu
  have hh:¬ at' + 2≤zs.length:=by
   intro hh
   have:=Cx.wv_bd (Cx.lowOf enc) (zs.drop at') (hb.drop at')
   unfold Cx.unitV at hu;rw [if_pos hh] at hu;omega
  unfold Cx.first16;rw [if_pos (by rw [List.length_drop];omega)]
 have HF':Hid (0≤Cx.unitV enc zs at'→Cx.first16 (Cx.lowOf enc) (zs.drop at')=if Cx.hiU (Cx.unitV enc zs at')=true∧Cx.loU (Cx.unitV enc zs (at' + 2))=true then (65536 + (Cx.unitV enc zs at' - 55296) * 1024 + Cx.unitV enc zs (at' + 2) - 56320,4) else (Cx.unitV enc zs at',2)):=HF
 rw [HE.out]
 clear hc hb hcm h1 h4 he he' HF
 generalize zs[at']?.getD 0=x at *
 go_enter Tryz.func49,Tryz.ntmps49
 go_wp2_with fail
 refine (unitAt_any enc _ zs at' _ HR.out HB.out (by omega) hm).mono ?_
 rintro e w1 ⟨rfl,hb1⟩
 have HW1:Hid (Below w.heap.size w w1):=hb1
 have h0':w1.cell? ⟨b,off + at',none⟩=some (.int .u8 x):=(hb1.cell (p:=⟨b,off + at',none⟩) hbl).trans h0
 clear hb1 h0
 by_cases hu:Cx.unitV enc zs at' < 0
 ·have hu':Cx.unitV enc zs at'=-1:=by omega
  have HT:Hid (Cx.first16 (Cx.lowOf enc) (zs.drop at')=(-1 - x,1)):=by rw [HX.out];exact HO.out hu'
  generalize Cx.unitV enc zs at'=u at *
  generalize Cx.unitV enc zs (at' + 2)=u2 at *
  clear HF' HO hu'
  go_wp2_with fail
  go_ret2
  exact ⟨by rw [HT.out];rfl,HW1.out⟩
 ·have HT:=HF'.out (by omega)
  have HT':Hid (Cx.first16 (Cx.lowOf enc) (zs.drop at')=if Cx.hiU (Cx.unitV enc zs at')=true∧Cx.loU (Cx.unitV enc zs (at' + 2))=true then (65536 + (Cx.unitV enc zs at' - 55296) * 1024 + Cx.unitV enc zs (at' + 2) - 56320,4) else (Cx.unitV enc zs at',2)):=HT
  clear HF' HO HT
  go_wp2_with fail
  refine (unitAt_any enc _ zs (at' + 2) _ (HR.out.ext HW1.out) HB.out (by omega) hm).mono ?_
  rintro e w2 ⟨rfl,hb2⟩
  have HW2:Hid (Below w.heap.size w w2):=zxt HW1.out hb2
  clear hb2 HW1 h0'
  generalize Cx.unitV enc zs at'=u at *
  generalize Cx.unitV enc zs (at' + 2)=u2 at *
  by_cases c1:55296≤u
  ·by_cases c2:u < 56320
   ·by_cases c3:56320≤u2
    ·by_cases c4:u2 < 57344
     ·have HU:Hid (Cx.first16 (Cx.lowOf enc) (zs.drop at')=(65536 + (u - 55296) * 1024 + u2 - 56320,4)):=by
       unfold Hid;rw [HT'.out,if_pos];unfold Cx.hiU Cx.loU;simp;omega
      clear HT'
      go_wp2_with fail
      go_ret2
      exact ⟨by rw [HU.out];rfl,HW2.out⟩
     ·have HU:Hid (Cx.first16 (Cx.lowOf enc) (zs.drop at')=(u,2)):=by
       unfold Hid;rw [HT'.out,if_neg];unfold Cx.hiU Cx.loU;simp;omega
      clear HT'
      go_wp2_with fail
      go_ret2
      exact ⟨by rw [HU.out];rfl,HW2.out⟩
    ·have HU:Hid (Cx.first16 (Cx.lowOf enc) (zs.drop at')=(u,2)):=by
      unfold Hid;rw [HT'.out,if_neg];unfold Cx.hiU Cx.loU;simp;omega
     clear HT'
     go_wp2_with fail
     go_ret2
     exact ⟨by rw [HU.out];rfl,HW2.out⟩
   ·have HU:Hid (Cx.first16 (Cx.lowOf enc) (zs.drop at')=(u,2)):=by
     unfold Hid;rw [HT'.out,if_neg];unfold Cx.hiU Cx.loU;simp;omega
    clear HT'
    go_wp2_with fail
    go_ret2
    exact ⟨by rw [HU.out];rfl,HW2.out⟩
  ·have HU:Hid (Cx.first16 (Cx.lowOf enc) (zs.drop at')=(u,2)):=by
    unfold Hid;rw [HT'.out,if_neg];unfold Cx.hiU Cx.loU;simp;omega
   clear HT'
   go_wp2_with fail
   go_ret2
   exact ⟨by rw [HU.out];rfl,HW2.out⟩
end Go.Proofs.YtgfdfajblidleaaGreat
