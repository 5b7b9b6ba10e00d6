import Derived.Test.YtjjfakokakamaaaGreatJ00
namespace Go.Proofs.YtjjfakokakamaaaGreat
open Go.RowKit
set_option maxRecDepth 100000 in
theorem meant1 (b off cap len at':Nat) (x:Int) (w:World) (hx:0≤x∧x≤255) (hbl:b < w.heap.size) (h0:w.cell? ⟨b,off + at',none⟩=some (.int .u8 x)) (hl:at' + 1≤len) :
  Calls Tryz.prog 148 #[.slice (some ⟨b,off,none⟩) len cap,.int .i64 at',.int .i64 1] w fun e w'=>e=.returned (.int .i64 (Cx.mean [x]))∧Below w.heap.size w w':=by
 have h0':∀ o:Obj,(w.alloc o).cell? ⟨b,off + at',none⟩=some (.int .u8 x):=fun o=>((Below.refl w.heap.size w).alloc (Nat.le_refl _) o |>.cell (p:=⟨b,off + at',none⟩) hbl).trans h0
 have hi:(at':Int) < (len:Int):=by omega
 clear h0
 go_enter Tryz.func148,Tryz.ntmps148
 go_wp2
 go_quiet (fail)
 go_wp2
 refine wp_loop_rounds 1 ?_
 rw [rounds_succ]
 go_wp2
 go_ret
 exact ⟨ret_int' (by simp only [Cx.mean]),below_drewN ((Below.refl _ _).alloc (Nat.le_refl _) _) _⟩
set_option maxRecDepth 100000 in
theorem meant2 (b off cap len at':Nat) (x y:Int) (w:World) (hx:0≤x∧x≤255) (hy:0≤y∧y≤255) (hbl:b < w.heap.size) (h0:w.cell? ⟨b,off + at',none⟩=some (.int .u8 x)) (h1:w.cell? ⟨b,off + (at' + 1),none⟩=some (.int .u8 y)) (hl:at' + 2≤len) (hm:len≤4611686018427387904) :
  Calls Tryz.prog 148 #[.slice (some ⟨b,off,none⟩) len cap,.int .i64 at',.int .i64 2] w fun e w'=>e=.returned (.int .i64 (Cx.mean [x,y]))∧Below w.heap.size w w':=by
 have h0':∀ o:Obj,(w.alloc o).cell? ⟨b,off + at',none⟩=some (.int .u8 x):=fun o=>((Below.refl w.heap.size w).alloc (Nat.le_refl _) o |>.cell (p:=⟨b,off + at',none⟩) hbl).trans h0
 have h1':∀ o:Obj,(w.alloc o).cell? ⟨b,off + (at' + 1),none⟩=some (.int .u8 y):=fun o=>((Below.refl w.heap.size w).alloc (Nat.le_refl _) o |>.cell (p:=⟨b,off + (at' + 1),none⟩) hbl).trans h1
 have hi:(at':Int) < (len:Int):=by omega
 have hi1:(at':Int) + 1 < (len:Int):=by omega
 clear h0 h1
 go_enter Tryz.func148,Tryz.ntmps148
 go_wp2
 go_quiet (fail)
 go_wp2
 refine wp_loop_rounds 2 ?_
 rw [rounds_succ]
 go_wp2
 rw [rounds_succ]
 go_wp2
 go_ret
 exact ⟨ret_int' (by simp only [Cx.mean]),below_drewN ((Below.refl _ _).alloc (Nat.le_refl _) _) _⟩
set_option maxRecDepth 100000 in
theorem meant3 (b off cap len at':Nat) (x y z:Int) (w:World) (hx:0≤x∧x≤255) (hy:0≤y∧y≤255) (hz:0≤z∧z≤255) (hbl:b < w.heap.size) (h0:w.cell? ⟨b,off + at',none⟩=some (.int .u8 x)) (h1:w.cell? ⟨b,off + (at' + 1),none⟩=some (.int .u8 y)) (h2:w.cell? ⟨b,off + (at' + 2),none⟩=some (.int .u8 z)) (hl:at' + 3≤len) (hm:len≤4611686018427387904) :
  Calls Tryz.prog 148 #[.slice (some ⟨b,off,none⟩) len cap,.int .i64 at',.int .i64 3] w fun e w'=>e=.returned (.int .i64 (Cx.mean [x,y,z]))∧Below w.heap.size w w':=by
 have h0':∀ o:Obj,(w.alloc o).cell? ⟨b,off + at',none⟩=some (.int .u8 x):=fun o=>((Below.refl w.heap.size w).alloc (Nat.le_refl _) o |>.cell (p:=⟨b,off + at',none⟩) hbl).trans h0
 have h1':∀ o:Obj,(w.alloc o).cell? ⟨b,off + (at' + 1),none⟩=some (.int .u8 y):=fun o=>((Below.refl w.heap.size w).alloc (Nat.le_refl _) o |>.cell (p:=⟨b,off + (at' + 1),none⟩) hbl).trans h1
 have h2':∀ o:Obj,(w.alloc o).cell? ⟨b,off + (at' + 2),none⟩=some (.int .u8 z):=fun o=>((Below.refl w.heap.size w).alloc (Nat.le_refl _) o |>.cell (p:=⟨b,off + (at' + 2),none⟩) hbl).trans h2
 have hi:(at':Int) < (len:Int):=by omega
 have hi1:(at':Int) + 1 < (len:Int):=by omega
 have hi2:(at':Int) + 2 < (len:Int):=by omega
 clear h0 h1 h2
 go_enter Tryz.func148,Tryz.ntmps148
 go_wp2
 go_quiet (fail)
 go_wp2
 refine wp_loop_rounds 3 ?_
 rw [rounds_succ]
 go_wp2
 rw [rounds_succ]
 go_wp2
 rw [rounds_succ]
 go_wp2
 go_ret
 exact ⟨ret_int' (by simp only [Cx.mean]),below_drewN ((Below.refl _ _).alloc (Nat.le_refl _) _) _⟩
set_option maxRecDepth 100000 in
theorem meant4 (b off cap len at':Nat) (x y z u:Int) (w:World) (hx:0≤x∧x≤255) (hy:0≤y∧y≤255) (hz:0≤z∧z≤255) (hu:0≤u∧u≤255) (hbl:b < w.heap.size) (h0:w.cell? ⟨b,off + at',none⟩=some (.int .u8 x)) (h1:w.cell? ⟨b,off + (at' + 1),none⟩=some (.int .u8 y)) (h2:w.cell? ⟨b,off + (at' + 2),none⟩=some (.int .u8 z)) (h3:w.cell? ⟨b,off + (at' + 3),none⟩=some (.int .u8 u)) (hl:at' + 4≤len) (hm:len≤4611686018427387904) :
  Calls Tryz.prog 148 #[.slice (some ⟨b,off,none⟩) len cap,.int .i64 at',.int .i64 4] w fun e w'=>e=.returned (.int .i64 (Cx.mean [x,y,z,u]))∧Below w.heap.size w w':=by
 have h0':∀ o:Obj,(w.alloc o).cell? ⟨b,off + at',none⟩=some (.int .u8 x):=fun o=>((Below.refl w.heap.size w).alloc (Nat.le_refl _) o |>.cell (p:=⟨b,off + at',none⟩) hbl).trans h0
 have h1':∀ o:Obj,(w.alloc o).cell? ⟨b,off + (at' + 1),none⟩=some (.int .u8 y):=fun o=>((Below.refl w.heap.size w).alloc (Nat.le_refl _) o |>.cell (p:=⟨b,off + (at' + 1),none⟩) hbl).trans h1
 have h2':∀ o:Obj,(w.alloc o).cell? ⟨b,off + (at' + 2),none⟩=some (.int .u8 z):=fun o=>((Below.refl w.heap.size w).alloc (Nat.le_refl _) o |>.cell (p:=⟨b,off + (at' + 2),none⟩) hbl).trans h2
 have h3':∀ o:Obj,(w.alloc o).cell? ⟨b,off + (at' + 3),none⟩=some (.int .u8 u):=fun o=>((Below.refl w.heap.size w).alloc (Nat.le_refl _) o |>.cell (p:=⟨b,off + (at' + 3),none⟩) hbl).trans h3
 have hi:(at':Int) < (len:Int):=by omega
 have hi1:(at':Int) + 1 < (len:Int):=by omega
 have hi2:(at':Int) + 2 < (len:Int):=by omega
 have hi3:(at':Int) + 3 < (len:Int):=by omega
 clear h0 h1 h2 h3
 go_enter Tryz.func148,Tryz.ntmps148
 go_wp2
 go_quiet (fail)
 go_wp2
 refine wp_loop_rounds 4 ?_
 rw [rounds_succ]
 go_wp2
 rw [rounds_succ]
 go_wp2
 rw [rounds_succ]
 go_wp2
 rw [rounds_succ]
 go_wp2
 go_ret
 exact ⟨ret_int' (by simp only [Cx.mean]),below_drewN ((Below.refl _ _).alloc (Nat.le_refl _) _) _⟩
theorem drop_take (zs:List Int) (n at':Nat):∀ i,i < n→((zs.drop at').take n)[i]?.getD 0=zs[at' + i]?.getD 0:=by
 intro i hi
 rw [List.getElem?_take,if_pos hi,List.getElem?_drop]
theorem meant_any (v:Value) (zs:List Int) (at' n:Nat) (w:World) (h:Rd .u8 w v zs) (hb:Byt zs) (h1:1≤n) (h4:n≤4) (hl:at' + n≤zs.length) (hm:zs.length≤4611686018427387904) :
  Calls Tryz.prog 148 #[v,.int .i64 at',.int .i64 n] w fun e w'=>e=.returned (.int .i64 (Cx.mean ((zs.drop at').take n)))∧Below w.heap.size w w':=by
 obtain ⟨ao,cap,rfl,hlc,hcm,hc⟩:=h
 obtain ⟨b,off,rfl,hbl,hc⟩:=hc (List.length_pos_iff.1 (by omega))
 have e:n=1∨n=2∨n=3∨n=4:=by omega
 have g:∀ j,j < n→w.cell? ⟨b,off + (at' + j),none⟩=some (.int .u8 (zs[at' + j]?.getD 0)):=fun j hj=>hc _ (by omega)
 have len:((zs.drop at').take n).length=n:=by rw [List.length_take,List.length_drop];omega
 have dt:=drop_take zs n at'
 rcases e with rfl | rfl | rfl | rfl
 ·have e:(zs.drop at').take 1=[zs[at']?.getD 0]:=by
   apply List.ext_getElem (by simpa using len)
   intro i h1 h2
   have:=dt i (by omega)
   rw [List.getElem?_eq_getElem h1] at this
   simp at h2;subst h2
   simpa using this
  rw [e]
  exact meant1 b off cap zs.length at' _ w (hb.at _) hbl (g 0 (by omega)) hl
 ·have e:(zs.drop at').take 2=[zs[at']?.getD 0,zs[at' + 1]?.getD 0]:=by
   apply List.ext_getElem (by simpa using len)
   intro i h1 h2
   have:=dt i (by omega)
   rw [List.getElem?_eq_getElem h1] at this
   have hi:i=0∨i=1:=by simp at h2;omega
   rcases hi with rfl | rfl <;> simpa using this
  rw [e]
  exact meant2 b off cap zs.length at' _ _ w (hb.at _) (hb.at _) hbl (g 0 (by omega)) (g 1 (by omega)) hl hm
 ·have e:(zs.drop at').take 3=[zs[at']?.getD 0,zs[at' + 1]?.getD 0,zs[at' + 2]?.getD 0]:=by
   apply List.ext_getElem (by simpa using len)
   intro i h1 h2
   have:=dt i (by omega)
   rw [List.getElem?_eq_getElem h1] at this
   have hi:i=0∨i=1∨i=2:=by simp at h2;omega
   rcases hi with rfl | rfl | rfl <;> simpa using this
  rw [e]
  exact meant3 b off cap zs.length at' _ _ _ w (hb.at _) (hb.at _) (hb.at _) hbl (g 0 (by omega)) (g 1 (by omega)) (g 2 (by omega)) hl hm
 ·have e:(zs.drop at').take 4=[zs[at']?.getD 0,zs[at' + 1]?.getD 0,zs[at' + 2]?.getD 0,zs[at' + 3]?.getD 0]:=by
   apply List.ext_getElem (by simpa using len)
   intro i h1 h2
   have:=dt i (by omega)
   rw [List.getElem?_eq_getElem h1] at this
   have hi:i=0∨i=1∨i=2∨i=3:=by simp at h2;omega
   rcases hi with rfl | rfl | rfl | rfl <;> simpa using this
  rw [e]
  exact meant4 b off cap zs.length at' _ _ _ _ w (hb.at _) (hb.at _) (hb.at _) (hb.at _) hbl (g 0 (by omega)) (g 1 (by omega)) (g 2 (by omega)) (g 3 (by omega)) hl hm
theorem Cx.hit_no_sc (b:List Int) (k:Nat) (h:Cx.isSc (Cx.mean (b.take k))=false):Cx.hitB b k=false:=by unfold Cx.hitB;rw [h];simp
theorem Cx.hit_eq (b:List Int) (k:Nat) (h:k≤b.length) (hs:Cx.isSc (Cx.mean (b.take k))=true):Cx.hitB b k=(decide ((Cx.put8 (Cx.mean (b.take k))).length=k) && (Cx.put8 (Cx.mean (b.take k))).isPrefixOf b):=by
 unfold Cx.hitB;rw [hs,decide_eq_true h];simp
theorem Cx.put8_ne (a:Int):Cx.put8 a≠[]:=by
 unfold Cx.put8
 repeat' split
 all_goals simp
theorem Cx.put8_len (a:Int):(Cx.put8 a).length≤4:=by
 unfold Cx.put8
 repeat' split
 all_goals simp
theorem Rd.of_lit {w w':World} {v:Value} {bs:List Int} (h:Cx.Lit w w' v bs) (hl:bs.length≤maxLen):Rd .u8 w' v bs:=by
 obtain ⟨g,rfl,hg,hc,hb⟩:=h.head
 refine ⟨_,_,rfl,Nat.le_refl _,hl,fun hn=>⟨g,0,rfl,?_,fun i hi=>?_⟩⟩
 ·have:=hc 0 (List.length_pos_iff.2 hn)
  exact World.block_lt_of_cell? w' _ this
 ·rw [Nat.zero_add,hc i hi];simp [List.getD]
set_option maxRecDepth 100000 in
set_option maxHeartbeats 1000000 in
theorem eightAt_any (v:Value) (zs:List Int) (at':Nat) (w:World) (h:Rd .u8 w v zs) (hb:Byt zs) (hl:at' < zs.length) (hm:zs.length≤4611686018427387000) :
  Calls Tryz.prog 143 #[v,.int .i64 at'] w fun e w'=>e=.returned (.tuple #[.int .i64 (Cx.first8 (zs.drop at')).1,.int .i64 (Cx.first8 (zs.drop at')).2])∧Below w.heap.size w w':=by
 have HR:Hid (Rd .u8 w v zs):=h
 have HB:Hid (Byt zs):=hb
 have hx:=hb.at at'
 obtain ⟨ao,cap,rfl,hlc,hcm,hc⟩:=h
 obtain ⟨b,off,rfl,hbl,hc⟩:=hc (List.length_pos_iff.1 (by omega))
 have h0:=hc at' hl
 have HX:Hid (zs[at']?.getD 0=Cx.c0 (zs.drop at')):=by unfold Hid Cx.c0;rw [List.getElem?_drop,Nat.add_zero]
 have HY:Hid (∀ k:Nat,1≤k→k≤4→Cx.hitB (zs.drop at') k=true→Cx.first8 (zs.drop at')=(Cx.mean ((zs.drop at').take k),(k:Int))):=Cx.first8_hit _ (hb.drop at')
 have HN:Hid ((∀ k:Nat,1≤k→k≤4→k≤(zs.drop at').length→Cx.hitB (zs.drop at') k=false)→Cx.first8 (zs.drop at')=(-1 - Cx.c0 (zs.drop at'),1)):=Cx.first8_none _ (hb.drop at')
 have hlen:(zs.drop at').length=zs.length - at':=List.length_drop
 generalize zs[at']?.getD 0=x at *
 clear hc hb hcm
 go_enter Tryz.func143,Tryz.ntmps143
 go_wp2_with fail
 go_loopw [6] (fun i wr=>∃ k:Nat,1≤k∧k≤5∧i=.int .i64 k∧Hid (∀ j:Nat,1≤j→j < k→Cx.hitB (zs.drop at') j=false)∧Below w.heap.size w wr) (fun i _=>5 - (intOf i).toNat)
 case atStart=>exact ⟨1,Nat.le_refl _,by omega,rfl,fun j h1 h2=>by omega,Below.refl _ _⟩
 case round =>
  obtain ⟨k,hk1,hk2,rfl,HJ,hbw⟩:=hrel
  have HBW:Hid (Below w.heap.size w wr):=hbw
  by_cases hin:k≤4∧at' + k≤zs.length
  ·obtain ⟨hin1,hin2⟩:=hin
   have HK:Hid (Cx.hitB (zs.drop at') k=false→∀ j:Nat,1≤j→j < k + 1→Cx.hitB (zs.drop at') j=false):=fun hh j h1 h2=>by
    by_cases hj:j=k
    ·rw [hj];exact hh
    ·exact HJ.out j h1 (by omega)
   have HF:=HY.out k hk1 hin1
   have HQ:=Cx.hit_eq (zs.drop at') k (by omega)
   have HS:=Cx.hit_no_sc (zs.drop at') k
   have HSC:=Cx.sc_iff (Cx.mean ((zs.drop at').take k))
   clear HJ HN HY hbw h0
   go_wp2_with fail
   refine (meant_any _ zs at' k _ (HR.out.ext HBW.out) HB.out hk1 hin1 hin2 (by omega)).mono ?_
   rintro e w1 ⟨rfl,hb1⟩
   have HW1:Hid (Below w.heap.size w w1):=ext_trans HBW.out hb1
   clear hb1 HBW
   generalize Cx.mean ((zs.drop at').take k)=m at *
   have HF':Hid (Cx.hitB (zs.drop at') k=true→Cx.first8 (zs.drop at')=(m,(k:Int))):=HF
   have HQ':Hid (Cx.isSc m=true→Cx.hitB (zs.drop at') k=(decide ((Cx.put8 m).length=k) && (Cx.put8 m).isPrefixOf (zs.drop at'))):=HQ
   have HS':Hid (Cx.isSc m=false→Cx.hitB (zs.drop at') k=false):=HS
   have HSC':Hid (Cx.isSc m=true ↔ (0≤m∧m < 55296)∨(57343 < m∧m≤1114111)):=HSC
   clear HF HQ HS HSC
   go_wp2_with fail
   refine (Scalar_any m _).mono ?_
   rintro e w' ⟨rfl,rfl⟩
   cases hsc:Cx.isSc m
   ·have HT:Hid (∀ j:Nat,1≤j→j < k + 1→Cx.hitB (zs.drop at') j=false):=HK.out (HS'.out hsc)
    clear HK HF' HQ' HS' HSC' hsc
    go_wp2_with fail
    go_roundw
    case rel=>exact ⟨k + 1,by omega,by omega,by go_num,HT.out,HW1.out⟩
    case measure=>simp [intOf];omega
   ·have hmr:=HSC'.out.1 hsc
    have hm0:0≤m:=by omega
    have hm1:m≤1114111:=by omega
    have HE:Hid (Cx.hitB (zs.drop at') k=(decide ((Cx.put8 m).length=k) && (Cx.put8 m).isPrefixOf (zs.drop at'))):=HQ'.out hsc
    clear HQ' HS' HSC' hsc hmr
    go_wp2_with fail
    refine (eight_any m _ hm0 hm1).mono ?_
    rintro e w2 ⟨pv,rfl,hlit⟩
    have hpl:=Cx.put8_len m
    have hpn:Hid (Cx.put8 m≠[]):=Cx.put8_ne m
    have hrd:=Rd.of_lit hlit (by simp only [maxLen];omega)
    have HW2:Hid (Below w.heap.size w w2):=by obtain ⟨_,_,_,_,hb2⟩:=hlit;exact ext_trans HW1.out hb2
    obtain ⟨pa,pc,rfl,_⟩:=id hrd
    have HP:Hid (Rd .u8 w2 (.slice pa (Cx.put8 m).length pc) (Cx.put8 m)):=hrd
    clear hrd hlit HW1
    generalize Cx.put8 m=ps at *
    go_wp2_with fail
    refine (begins_any _ _ zs ps at' _ (HR.out.ext HW2.out) HP.out (by omega) hpn.out (by omega)).mono ?_
    rintro e w3 ⟨rfl,hb3⟩
    have HW3:Hid (Below w.heap.size w w3):=ext_trans HW2.out hb3
    clear hb3 HW2 HP
    by_cases hpk:ps.length=k
    ·have hq:((ps.length:Int) == (k:Int))=true:=by rw [hpk];simp
     cases hpf:ps.isPrefixOf (zs.drop at')
     ·have HT:Hid (∀ j:Nat,1≤j→j < k + 1→Cx.hitB (zs.drop at') j=false):=HK.out (by rw [HE.out,hpf];simp)
      clear HK HF' HE hpf hpk
      go_wp2_with fail
      go_roundw
      case rel=>exact ⟨k + 1,by omega,by omega,by go_num,HT.out,HW3.out⟩
      case measure=>simp [intOf];omega
     ·have HT:Hid (Cx.first8 (zs.drop at')=(m,(k:Int))):=HF'.out (by rw [HE.out,hpf,decide_eq_true hpk];rfl)
      clear HK HF' HE hpf hpk
      go_wp2_with fail
      go_ret2
      exact ⟨by rw [HT.out];rfl,HW3.out⟩
    ·have hq:((ps.length:Int) == (k:Int))=false:=by simp;omega
     have HT:Hid (∀ j:Nat,1≤j→j < k + 1→Cx.hitB (zs.drop at') j=false):=HK.out (by rw [HE.out,decide_eq_false hpk];rfl)
     generalize ps.isPrefixOf (zs.drop at')=pf at *
     clear HK HF' HE hpk
     go_wp2_with fail
     go_roundw
     case rel=>exact ⟨k + 1,by omega,by omega,by go_num,HT.out,HW3.out⟩
     case measure=>simp [intOf];omega
  ·have HT:Hid (Cx.first8 (zs.drop at')=(-1 - x,1)):=by
    rw [HX.out]
    exact HN.out fun j h1 h4 hj=>HJ.out j h1 (by omega)
   have hcx:wr.cell? ⟨b,off + at',none⟩=some (.int .u8 x):=(hbw.cell (p:=⟨b,off + at',none⟩) hbl).trans h0
   clear HJ HN HY HX h0 hbw
   by_cases hin1:k≤4
   ·have hin2:zs.length < at' + k:=by omega
    clear hin
    go_wp2_with fail
    go_ret2
    exact ⟨by rw [HT.out];rfl,HBW.out⟩
   ·clear hin
    go_wp2_with fail
    go_ret2
    exact ⟨by rw [HT.out];rfl,HBW.out⟩
end Go.Proofs.YtjjfakokakamaaaGreat

namespace Go.Proofs.YtjjfakokakamaaaGreat
open Go.RowKit
def Cx.pairV (k:Int) (zs:List Int):Int:=65536 + (Cx.wv k zs - 55296) * 1024 + (Cx.wv k (zs.drop 2) - 56320)
set_option maxRecDepth 100000 in
set_option maxHeartbeats 1000000 in
theorem pair_any (k:Int) (v:Value) (zs:List Int) (w:World) (h:Rd .u8 w v zs) (hb:Byt zs) (hk:k=0∨k=1) (h4:4≤zs.length) :
  Calls Tryz.prog 194 #[.agg #[.int .i64 k],v] w fun e w'=>e=.returned (.int .i64 (Cx.pairV k zs))∧Below w.heap.size w w':=by
 have HR:Hid (Rd .u8 w v zs):=h
 have HB:Hid (Byt zs):=hb
 have HK:Hid (k=0∨k=1):=hk
 have hlen:=h.len
 obtain ⟨ao,cap,rfl,hl,hm,hc⟩:=h
 obtain ⟨b,off,rfl,hbl,_⟩:=hc (List.length_pos_iff.1 (by omega))
 clear hc hm hk
 have HD:Hid (Rd .u8 w (.slice (some ⟨b,off + 2,none⟩) (zs.length - 2) (cap - 2)) (zs.drop 2)):=HR.out.drop 2 (by omega)
 have hx:=Cx.wv_bd k zs hb
 have hy:=Cx.wv_bd k (zs.drop 2) (hb.drop 2)
 have HE:Hid (Cx.pairV k zs=65536 + (Cx.wv k zs - 55296) * 1024 + (Cx.wv k (zs.drop 2) - 56320)):=rfl
 have hi2:(2:Int)≤(zs.length:Int):=by omega
 have hc2:¬ cap=2:=by omega
 clear hb
 generalize Cx.pairV k zs=R at *
 go_enter Tryz.func194,Tryz.ntmps194
 go_wp2_with fail
 first | go_region_with (first | (go_at_call_of 195 (Value.slice (some { block:=b,off:=off }) zs.length cap);refine (unitW_any k _ zs _ ?_ HB.out HK.out ?_).mono ?_;exact HR.out.ext (by repeat (first | exact Below.refl _ _ | apply below_drewN | refine ext_alloc ?_ _ | apply Below.drew));omega;rintro e w' ⟨rfl,n1,rfl⟩) | (go_at_call 195;refine (unitW_any k _ (zs.drop 2) _ ?_ (HB.out.drop 2) HK.out ?_).mono ?_;exact HD.out.ext (by repeat (first | exact Below.refl _ _ | apply below_drewN | refine ext_alloc ?_ _ | apply Below.drew));(rw [List.length_drop];omega);rintro e w' ⟨rfl,n2,rfl⟩)) | fail
 all_goals
  go_wp2
  go_ret
  exact ⟨ret_int' (by rw [HE.out];simp only [IntKind.wrap_i64];omega),by repeat (first | exact Below.refl _ _ | apply below_drewN | refine ext_alloc ?_ _ | apply Below.drew)⟩
def Cx.first16 (k:Int) (zs:List Int):Int × Int:=if zs.length=1 then (-1 - Cx.c0 zs,1) else if Cx.isP k zs=true then (Cx.pairV k zs,4) else (Cx.wv k zs,2)
set_option maxRecDepth 100000 in
theorem first16_any (k:Int) (v:Value) (zs:List Int) (w:World) (h:Rd .u8 w v zs) (hb:Byt zs) (hk:k=0∨k=1) (hn:zs≠[]) :
  Calls Tryz.prog 187 #[.agg #[.int .i64 k],v] w fun e w'=>e=.returned (.tuple #[.int .i64 (Cx.first16 k zs).1,.int .i64 (Cx.first16 k zs).2])∧Below w.heap.size w w':=by
 have HR:Hid (Rd .u8 w v zs):=h
 have HB:Hid (Byt zs):=hb
 have HK:Hid (k=0∨k=1):=hk
 have hlen:=h.len
 have hb0:=hb.at 0
 change 0≤Cx.c0 zs∧Cx.c0 zs≤255 at hb0
 obtain ⟨ao,cap,rfl,hl,hm,hc⟩:=h
 obtain ⟨b,off,rfl,hbl,hc⟩:=hc hn
 have hpos:0 < zs.length:=List.length_pos_iff.2 hn
 have h0:=hc 0 hpos
 rw [Nat.add_zero] at h0
 change w.cell? ⟨b,off,none⟩=some (.int .u8 (Cx.c0 zs)) at h0
 have h0':∀ o:Obj,(w.alloc o).cell? ⟨b,off,none⟩=some (.int .u8 (Cx.c0 zs)):=fun o=>((Below.refl w.heap.size w).alloc (Nat.le_refl _) o |>.cell (p:=⟨b,off,none⟩) hbl).trans h0
 clear hn hc hm hk hb h0
 by_cases h1:zs.length=1
 ·have HE:Hid (Cx.first16 k zs=(-1 - Cx.c0 zs,1)):=by unfold Hid Cx.first16;rw [if_pos h1]
  have hbq:((zs.length:Int) == 1)=true:=by rw [h1];rfl
  clear h1
  go_enter Tryz.func187,Tryz.ntmps187
  go_wp2_with fail
  refine (rawAtom_any _ _ hb0.1 hb0.2).mono ?_
  rintro e w1 ⟨rfl,rfl⟩
  go_wp2
  go_ret2
  exact ⟨by rw [HE.out];rfl,(Below.refl _ _).alloc (Nat.le_refl _) _⟩
 ·have hbq:((zs.length:Int) == 1)=false:=by simp;omega
  have h2:2≤zs.length:=by omega
  cases hp:Cx.isP k zs
  ·have HE:Hid (Cx.first16 k zs=(Cx.wv k zs,2)):=by unfold Hid Cx.first16;rw [if_neg h1,hp];rfl
   clear h1 h0'
   go_enter Tryz.func187,Tryz.ntmps187
   go_wp2_with fail
   refine (isPair_any k _ zs _ (HR.out.ext ((Below.refl _ _).alloc (Nat.le_refl _) _)) HB.out HK.out h2).mono ?_
   rintro e w1 ⟨rfl,hb1⟩
   have hcb:w1.cell? ⟨w.heap.size,0,none⟩=some (.int .i64 k):=(hb1.cell (p:=⟨w.heap.size,0,none⟩) (by simp)).trans (by simp)
   have HW1:Hid (Below w.heap.size w w1):=ext_trans ((Below.refl _ _).alloc (Nat.le_refl _) _) hb1
   clear hb1
   rw [hp]
   go_wp2_with fail
   refine (unitW_any k _ zs _ (HR.out.ext HW1.out) HB.out HK.out h2).mono ?_
   rintro e w2 ⟨rfl,n2,rfl⟩
   go_wp2
   go_ret2
   exact ⟨by rw [HE.out];rfl,ext_trans HW1.out (one_new rfl)⟩
  ·have h4:4≤zs.length:=by
    unfold Cx.isP at hp
    simp only [Bool.and_eq_true,decide_eq_true_eq] at hp
    exact hp.1.1
   have HE:Hid (Cx.first16 k zs=(Cx.pairV k zs,4)):=by unfold Hid Cx.first16;rw [if_neg h1,hp];rfl
   clear h1 h0'
   go_enter Tryz.func187,Tryz.ntmps187
   go_wp2_with fail
   refine (isPair_any k _ zs _ (HR.out.ext ((Below.refl _ _).alloc (Nat.le_refl _) _)) HB.out HK.out h2).mono ?_
   rintro e w1 ⟨rfl,hb1⟩
   have hcb:w1.cell? ⟨w.heap.size,0,none⟩=some (.int .i64 k):=(hb1.cell (p:=⟨w.heap.size,0,none⟩) (by simp)).trans (by simp)
   have HW1:Hid (Below w.heap.size w w1):=ext_trans ((Below.refl _ _).alloc (Nat.le_refl _) _) hb1
   clear hb1
   rw [hp]
   go_wp2_with fail
   refine (pair_any k _ zs _ (HR.out.ext HW1.out) HB.out HK.out h4).mono ?_
   rintro e w2 ⟨rfl,hb2⟩
   go_wp2
   go_ret2
   exact ⟨by rw [HE.out];rfl,ext_trans HW1.out hb2⟩
theorem first4_any (v:Value) (zs:List Int) (w:World) (h:Rd .u8 w v zs) (hb:Byt zs) (hn:zs≠[]) :
  Calls Tryz.prog 199 #[.agg #[],v] w fun e w'=>e=.returned (.tuple #[.int .i64 (Cx.c0 zs),.int .i64 1])∧Below w.heap.size w w':=by
 have hlen:=h.len
 have hb0:=hb.at 0
 change 0≤Cx.c0 zs∧Cx.c0 zs≤255 at hb0
 obtain ⟨ao,cap,rfl,hl,hm,hc⟩:=h
 obtain ⟨b,off,rfl,hbl,hc⟩:=hc hn
 have hpos:0 < zs.length:=List.length_pos_iff.2 hn
 have h0:=hc 0 hpos
 rw [Nat.add_zero] at h0
 change w.cell? ⟨b,off,none⟩=some (.int .u8 (Cx.c0 zs)) at h0
 have h0':∀ o:Obj,(w.alloc o).cell? ⟨b,off,none⟩=some (.int .u8 (Cx.c0 zs)):=fun o=>((Below.refl w.heap.size w).alloc (Nat.le_refl _) o |>.cell (p:=⟨b,off,none⟩) hbl).trans h0
 clear hn hc hm hb h0
 go_enter Tryz.func199,Tryz.ntmps199
 go_wp2
 go_ret2
 exact ⟨rfl,(Below.refl _ _).alloc (Nat.le_refl _) _⟩
def Cx.fst (enc:Int) (zs:List Int):Int × Int:=if enc=1 then Cx.first8 zs else if enc=2 then Cx.first16 0 zs else if enc=3 then Cx.first16 1 zs else (Cx.c0 zs,1)
end Go.Proofs.YtjjfakokakamaaaGreat

namespace Go.Proofs.YtjjfakokakamaaaGreat
open Go.RowKit
def Cx.lowOf (enc:Int):Int:=if enc=2 then 0 else 1
def Cx.unitV (enc:Int) (zs:List Int) (at':Nat):Int:=if at' + 2≤zs.length then Cx.wv (Cx.lowOf enc) (zs.drop at') else -1
set_option maxRecDepth 100000 in
theorem unitAt_any (enc:Int) (v:Value) (zs:List Int) (at':Nat) (w:World) (h:Rd .u8 w v zs) (hb:Byt zs) (hat:at'≤4611686018427387800) (hm:zs.length≤4611686018427387000) :
  Calls Tryz.prog 144 #[.int .i64 enc,v,.int .i64 at'] w fun e w'=>e=.returned (.int .i64 (Cx.unitV enc zs at'))∧Below w.heap.size w w':=by
 obtain ⟨ao,cap,rfl,hlc,hcm,hc⟩:=h
 by_cases hl:at' + 2≤zs.length
 ·obtain ⟨b,off,rfl,hbl,hc⟩:=hc (List.length_pos_iff.1 (by omega))
  have h0:=hc at' (by omega)
  have h1:=hc (at' + 1) (by omega)
  have hx:=hb.at at'
  have hy:=hb.at (at' + 1)
  have HE:Hid (Cx.unitV enc zs at'=if enc=2 then zs[at' + 1]?.getD 0 * 256 + zs[at']?.getD 0 else zs[at']?.getD 0 * 256 + zs[at' + 1]?.getD 0):=by
   unfold Hid Cx.unitV Cx.wv Cx.lowOf
   rw [if_pos hl]
   simp only [List.getElem?_drop,Nat.add_zero]
   by_cases he:enc=2 <;> simp [he]
  generalize Cx.unitV enc zs at'=R at *
  generalize zs[at']?.getD 0=x at *
  generalize zs[at' + 1]?.getD 0=y at *
  have hi:(at':Int) < (zs.length:Int):=by omega
  have hi1:(at':Int) + 1 < (zs.length:Int):=by omega
  clear hc hb hcm
  by_cases he:enc=2
  ·subst he
   rw [if_pos rfl] at HE
   go_enter Tryz.func144,Tryz.ntmps144
   go_wp2
   go_quiet (fail)
   go_wp2
   go_ret
   refine ⟨ret_int' ?_,below_drewN (Below.refl _ _) _⟩
   have:=HE.out;omega
  ·rw [if_neg he] at HE
   have hq:(enc == 2)=false:=by simp [he]
   clear he
   go_enter Tryz.func144,Tryz.ntmps144
   go_wp2
   go_quiet (fail)
   go_wp2
   go_ret
   refine ⟨ret_int' ?_,below_drewN (Below.refl _ _) _⟩
   have:=HE.out;omega
 ·have HE:Hid (Cx.unitV enc zs at'=-1):=by unfold Hid Cx.unitV;rw [if_neg hl]
  clear hc hb hcm
  go_enter Tryz.func144,Tryz.ntmps144
  go_wp2
  go_ret
  exact ⟨ret_int' HE.out.symm,Below.refl _ _⟩
theorem Cx.first16_at (enc:Int) (zs:List Int) (at':Nat) (hu:0≤Cx.unitV enc zs at') :
  Cx.first16 (Cx.lowOf enc) (zs.drop at')=if Cx.hiU (Cx.unitV enc zs at')=true∧Cx.loU (Cx.unitV enc zs (at' + 2))=true then (65536 + (Cx.unitV enc zs at' - 55296) * 1024 + Cx.unitV enc zs (at' + 2) - 56320,4) else (Cx.unitV enc zs at',2):=by
 have h2:at' + 2≤zs.length:=by unfold Cx.unitV at hu;split at hu <;> omega
 have hlen:(zs.drop at').length=zs.length - at':=List.length_drop
 have e1:Cx.unitV enc zs at'=Cx.wv (Cx.lowOf enc) (zs.drop at'):=by unfold Cx.unitV;rw [if_pos h2]
 unfold Cx.first16
 rw [if_neg (by omega)]
 by_cases h4:at' + 4≤zs.length
 ·have e2:Cx.unitV enc zs (at' + 2)=Cx.wv (Cx.lowOf enc) ((zs.drop at').drop 2):=by unfold Cx.unitV;rw [if_pos (by omega),List.drop_drop]
  have e3:Cx.isP (Cx.lowOf enc) (zs.drop at')=(Cx.hiU (Cx.unitV enc zs at') && Cx.loU (Cx.unitV enc zs (at' + 2))):=by
   unfold Cx.isP;rw [decide_eq_true (by omega),Bool.true_and,e1,e2]
  rw [e3]
  simp only [Bool.and_eq_true]
  by_cases hc:Cx.hiU (Cx.unitV enc zs at')=true∧Cx.loU (Cx.unitV enc zs (at' + 2))=true
  ·rw [if_pos hc,if_pos hc];unfold Cx.pairV;rw [← e1,← e2];congr 1;omega
  ·rw [if_neg hc,if_neg hc,e1]
 ·have e2:Cx.unitV enc zs (at' + 2)=-1:=by unfold Cx.unitV;rw [if_neg (by omega)]
  have e3:Cx.isP (Cx.lowOf enc) (zs.drop at')=false:=by unfold Cx.isP;rw [decide_eq_false (by omega)];rfl
  rw [e3,if_neg (by simp),e2,if_neg (by simp [Cx.loU]),e1]
theorem Cx.fst_low (enc:Int) (zs:List Int) (h:enc=2∨enc=3):Cx.fst enc zs=Cx.first16 (Cx.lowOf enc) zs:=by
 rcases h with rfl | rfl <;> rfl
set_option maxRecDepth 100000 in
theorem At_any (enc:Int) (v:Value) (zs:List Int) (at':Nat) (w:World) (h:Rd .u8 w v zs) (hb:Byt zs) (he:enc=1∨enc=2∨enc=3∨enc=4) (hl:at' < zs.length) (hm:zs.length≤4611686018427387000) :
  Calls Tryz.prog 129 #[.int .i64 enc,v,.int .i64 at'] w fun e w'=>e=.returned (.tuple #[.int .i64 (Cx.fst enc (zs.drop at')).1,.int .i64 (Cx.fst enc (zs.drop at')).2])∧Below w.heap.size w w':=by
 have HR:Hid (Rd .u8 w v zs):=h
 have HB:Hid (Byt zs):=hb
 by_cases h1:enc=1
 ·subst h1
  have HE:Hid (Cx.fst 1 (zs.drop at')=Cx.first8 (zs.drop at')):=rfl
  clear h hb
  generalize Cx.fst 1 (zs.drop at')=R at *
  go_enter Tryz.func129,Tryz.ntmps129
  go_wp2_with fail
  refine (eightAt_any _ zs at' _ HR.out HB.out hl hm).mono ?_
  rintro e w1 ⟨rfl,hb1⟩
  go_wp2
  go_ret2
  exact ⟨by rw [HE.out];rfl,hb1⟩
 have q1:(enc == 1)=false:=by simp [h1]
 have hx:=hb.at at'
 obtain ⟨ao,cap,rfl,hlc,hcm,hc⟩:=h
 obtain ⟨b,off,rfl,hbl,hc⟩:=hc (List.length_pos_iff.1 (by omega))
 have h0:=hc at' hl
 have HX:Hid (zs[at']?.getD 0=Cx.c0 (zs.drop at')):=by unfold Hid Cx.c0;rw [List.getElem?_drop,Nat.add_zero]
 have hi:(at':Int) < (zs.length:Int):=by omega
 by_cases h4:enc=4
 ·subst h4
  have HE:Hid (Cx.fst 4 (zs.drop at')=(zs[at']?.getD 0,1)):=by unfold Hid;rw [HX.out];rfl
  generalize Cx.fst 4 (zs.drop at')=R at *
  generalize zs[at']?.getD 0=x at *
  clear hc hb hcm h1
  go_enter Tryz.func129,Tryz.ntmps129
  go_wp2
  go_ret2
  exact ⟨by rw [HE.out];rfl,Below.refl _ _⟩
 have q4:(enc == 4)=false:=by simp [h4]
 have he':enc=2∨enc=3:=by omega
 have HE:Hid (Cx.fst enc (zs.drop at')=Cx.first16 (Cx.lowOf enc) (zs.drop at')):=Cx.fst_low enc _ he'
 have HF:=Cx.first16_at enc zs at'
 have hub:Cx.unitV enc zs at'≤65535∧-1≤Cx.unitV enc zs at':=by
  have:=Cx.wv_bd (Cx.lowOf enc) (zs.drop at') (hb.drop at')
  unfold Cx.unitV;split <;> omega
 have hub2:Cx.unitV enc zs (at' + 2)≤65535∧-1≤Cx.unitV enc zs (at' + 2):=by
  have:=Cx.wv_bd (Cx.lowOf enc) (zs.drop (at' + 2)) (hb.drop (at' + 2))
  unfold Cx.unitV;split <;> omega
 have HO:Hid (Cx.unitV enc zs at'=-1→Cx.first16 (Cx.lowOf enc) (zs.drop at')=(-1 - Cx.c0 (zs.drop at'),1)):=by
  intro hu
  have hh:¬ at' + 2≤zs.length:=by
   intro hh
   have:=Cx.wv_bd (Cx.lowOf enc) (zs.drop at') (hb.drop at')
   unfold Cx.unitV at hu;rw [if_pos hh] at hu;omega
  unfold Cx.first16;rw [if_pos (by rw [List.length_drop];omega)]
 have HF':Hid (0≤Cx.unitV enc zs at'→Cx.first16 (Cx.lowOf enc) (zs.drop at')=if Cx.hiU (Cx.unitV enc zs at')=true∧Cx.loU (Cx.unitV enc zs (at' + 2))=true then (65536 + (Cx.unitV enc zs at' - 55296) * 1024 + Cx.unitV enc zs (at' + 2) - 56320,4) else (Cx.unitV enc zs at',2)):=HF
 rw [HE.out]
 clear hc hb hcm h1 h4 he he' HF
 generalize zs[at']?.getD 0=x at *
 go_enter Tryz.func129,Tryz.ntmps129
 go_wp2_with fail
 refine (unitAt_any enc _ zs at' _ HR.out HB.out (by omega) hm).mono ?_
 rintro e w1 ⟨rfl,hb1⟩
 have HW1:Hid (Below w.heap.size w w1):=hb1
 have h0':w1.cell? ⟨b,off + at',none⟩=some (.int .u8 x):=(hb1.cell (p:=⟨b,off + at',none⟩) hbl).trans h0
 clear hb1 h0
 by_cases hu:Cx.unitV enc zs at' < 0
 ·have hu':Cx.unitV enc zs at'=-1:=by omega
  have HT:Hid (Cx.first16 (Cx.lowOf enc) (zs.drop at')=(-1 - x,1)):=by rw [HX.out];exact HO.out hu'
  generalize Cx.unitV enc zs at'=u at *
  generalize Cx.unitV enc zs (at' + 2)=u2 at *
  clear HF' HO hu'
  go_wp2_with fail
  go_ret2
  exact ⟨by rw [HT.out];rfl,HW1.out⟩
 ·have HT:=HF'.out (by omega)
  have HT':Hid (Cx.first16 (Cx.lowOf enc) (zs.drop at')=if Cx.hiU (Cx.unitV enc zs at')=true∧Cx.loU (Cx.unitV enc zs (at' + 2))=true then (65536 + (Cx.unitV enc zs at' - 55296) * 1024 + Cx.unitV enc zs (at' + 2) - 56320,4) else (Cx.unitV enc zs at',2)):=HT
  clear HF' HO HT
  go_wp2_with fail
  refine (unitAt_any enc _ zs (at' + 2) _ (HR.out.ext HW1.out) HB.out (by omega) hm).mono ?_
  rintro e w2 ⟨rfl,hb2⟩
  have HW2:Hid (Below w.heap.size w w2):=ext_trans HW1.out hb2
  clear hb2 HW1 h0'
  generalize Cx.unitV enc zs at'=u at *
  generalize Cx.unitV enc zs (at' + 2)=u2 at *
  by_cases c1:55296≤u
  ·by_cases c2:u < 56320
   ·by_cases c3:56320≤u2
    ·by_cases c4:u2 < 57344
     ·have HU:Hid (Cx.first16 (Cx.lowOf enc) (zs.drop at')=(65536 + (u - 55296) * 1024 + u2 - 56320,4)):=by
       unfold Hid;rw [HT'.out,if_pos];unfold Cx.hiU Cx.loU;simp;omega
      clear HT'
      go_wp2_with fail
      go_ret2
      exact ⟨by rw [HU.out];rfl,HW2.out⟩
     ·have HU:Hid (Cx.first16 (Cx.lowOf enc) (zs.drop at')=(u,2)):=by
       unfold Hid;rw [HT'.out,if_neg];unfold Cx.hiU Cx.loU;simp;omega
      clear HT'
      go_wp2_with fail
      go_ret2
      exact ⟨by rw [HU.out];rfl,HW2.out⟩
    ·have HU:Hid (Cx.first16 (Cx.lowOf enc) (zs.drop at')=(u,2)):=by
      unfold Hid;rw [HT'.out,if_neg];unfold Cx.hiU Cx.loU;simp;omega
     clear HT'
     go_wp2_with fail
     go_ret2
     exact ⟨by rw [HU.out];rfl,HW2.out⟩
   ·have HU:Hid (Cx.first16 (Cx.lowOf enc) (zs.drop at')=(u,2)):=by
     unfold Hid;rw [HT'.out,if_neg];unfold Cx.hiU Cx.loU;simp;omega
    clear HT'
    go_wp2_with fail
    go_ret2
    exact ⟨by rw [HU.out];rfl,HW2.out⟩
  ·have HU:Hid (Cx.first16 (Cx.lowOf enc) (zs.drop at')=(u,2)):=by
    unfold Hid;rw [HT'.out,if_neg];unfold Cx.hiU Cx.loU;simp;omega
   clear HT'
   go_wp2_with fail
   go_ret2
   exact ⟨by rw [HU.out];rfl,HW2.out⟩
end Go.Proofs.YtjjfakokakamaaaGreat

namespace Go.Proofs.YtjjfakokakamaaaGreat
open Go.RowKit
theorem Cx.fst_bd (enc:Int) (b:List Int) (hn:b≠[]):1≤(Cx.fst enc b).2∧(Cx.fst enc b).2≤4∧(Cx.fst enc b).2≤b.length:=by
 have hpos:0 < b.length:=List.length_pos_iff.2 hn
 have h16:∀ k,1≤(Cx.first16 k b).2∧(Cx.first16 k b).2≤4∧(Cx.first16 k b).2≤b.length:=by
  intro k
  unfold Cx.first16
  split
  ·simp;omega
  ·split
   ·rename_i hp
    unfold Cx.isP at hp
    simp only [Bool.and_eq_true,decide_eq_true_eq] at hp
    have:=hp.1.1
    simp only;omega
   ·simp only;omega
 unfold Cx.fst
 split
 ·have:=Cx.mtch_bd b
  unfold Cx.first8
  split
  ·simp only;omega
  ·simp only;omega
 ·split
  ·exact h16 0
  ·split
   ·exact h16 1
   ·simp only;omega
def Cx.decF (enc:Int):Nat→List Int→List Int
 | 0,_=>[]
 | f + 1,b=>if b=[] then [] else (Cx.fst enc b).1 :: Cx.decF enc f (b.drop (Cx.fst enc b).2.toNat)
def Cx.dec (enc:Int) (b:List Int):List Int:=Cx.decF enc b.length b
theorem Cx.decF_more (enc:Int):∀ (f g:Nat) (b:List Int),b.length≤f→b.length≤g→Cx.decF enc f b=Cx.decF enc g b:=by
 intro f
 induction f with
 | zero =>
   intro g b hf _
   have:b=[]:=List.length_eq_zero_iff.1 (by omega)
   subst this
   cases g with
   | zero=>rfl
   | succ g=>simp [Cx.decF]
 | succ f ih =>
   intro g b hf hg
   by_cases hn:b=[]
   ·subst hn
    cases g with
    | zero=>simp [Cx.decF]
    | succ g=>simp [Cx.decF]
   ·have hp:0 < b.length:=List.length_pos_iff.2 hn
    have hb:=Cx.fst_bd enc b hn
    cases g with
    | zero=>omega
    | succ g =>
      simp only [Cx.decF,if_neg hn]
      rw [ih g (b.drop (Cx.fst enc b).2.toNat) (by rw [List.length_drop];omega) (by rw [List.length_drop];omega)]
theorem Cx.dec_nil (enc:Int):Cx.dec enc []=[]:=rfl
theorem Cx.dec_cons (enc:Int) (b:List Int) (hn:b≠[]) (a:Int) (n:Nat) (hf:Cx.fst enc b=(a,(n:Int))):Cx.dec enc b=a :: Cx.dec enc (b.drop n):=by
 have hp:0 < b.length:=List.length_pos_iff.2 hn
 have hb:=Cx.fst_bd enc b hn
 rw [hf] at hb
 unfold Cx.dec
 obtain ⟨m,hm⟩:∃ m,b.length=m + 1:=⟨b.length - 1,by omega⟩
 rw [hm]
 simp only [Cx.decF,if_neg hn,hf]
 rw [Int.toNat_natCast,Cx.decF_more enc m (b.drop n).length (b.drop n) (by rw [List.length_drop];simp only at hb;omega) (Nat.le_refl _)]
theorem Cx.dec_len (enc:Int):∀ (f:Nat) (b:List Int),(Cx.decF enc f b).length≤b.length:=by
 intro f
 induction f with
 | zero=>intro b;simp [Cx.decF]
 | succ f ih =>
   intro b
   by_cases hn:b=[]
   ·simp [Cx.decF,hn]
   ·have hb:=Cx.fst_bd enc b hn
    have:=ih (b.drop (Cx.fst enc b).2.toNat)
    simp only [Cx.decF,if_neg hn,List.length_cons]
    rw [List.length_drop] at this
    omega
theorem m_first1 (w : World) : (method 336 175 (.agg #[]) "copyist/codec.first").run Tryz.prog w = .ok (172, .agg #[]) w := by kernel_rfl
theorem m_first2 (k : Int) (w : World) : (method 336 177 (.agg #[.int .i64 k]) "copyist/codec.first").run Tryz.prog w = .ok (187, .agg #[.int .i64 k]) w := by kernel_rfl
theorem m_first4 (w : World) : (method 336 178 (.agg #[]) "copyist/codec.first").run Tryz.prog w = .ok (199, .agg #[]) w := by kernel_rfl
theorem fst1_any (v:Value) (zs:List Int) (a:Int) (n:Nat) (w:World) (h:Rd .u8 w v zs) (hb:Byt zs) (hn:zs≠[]) (hf:Cx.fst 1 zs=(a,(n:Int))) :
  Calls Tryz.prog 172 #[.agg #[],v] w fun e w'=>e=.returned (.tuple #[.int .i64 a,.int .i64 n])∧Below w.heap.size w w':=by
 have:=first8_any v zs w h hb hn
 rwa [show Cx.first8 zs=(a,(n:Int)) from hf] at this
theorem fst2_any (v:Value) (zs:List Int) (a:Int) (n:Nat) (w:World) (h:Rd .u8 w v zs) (hb:Byt zs) (hn:zs≠[]) (hf:Cx.fst 2 zs=(a,(n:Int))) :
  Calls Tryz.prog 187 #[.agg #[.int .i64 0],v] w fun e w'=>e=.returned (.tuple #[.int .i64 a,.int .i64 n])∧Below w.heap.size w w':=by
 have:=first16_any 0 v zs w h hb (.inl rfl) hn
 rwa [show Cx.first16 0 zs=(a,(n:Int)) from hf] at this
theorem fst3_any (v:Value) (zs:List Int) (a:Int) (n:Nat) (w:World) (h:Rd .u8 w v zs) (hb:Byt zs) (hn:zs≠[]) (hf:Cx.fst 3 zs=(a,(n:Int))) :
  Calls Tryz.prog 187 #[.agg #[.int .i64 1],v] w fun e w'=>e=.returned (.tuple #[.int .i64 a,.int .i64 n])∧Below w.heap.size w w':=by
 have:=first16_any 1 v zs w h hb (.inr rfl) hn
 rwa [show Cx.first16 1 zs=(a,(n:Int)) from hf] at this
theorem fst4_any (v:Value) (zs:List Int) (a:Int) (n:Nat) (w:World) (h:Rd .u8 w v zs) (hb:Byt zs) (hn:zs≠[]) (hf:Cx.fst 4 zs=(a,(n:Int))) :
  Calls Tryz.prog 199 #[.agg #[],v] w fun e w'=>e=.returned (.tuple #[.int .i64 a,.int .i64 n])∧Below w.heap.size w w':=by
 have:=first4_any v zs w h hb hn
 have e:(Cx.c0 zs,(1:Int))=(a,(n:Int)):=hf
 rw [Prod.mk.injEq] at e
 rwa [e.1,e.2] at this
def lenOf:Value→Nat | .slice _ n _=>n | _=>0
theorem Rd.cut_same {k:IntKind} {w:World} {ao:Option Addr} {len cap n:Nat} {zs:List Int} (h:Rd k w (.slice ao len cap) zs) (hc:cap=n):Rd k w (.slice ao (len - n) (cap - n)) (zs.drop n):=by
 obtain ⟨ao',cap',hv,h1,h2,h3⟩:=h
 cases hv
 have hd:zs.drop n=[]:=List.drop_eq_nil_of_le (by omega)
 rw [hd]
 exact ⟨ao,cap - n,by simp;omega,by simp,by omega,fun h=>absurd rfl h⟩
theorem Rd.cut {k:IntKind} {w:World} {b off len cap n:Nat} {zs:List Int} (h:Rd k w (.slice (some ⟨b,off,none⟩) len cap) zs) (hn:n≤zs.length):Rd k w (.slice (some ⟨b,off + n,none⟩) (len - n) (cap - n)) (zs.drop n):=by
 obtain ⟨ao',cap',hv,h1,h2,h3⟩:=h
 cases hv
 refine ⟨_,cap - n,by rw [List.length_drop],by rw [List.length_drop];omega,by omega,fun hd=>?_⟩
 obtain ⟨b',off',ha,hb,hc⟩:=h3 (fun h=>hd (by rw [h];simp))
 cases ha
 refine ⟨b,off + n,rfl,hb,fun i hi=>?_⟩
 rw [List.length_drop] at hi
 rw [Nat.add_assoc,hc (n + i) (by omega),List.getElem?_drop]
theorem Rd.cut_if {k:IntKind} {w:World} {b off len cap n:Nat} {zs:List Int} (h:Rd k w (.slice (some ⟨b,off,none⟩) len cap) zs) (hn:n≤zs.length):Rd k w (.slice (if cap=n then some ⟨b,off,none⟩ else some ⟨b,off + n,none⟩) (len - n) (cap - n)) (zs.drop n):=by
 split
 ·exact h.cut_same (by assumption)
 ·exact h.cut hn
theorem snoc_map (l:List Int) (a:Int):l.map (Value.int .i64) ++ [Value.int .i64 a]=(l ++ [a]).map (Value.int .i64):=by simp
set_option maxRecDepth 100000 in
set_option maxHeartbeats 1000000 in
theorem decodeAll_1 (v:Value) (zs:List Int) (w:World) (h:Rd .u8 w v zs) (hb:Byt zs) (hz:zs.length * 8≤140737488355328) :
  Calls Tryz.prog 104 #[.iface 175 (.agg #[]),v] w fun e w'=>∃ v',e=.returned v'∧w'.ownsRow w.heap.size 3 1 v' (Cx.dec 1 zs).length ((Cx.dec 1 zs).map (Value.int .i64))∧Below w.heap.size w w':=by
 obtain ⟨i0,hi,hz0,hz1,hz2⟩:=info_parts Tryz.info_i64
 have HR:Hid (Rd .u8 w v zs):=h
 have HB:Hid (Byt zs):=hb
 clear h hb
 have hmt:=m_first1
 go_enter Tryz.func104,Tryz.ntmps104
 go_wp2_with fail
 go_loopw [1,5] (fun bv o wr=>∃ ys l:List Int,Hid (Cx.dec 1 zs=l ++ Cx.dec 1 ys)∧l.length + ys.length≤zs.length∧Hid (Rd .u8 w bv ys)∧Hid (Byt ys)∧wr.ownsRow w.heap.size 3 1 o l.length (l.map (Value.int .i64))∧Below w.heap.size w wr) (fun bv _ _=>lenOf bv)
 case atStart=>exact ⟨zs,[],rfl,by simp,HR.out,HB.out,World.ownsRow_nil _ _ _ _,Below.refl _ _⟩
 case round =>
  obtain ⟨ys,l,HD,hle,HY,HYB,hown,hbw⟩:=hrel
  have hw':w.heap.size≤wr.heap.size:=hbw.size
  have hylen:=HY.out.len
  by_cases hn:ys=[]
  ·have HE:Hid (Cx.dec 1 zs=l):=by unfold Hid;rw [HD.out,hn,Cx.dec_nil,List.append_nil]
   obtain ⟨ao,cap,hv,hlc,hcm,_⟩:=HY.out
   rw [hn] at hv
   subst hv
   clear HY HD HYB
   simp only [List.length_nil]
   go_wp2
   go_ret
   exact ⟨_,rfl,by rw [HE.out];exact hown,hbw⟩
  ·obtain ⟨a,n,hf,hn1,hn2⟩:∃ (a:Int) (n:Nat),Cx.fst 1 ys=(a,(n:Int))∧1≤n∧n≤ys.length:=by
    have:=Cx.fst_bd 1 ys hn
    exact ⟨_,(Cx.fst 1 ys).2.toNat,Prod.ext rfl (by simp only;omega),by omega,by omega⟩
   have HF:Hid (Cx.fst 1 ys=(a,(n:Int))):=hf
   have HD':Hid (Cx.dec 1 zs=(l ++ [a]) ++ Cx.dec 1 (ys.drop n)):=by unfold Hid;rw [HD.out,Cx.dec_cons 1 ys hn a n hf];simp
   have HNE:Hid (ys≠[]):=hn
   have hyp:0 < ys.length:=List.length_pos_iff.2 hn
   obtain ⟨ao,cap,hv,hlc,hcm,hrest⟩:=HY.out
   obtain ⟨b,off,hao,_⟩:=hrest hn
   subst hao
   subst hv
   have hcm':cap≤9223372036854775807:=hcm
   have HT:=snoc_map l a
   have HT':Hid (l.map (Value.int .i64) ++ [Value.int .i64 a]=(l ++ [a]).map (Value.int .i64)):=HT
   have hdl:(ys.drop n).length=ys.length - n:=List.length_drop
   clear hf hn hrest hcm HT HD
   generalize hml:l.map (Value.int .i64)=ml at *
   clear hml
   go_wp2_with fail
   refine (fst1_any _ ys a n _ (HY.out.ext hbw) HYB.out HNE.out HF.out).mono ?_
   rintro e w1 ⟨rfl,hb1⟩
   have hown1:=own_ext hown hb1
   have hbw1:Below w.heap.size w w1:=ext_trans hbw hb1
   have hw1:w.heap.size≤w1.heap.size:=hbw1.size
   clear hown hbw hb1
   go_wp2_with (at_builtin;refine wpList_append_own _ rfl _ _ 22 rfl w.heap.size 3 i0 (.int .i64 0) 1 8 Tryz.underlying22 hi hz0 hz1 hz2 rfl (by decide) _ _ _ rfl (hown1.alloc _) ⟨w1.heap.size,0,none⟩ 1 1 [.int .i64 a] rfl rfl (cell_one_new _ _ _) (one_i64 _) (by unfold maxLen;omega) (by omega) (by simp;omega) ?_;intro v' w' hown' hg' hx')
   all_goals refine ⟨⟨ys.drop n,l ++ [a],HD'.out,?_,?_,HYB.out.drop n,?_,below_push hbw1 hown1 hg'⟩,?_⟩
   all_goals first
    | exact HY.out.cut_if hn2
    | exact HY.out.cut hn2
    | exact HY.out.cut_same (by assumption)
    | (rw [hdl,List.length_append,List.length_singleton];omega)
    | (rw [List.length_append];rw [HT'.out] at hown';exact hown')
    | (simp only [lenOf];omega)
set_option maxRecDepth 100000 in
set_option maxHeartbeats 1000000 in
theorem decodeAll_2 (v:Value) (zs:List Int) (w:World) (h:Rd .u8 w v zs) (hb:Byt zs) (hz:zs.length * 8≤140737488355328) :
  Calls Tryz.prog 104 #[.iface 177 (.agg #[.int .i64 0]),v] w fun e w'=>∃ v',e=.returned v'∧w'.ownsRow w.heap.size 3 1 v' (Cx.dec 2 zs).length ((Cx.dec 2 zs).map (Value.int .i64))∧Below w.heap.size w w':=by
 obtain ⟨i0,hi,hz0,hz1,hz2⟩:=info_parts Tryz.info_i64
 have HR:Hid (Rd .u8 w v zs):=h
 have HB:Hid (Byt zs):=hb
 clear h hb
 have hmt:=m_first2
 go_enter Tryz.func104,Tryz.ntmps104
 go_wp2_with fail
 go_loopw [1,5] (fun bv o wr=>∃ ys l:List Int,Hid (Cx.dec 2 zs=l ++ Cx.dec 2 ys)∧l.length + ys.length≤zs.length∧Hid (Rd .u8 w bv ys)∧Hid (Byt ys)∧wr.ownsRow w.heap.size 3 1 o l.length (l.map (Value.int .i64))∧Below w.heap.size w wr) (fun bv _ _=>lenOf bv)
 case atStart=>exact ⟨zs,[],rfl,by simp,HR.out,HB.out,World.ownsRow_nil _ _ _ _,Below.refl _ _⟩
 case round =>
  obtain ⟨ys,l,HD,hle,HY,HYB,hown,hbw⟩:=hrel
  have hw':w.heap.size≤wr.heap.size:=hbw.size
  have hylen:=HY.out.len
  by_cases hn:ys=[]
  ·have HE:Hid (Cx.dec 2 zs=l):=by unfold Hid;rw [HD.out,hn,Cx.dec_nil,List.append_nil]
   obtain ⟨ao,cap,hv,hlc,hcm,_⟩:=HY.out
   rw [hn] at hv
   subst hv
   clear HY HD HYB
   simp only [List.length_nil]
   go_wp2
   go_ret
   exact ⟨_,rfl,by rw [HE.out];exact hown,hbw⟩
  ·obtain ⟨a,n,hf,hn1,hn2⟩:∃ (a:Int) (n:Nat),Cx.fst 2 ys=(a,(n:Int))∧1≤n∧n≤ys.length:=by
    have:=Cx.fst_bd 2 ys hn
    exact ⟨_,(Cx.fst 2 ys).2.toNat,Prod.ext rfl (by simp only;omega),by omega,by omega⟩
   have HF:Hid (Cx.fst 2 ys=(a,(n:Int))):=hf
   have HD':Hid (Cx.dec 2 zs=(l ++ [a]) ++ Cx.dec 2 (ys.drop n)):=by unfold Hid;rw [HD.out,Cx.dec_cons 2 ys hn a n hf];simp
   have HNE:Hid (ys≠[]):=hn
   have hyp:0 < ys.length:=List.length_pos_iff.2 hn
   obtain ⟨ao,cap,hv,hlc,hcm,hrest⟩:=HY.out
   obtain ⟨b,off,hao,_⟩:=hrest hn
   subst hao
   subst hv
   have hcm':cap≤9223372036854775807:=hcm
   have HT:=snoc_map l a
   have HT':Hid (l.map (Value.int .i64) ++ [Value.int .i64 a]=(l ++ [a]).map (Value.int .i64)):=HT
   have hdl:(ys.drop n).length=ys.length - n:=List.length_drop
   clear hf hn hrest hcm HT HD
   generalize hml:l.map (Value.int .i64)=ml at *
   clear hml
   go_wp2_with fail
   refine (fst2_any _ ys a n _ (HY.out.ext hbw) HYB.out HNE.out HF.out).mono ?_
   rintro e w1 ⟨rfl,hb1⟩
   have hown1:=own_ext hown hb1
   have hbw1:Below w.heap.size w w1:=ext_trans hbw hb1
   have hw1:w.heap.size≤w1.heap.size:=hbw1.size
   clear hown hbw hb1
   go_wp2_with (at_builtin;refine wpList_append_own _ rfl _ _ 22 rfl w.heap.size 3 i0 (.int .i64 0) 1 8 Tryz.underlying22 hi hz0 hz1 hz2 rfl (by decide) _ _ _ rfl (hown1.alloc _) ⟨w1.heap.size,0,none⟩ 1 1 [.int .i64 a] rfl rfl (cell_one_new _ _ _) (one_i64 _) (by unfold maxLen;omega) (by omega) (by simp;omega) ?_;intro v' w' hown' hg' hx')
   all_goals refine ⟨⟨ys.drop n,l ++ [a],HD'.out,?_,?_,HYB.out.drop n,?_,below_push hbw1 hown1 hg'⟩,?_⟩
   all_goals first
    | exact HY.out.cut_if hn2
    | exact HY.out.cut hn2
    | exact HY.out.cut_same (by assumption)
    | (rw [hdl,List.length_append,List.length_singleton];omega)
    | (rw [List.length_append];rw [HT'.out] at hown';exact hown')
    | (simp only [lenOf];omega)
set_option maxRecDepth 100000 in
set_option maxHeartbeats 1000000 in
theorem decodeAll_3 (v:Value) (zs:List Int) (w:World) (h:Rd .u8 w v zs) (hb:Byt zs) (hz:zs.length * 8≤140737488355328) :
  Calls Tryz.prog 104 #[.iface 177 (.agg #[.int .i64 1]),v] w fun e w'=>∃ v',e=.returned v'∧w'.ownsRow w.heap.size 3 1 v' (Cx.dec 3 zs).length ((Cx.dec 3 zs).map (Value.int .i64))∧Below w.heap.size w w':=by
 obtain ⟨i0,hi,hz0,hz1,hz2⟩:=info_parts Tryz.info_i64
 have HR:Hid (Rd .u8 w v zs):=h
 have HB:Hid (Byt zs):=hb
 clear h hb
 have hmt:=m_first2
 go_enter Tryz.func104,Tryz.ntmps104
 go_wp2_with fail
 go_loopw [1,5] (fun bv o wr=>∃ ys l:List Int,Hid (Cx.dec 3 zs=l ++ Cx.dec 3 ys)∧l.length + ys.length≤zs.length∧Hid (Rd .u8 w bv ys)∧Hid (Byt ys)∧wr.ownsRow w.heap.size 3 1 o l.length (l.map (Value.int .i64))∧Below w.heap.size w wr) (fun bv _ _=>lenOf bv)
 case atStart=>exact ⟨zs,[],rfl,by simp,HR.out,HB.out,World.ownsRow_nil _ _ _ _,Below.refl _ _⟩
 case round =>
  obtain ⟨ys,l,HD,hle,HY,HYB,hown,hbw⟩:=hrel
  have hw':w.heap.size≤wr.heap.size:=hbw.size
  have hylen:=HY.out.len
  by_cases hn:ys=[]
  ·have HE:Hid (Cx.dec 3 zs=l):=by unfold Hid;rw [HD.out,hn,Cx.dec_nil,List.append_nil]
   obtain ⟨ao,cap,hv,hlc,hcm,_⟩:=HY.out
   rw [hn] at hv
   subst hv
   clear HY HD HYB
   simp only [List.length_nil]
   go_wp2
   go_ret
   exact ⟨_,rfl,by rw [HE.out];exact hown,hbw⟩
  ·obtain ⟨a,n,hf,hn1,hn2⟩:∃ (a:Int) (n:Nat),Cx.fst 3 ys=(a,(n:Int))∧1≤n∧n≤ys.length:=by
    have:=Cx.fst_bd 3 ys hn
    exact ⟨_,(Cx.fst 3 ys).2.toNat,Prod.ext rfl (by simp only;omega),by omega,by omega⟩
   have HF:Hid (Cx.fst 3 ys=(a,(n:Int))):=hf
   have HD':Hid (Cx.dec 3 zs=(l ++ [a]) ++ Cx.dec 3 (ys.drop n)):=by unfold Hid;rw [HD.out,Cx.dec_cons 3 ys hn a n hf];simp
   have HNE:Hid (ys≠[]):=hn
   have hyp:0 < ys.length:=List.length_pos_iff.2 hn
   obtain ⟨ao,cap,hv,hlc,hcm,hrest⟩:=HY.out
   obtain ⟨b,off,hao,_⟩:=hrest hn
   subst hao
   subst hv
   have hcm':cap≤9223372036854775807:=hcm
   have HT:=snoc_map l a
   have HT':Hid (l.map (Value.int .i64) ++ [Value.int .i64 a]=(l ++ [a]).map (Value.int .i64)):=HT
   have hdl:(ys.drop n).length=ys.length - n:=List.length_drop
   clear hf hn hrest hcm HT HD
   generalize hml:l.map (Value.int .i64)=ml at *
   clear hml
   go_wp2_with fail
   refine (fst3_any _ ys a n _ (HY.out.ext hbw) HYB.out HNE.out HF.out).mono ?_
   rintro e w1 ⟨rfl,hb1⟩
   have hown1:=own_ext hown hb1
   have hbw1:Below w.heap.size w w1:=ext_trans hbw hb1
   have hw1:w.heap.size≤w1.heap.size:=hbw1.size
   clear hown hbw hb1
   go_wp2_with (at_builtin;refine wpList_append_own _ rfl _ _ 22 rfl w.heap.size 3 i0 (.int .i64 0) 1 8 Tryz.underlying22 hi hz0 hz1 hz2 rfl (by decide) _ _ _ rfl (hown1.alloc _) ⟨w1.heap.size,0,none⟩ 1 1 [.int .i64 a] rfl rfl (cell_one_new _ _ _) (one_i64 _) (by unfold maxLen;omega) (by omega) (by simp;omega) ?_;intro v' w' hown' hg' hx')
   all_goals refine ⟨⟨ys.drop n,l ++ [a],HD'.out,?_,?_,HYB.out.drop n,?_,below_push hbw1 hown1 hg'⟩,?_⟩
   all_goals first
    | exact HY.out.cut_if hn2
    | exact HY.out.cut hn2
    | exact HY.out.cut_same (by assumption)
    | (rw [hdl,List.length_append,List.length_singleton];omega)
    | (rw [List.length_append];rw [HT'.out] at hown';exact hown')
    | (simp only [lenOf];omega)
set_option maxRecDepth 100000 in
set_option maxHeartbeats 1000000 in
theorem decodeAll_4 (v:Value) (zs:List Int) (w:World) (h:Rd .u8 w v zs) (hb:Byt zs) (hz:zs.length * 8≤140737488355328) :
  Calls Tryz.prog 104 #[.iface 178 (.agg #[]),v] w fun e w'=>∃ v',e=.returned v'∧w'.ownsRow w.heap.size 3 1 v' (Cx.dec 4 zs).length ((Cx.dec 4 zs).map (Value.int .i64))∧Below w.heap.size w w':=by
 obtain ⟨i0,hi,hz0,hz1,hz2⟩:=info_parts Tryz.info_i64
 have HR:Hid (Rd .u8 w v zs):=h
 have HB:Hid (Byt zs):=hb
 clear h hb
 have hmt:=m_first4
 go_enter Tryz.func104,Tryz.ntmps104
 go_wp2_with fail
 go_loopw [1,5] (fun bv o wr=>∃ ys l:List Int,Hid (Cx.dec 4 zs=l ++ Cx.dec 4 ys)∧l.length + ys.length≤zs.length∧Hid (Rd .u8 w bv ys)∧Hid (Byt ys)∧wr.ownsRow w.heap.size 3 1 o l.length (l.map (Value.int .i64))∧Below w.heap.size w wr) (fun bv _ _=>lenOf bv)
 case atStart=>exact ⟨zs,[],rfl,by simp,HR.out,HB.out,World.ownsRow_nil _ _ _ _,Below.refl _ _⟩
 case round =>
  obtain ⟨ys,l,HD,hle,HY,HYB,hown,hbw⟩:=hrel
  have hw':w.heap.size≤wr.heap.size:=hbw.size
  have hylen:=HY.out.len
  by_cases hn:ys=[]
  ·have HE:Hid (Cx.dec 4 zs=l):=by unfold Hid;rw [HD.out,hn,Cx.dec_nil,List.append_nil]
   obtain ⟨ao,cap,hv,hlc,hcm,_⟩:=HY.out
   rw [hn] at hv
   subst hv
   clear HY HD HYB
   simp only [List.length_nil]
   go_wp2
   go_ret
   exact ⟨_,rfl,by rw [HE.out];exact hown,hbw⟩
  ·obtain ⟨a,n,hf,hn1,hn2⟩:∃ (a:Int) (n:Nat),Cx.fst 4 ys=(a,(n:Int))∧1≤n∧n≤ys.length:=by
    have:=Cx.fst_bd 4 ys hn
    exact ⟨_,(Cx.fst 4 ys).2.toNat,Prod.ext rfl (by simp only;omega),by omega,by omega⟩
   have HF:Hid (Cx.fst 4 ys=(a,(n:Int))):=hf
   have HD':Hid (Cx.dec 4 zs=(l ++ [a]) ++ Cx.dec 4 (ys.drop n)):=by unfold Hid;rw [HD.out,Cx.dec_cons 4 ys hn a n hf];simp
   have HNE:Hid (ys≠[]):=hn
   have hyp:0 < ys.length:=List.length_pos_iff.2 hn
   obtain ⟨ao,cap,hv,hlc,hcm,hrest⟩:=HY.out
   obtain ⟨b,off,hao,_⟩:=hrest hn
   subst hao
   subst hv
   have hcm':cap≤9223372036854775807:=hcm
   have HT:=snoc_map l a
   have HT':Hid (l.map (Value.int .i64) ++ [Value.int .i64 a]=(l ++ [a]).map (Value.int .i64)):=HT
   have hdl:(ys.drop n).length=ys.length - n:=List.length_drop
   clear hf hn hrest hcm HT HD
   generalize hml:l.map (Value.int .i64)=ml at *
   clear hml
   go_wp2_with fail
   refine (fst4_any _ ys a n _ (HY.out.ext hbw) HYB.out HNE.out HF.out).mono ?_
   rintro e w1 ⟨rfl,hb1⟩
   have hown1:=own_ext hown hb1
   have hbw1:Below w.heap.size w w1:=ext_trans hbw hb1
   have hw1:w.heap.size≤w1.heap.size:=hbw1.size
   clear hown hbw hb1
   go_wp2_with (at_builtin;refine wpList_append_own _ rfl _ _ 22 rfl w.heap.size 3 i0 (.int .i64 0) 1 8 Tryz.underlying22 hi hz0 hz1 hz2 rfl (by decide) _ _ _ rfl (hown1.alloc _) ⟨w1.heap.size,0,none⟩ 1 1 [.int .i64 a] rfl rfl (cell_one_new _ _ _) (one_i64 _) (by unfold maxLen;omega) (by omega) (by simp;omega) ?_;intro v' w' hown' hg' hx')
   all_goals refine ⟨⟨ys.drop n,l ++ [a],HD'.out,?_,?_,HYB.out.drop n,?_,below_push hbw1 hown1 hg'⟩,?_⟩
   all_goals first
    | exact HY.out.cut_if hn2
    | exact HY.out.cut hn2
    | exact HY.out.cut_same (by assumption)
    | (rw [hdl,List.length_append,List.length_singleton];omega)
    | (rw [List.length_append];rw [HT'.out] at hown';exact hown')
    | (simp only [lenOf];omega)
end Go.Proofs.YtjjfakokakamaaaGreat

namespace Go.Proofs.YtjjfakokakamaaaGreat
open Go.RowKit
def Cx.dd (enc:Int) (zs:List Int):List Int:=if Cx.known enc=true then Cx.dec enc zs else []
def Cx.er (enc:Int):Int:=if Cx.known enc=true then 0 else 10
theorem Cx.known_iff (enc:Int):Cx.known enc=true ↔ (enc=1∨enc=2∨enc=3∨enc=4):=by unfold Cx.known;simp;omega
theorem Cx.known_no (enc:Int) (h:Cx.known enc=false):enc≠1∧enc≠2∧enc≠3∧enc≠4:=by
 unfold Cx.known at h;simp at h;omega
theorem Cx.dd_yes (enc:Int) (zs:List Int) (h:Cx.known enc=true):Cx.dd enc zs=Cx.dec enc zs:=by unfold Cx.dd;rw [if_pos h]
theorem Cx.dd_no (enc:Int) (zs:List Int) (h:Cx.known enc=false):Cx.dd enc zs=[]:=by unfold Cx.dd;rw [h];rfl
theorem Decode_any (enc:Int) (v:Value) (zs:List Int) (w:World) (h:Rd .u8 w v zs) (hb:Byt zs) (hz:zs.length * 8≤140737488355328) :
  Calls Tryz.prog 72 #[.int .i64 enc,v] w fun e w'=>∃ v',e=.returned (.tuple #[v',.int .i64 (Cx.er enc)])∧w'.ownsRow w.heap.size 3 1 v' (Cx.dd enc zs).length ((Cx.dd enc zs).map (Value.int .i64))∧Below w.heap.size w w':=by
 have HR:Hid (Rd .u8 w v zs):=h
 have HB:Hid (Byt zs):=hb
 clear h hb
 cases hk:Cx.known enc
 ·have HE:Hid (Cx.dd enc zs=[]):=Cx.dd_no enc zs hk
  have HX:Hid (Cx.er enc=10):=by unfold Hid Cx.er;rw [hk];rfl
  obtain ⟨h1,h2,h3,h4⟩:=Cx.known_no enc hk
  clear hk
  go_enter Tryz.func72,Tryz.ntmps72
  go_wp2_with (go_at_call 57;refine (coderOf_no _ h1 h2 h3 h4 _).mono ?_;rintro e w' ⟨rfl,rfl⟩)
  go_ret2
  exact ⟨_,by rw [HX.out];rfl,by rw [HE.out];exact World.ownsRow_nil _ _ _ _,Below.refl _ _⟩
 ·have HX:Hid (Cx.er enc=0):=by unfold Hid Cx.er;rw [hk];rfl
  have HE:Hid (Cx.dd enc zs=Cx.dec enc zs):=Cx.dd_yes enc zs hk
  rcases (Cx.known_iff enc).1 hk with rfl | rfl | rfl | rfl
  ·clear hk
   go_enter Tryz.func72,Tryz.ntmps72
   go_wp2_with (first | (go_at_call 57;refine (coderOf_1 _).mono ?_;rintro e w' ⟨rfl,rfl⟩) | (go_at_call 104;refine (decodeAll_1 _ zs _ HR.out HB.out hz).mono ?_;rintro e w' ⟨v',rfl,hown,hbw⟩))
   go_ret2
   exact ⟨_,by rw [HX.out];rfl,by rw [HE.out];assumption,by assumption⟩
  ·clear hk
   go_enter Tryz.func72,Tryz.ntmps72
   go_wp2_with (first | (go_at_call 57;refine (coderOf_2 _).mono ?_;rintro e w' ⟨rfl,rfl⟩) | (go_at_call 104;refine (decodeAll_2 _ zs _ HR.out HB.out hz).mono ?_;rintro e w' ⟨v',rfl,hown,hbw⟩))
   go_ret2
   exact ⟨_,by rw [HX.out];rfl,by rw [HE.out];assumption,by assumption⟩
  ·clear hk
   go_enter Tryz.func72,Tryz.ntmps72
   go_wp2_with (first | (go_at_call 57;refine (coderOf_3 _).mono ?_;rintro e w' ⟨rfl,rfl⟩) | (go_at_call 104;refine (decodeAll_3 _ zs _ HR.out HB.out hz).mono ?_;rintro e w' ⟨v',rfl,hown,hbw⟩))
   go_ret2
   exact ⟨_,by rw [HX.out];rfl,by rw [HE.out];assumption,by assumption⟩
  ·clear hk
   go_enter Tryz.func72,Tryz.ntmps72
   go_wp2_with (first | (go_at_call 57;refine (coderOf_4 _).mono ?_;rintro e w' ⟨rfl,rfl⟩) | (go_at_call 104;refine (decodeAll_4 _ zs _ HR.out HB.out hz).mono ?_;rintro e w' ⟨v',rfl,hown,hbw⟩))
   go_ret2
   exact ⟨_,by rw [HX.out];rfl,by rw [HE.out];assumption,by assumption⟩
end Go.Proofs.YtjjfakokakamaaaGreat

namespace Go.Proofs.YtjjfakokakamaaaGreat
open Go.RowKit
def Cx.bad (enc:Int):Nat→List Int→Option Nat
 | _,[]=>none
 | i,a :: l=>if Cx.fits enc a=true then Cx.bad enc (i + 1) l else some i
def Cx.encB (enc:Int) (l:List Int):List Int:=l.flatMap (Cx.put enc)
def Cx.encR (enc:Int) (l:List Int):List Int × Int × Int :=
 if Cx.known enc=true then (match Cx.bad enc 0 l with | some i=>([],(i:Int),11) | none=>(Cx.encB enc l,0,0)) else ([],0,10)
theorem Cx.bad_at (enc:Int):∀ (l:List Int) (i k:Nat),k < l.length→(∀ j,j < k→Cx.fits enc (l[j]?.getD 0)=true)→Cx.fits enc (l[k]?.getD 0)=false→Cx.bad enc i l=some (i + k):=by
 intro l
 induction l with
 | nil=>intro i k hk;simp at hk
 | cons a l ih =>
   intro i k hk hj hf
   unfold Cx.bad
   cases k with
   | zero=>simp at hf;simp [hf]
   | succ k =>
     have h0:=hj 0 (by omega)
     simp at h0
     rw [if_pos h0,ih (i + 1) k (by simpa using hk) (fun j hjk=>by simpa using hj (j + 1) (by omega)) (by simpa using hf)]
     congr 1;omega
theorem Cx.bad_none (enc:Int):∀ (l:List Int) (i:Nat),(∀ j,j < l.length→Cx.fits enc (l[j]?.getD 0)=true)→Cx.bad enc i l=none:=by
 intro l
 induction l with
 | nil=>intro i _;rfl
 | cons a l ih =>
   intro i hj
   unfold Cx.bad
   have h0:=hj 0 (by simp)
   simp at h0
   rw [if_pos h0]
   exact ih (i + 1) (fun j hjk=>by simpa using hj (j + 1) (by simpa using hjk))
theorem Cx.encB_len (enc:Int) (l:List Int):(Cx.encB enc l).length≤4 * l.length:=by
 unfold Cx.encB
 induction l with
 | nil=>simp
 | cons a l ih =>
   have:=(Cx.put_len enc a).2
   simp only [List.flatMap_cons,List.length_append,List.length_cons]
   omega
theorem Cx.encB_succ (enc:Int) (l:List Int) (k:Nat) (h:k < l.length):Cx.encB enc (l.take (k + 1))=Cx.encB enc (l.take k) ++ Cx.put enc (l[k]?.getD 0):=by
 unfold Cx.encB
 rw [List.take_succ_eq_append_getElem h,List.flatMap_append]
 simp [h]
theorem Cx.encR_bad (enc:Int) (l:List Int) (k:Nat) (hk:Cx.known enc=true) (h1:k < l.length) (h2:∀ j,j < k→Cx.fits enc (l[j]?.getD 0)=true) (h3:Cx.fits enc (l[k]?.getD 0)=false):Cx.encR enc l=([],(k:Int),11):=by
 unfold Cx.encR;rw [if_pos hk,Cx.bad_at enc l 0 k h1 h2 h3];simp
theorem Cx.encR_all (enc:Int) (l:List Int) (hk:Cx.known enc=true) (h2:∀ j,j < l.length→Cx.fits enc (l[j]?.getD 0)=true):Cx.encR enc l=(Cx.encB enc l,0,0):=by
 unfold Cx.encR;rw [if_pos hk,Cx.bad_none enc l 0 h2]
theorem m_put1 (w : World) : (method 336 175 (.agg #[]) "copyist/codec.put").run Tryz.prog w = .ok (175, .agg #[]) w := by kernel_rfl
theorem m_put2 (k : Int) (w : World) : (method 336 177 (.agg #[.int .i64 k]) "copyist/codec.put").run Tryz.prog w = .ok (190, .agg #[.int .i64 k]) w := by kernel_rfl
theorem m_put4 (w : World) : (method 336 178 (.agg #[]) "copyist/codec.put").run Tryz.prog w = .ok (202, .agg #[]) w := by kernel_rfl
theorem Cx.size_zero (enc a:Int):(Cx.size enc a == 0)=!Cx.fits enc a:=by
 have:=Cx.put_len enc a
 unfold Cx.size
 cases h:Cx.fits enc a
 ·simp
 ·simp;intro h';rw [h'] at this;simp at this
theorem sizeE_1 (a:Int) (w:World):Calls Tryz.prog 176 #[.agg #[],.int .i64 a] w fun e w'=>e=.returned (.int .i64 (Cx.size 1 a))∧Below w.heap.size w w':=by rw [Cx.size1];exact nsize_any a w
theorem sizeE_2 (a:Int) (w:World):Calls Tryz.prog 191 #[.agg #[.int .i64 0],.int .i64 a] w fun e w'=>e=.returned (.int .i64 (Cx.size 2 a))∧Below w.heap.size w w':=by rw [Cx.sizeW _ _ (.inl rfl)];exact wsize_any 0 a w
theorem sizeE_3 (a:Int) (w:World):Calls Tryz.prog 191 #[.agg #[.int .i64 1],.int .i64 a] w fun e w'=>e=.returned (.int .i64 (Cx.size 3 a))∧Below w.heap.size w w':=by rw [Cx.sizeW _ _ (.inr rfl)];exact wsize_any 1 a w
theorem sizeE_4 (a:Int) (w:World):Calls Tryz.prog 203 #[.agg #[],.int .i64 a] w fun e w'=>e=.returned (.int .i64 (Cx.size 4 a))∧Below w.heap.size w w':=by rw [Cx.size4];exact lsize_any a w
set_option maxRecDepth 100000 in
set_option maxHeartbeats 1000000 in
theorem Encode_1 (v:Value) (l:List Int) (w:World) (h:Rd .i64 w v l) (hz:l.length * 8 + 320≤140737488355328) :
  Calls Tryz.prog 20 #[.int .i64 1,v] w fun e w'=>∃ v',e=.returned (.tuple #[v',.int .i64 (Cx.encR 1 l).2.1,.int .i64 (Cx.encR 1 l).2.2])∧w'.ownsRow w.heap.size 5 1 v' (Cx.encR 1 l).1.length ((Cx.encR 1 l).1.map (Value.int .u8))∧Below w.heap.size w w':=by
 have hlen:=h.len
 obtain ⟨ao,cap,rfl,hlc,hcm,hc⟩:=h
 have hms:=m_size1
 have hmp:=m_put1
 have HA:Hid ((∀ j,j < l.length→Cx.fits 1 (l[j]?.getD 0)=true)→Cx.encR 1 l=(Cx.encB 1 l,0,0)):=Cx.encR_all 1 l rfl
 have HF:Hid (∀ k,k < l.length→(∀ j,j < k→Cx.fits 1 (l[j]?.getD 0)=true)→Cx.fits 1 (l[k]?.getD 0)=false→Cx.encR 1 l=([],(k:Int),11)):=fun k=>Cx.encR_bad 1 l k rfl
 clear hcm
 go_enter Tryz.func20,Tryz.ntmps20
 go_wp2_with (go_at_call 57;refine (coderOf_1 _).mono ?_;rintro e w0 ⟨rfl,rfl⟩)
 go_loopw [9,21] (fun o i wr=>∃ k:Nat,k≤l.length∧i=.int .i64 k∧Hid (∀ j,j < k→Cx.fits 1 (l[j]?.getD 0)=true)∧wr.ownsRow w0.heap.size 5 1 o (Cx.encB 1 (l.take k)).length ((Cx.encB 1 (l.take k)).map (Value.int .u8))∧Below w0.heap.size w0 wr) (fun _ i _=>l.length - (intOf i).toNat)
 case atStart=>exact ⟨0,Nat.zero_le _,rfl,fun j hj=>by omega,World.ownsRow_nil _ _ _ _,Below.refl _ _⟩
 case round =>
  obtain ⟨k,hk,rfl,HJ,hown,hbw⟩:=hrel
  by_cases hlt:k < l.length
  ·obtain ⟨b,off,rfl,hbl,hcl⟩:=hc (List.length_pos_iff.1 (by omega))
   have hcx:wr.cell? ⟨b,off + k,none⟩=some (.int .i64 (l[k]?.getD 0)):=(hbw.cell (p:=⟨b,off + k,none⟩) hbl).trans (hcl k hlt)
   have hel:=Cx.encB_len 1 (l.take k)
   have htk:(l.take k).length=k:=by rw [List.length_take];omega
   have HS:=Cx.encB_succ 1 l k hlt
   have HF':=HF.out k hlt HJ.out
   have hsz:=Cx.size_zero 1 (l[k]?.getD 0)
   cases hf:Cx.fits 1 (l[k]?.getD 0)
   ·rw [hf] at hsz
    have HT:Hid (Cx.encR 1 l=([],(k:Int),11)):=HF' hf
    generalize l[k]?.getD 0=a at *
    clear hc hcl HS HF' HF HA hf
    go_wp2_with fail
    refine (sizeE_1 _ _).mono ?_
    rintro e w1 ⟨rfl,hb1⟩
    have HW1:Hid (Below w0.heap.size w0 w1):=ext_trans hbw hb1
    clear hb1
    go_wp2_with fail
    go_ret3
    exact ⟨_,by rw [HT.out];rfl,by rw [HT.out];exact World.ownsRow_nil _ _ _ _,HW1.out⟩
   ·rw [hf] at hsz
    have HX:Hid (∀ j,j < k + 1→Cx.fits 1 (l[j]?.getD 0)=true):=fun j hj=>by
     by_cases hjk:j=k
     ·rw [hjk];exact hf
     ·exact HJ.out j (by omega)
    have HFT:Hid (Cx.fits 1 (l[k]?.getD 0)=true):=hf
    have HS':Hid (Cx.encB 1 (l.take (k + 1))=Cx.encB 1 (l.take k) ++ Cx.put 1 (l[k]?.getD 0)):=HS
    generalize l[k]?.getD 0=a at *
    generalize Cx.encB 1 (l.take k)=xs at *
    clear hc hcl HS HF' HF HA hf HJ
    go_wp2_with fail
    refine (sizeE_1 _ _).mono ?_
    rintro e w1 ⟨rfl,hb1⟩
    have hbw1:Below w0.heap.size w0 w1:=ext_trans hbw hb1
    have hown1:=own_ext hown hb1
    have hs1:w0.heap.size≤w1.heap.size:=hbw1.size
    clear hb1 hown hbw
    go_wp2_with fail
    refine (put1_any _ xs w0.heap.size a _ hown1 hs1 (by omega) HFT.out).mono ?_
    rintro e w2 ⟨v2,rfl,hown2,hb2⟩
    go_wp2_with fail
    go_roundw
    case rel=>exact ⟨k + 1,by omega,by go_num,HX.out,by rw [HS'.out];exact hown2,hbw1.trans hb2⟩
    case measure=>simp [intOf];omega
  ·have hke:k=l.length:=by omega
   subst hke
   have HT:Hid (Cx.encR 1 l=(Cx.encB 1 l,0,0)):=HA.out HJ.out
   rw [List.take_length] at hown
   clear hc HF HA HJ
   go_wp2
   go_ret3
   exact ⟨_,by rw [HT.out];rfl,by rw [HT.out];exact hown,hbw⟩
set_option maxRecDepth 100000 in
set_option maxHeartbeats 1000000 in
theorem Encode_2 (v:Value) (l:List Int) (w:World) (h:Rd .i64 w v l) (hz:l.length * 8 + 320≤140737488355328) :
  Calls Tryz.prog 20 #[.int .i64 2,v] w fun e w'=>∃ v',e=.returned (.tuple #[v',.int .i64 (Cx.encR 2 l).2.1,.int .i64 (Cx.encR 2 l).2.2])∧w'.ownsRow w.heap.size 5 1 v' (Cx.encR 2 l).1.length ((Cx.encR 2 l).1.map (Value.int .u8))∧Below w.heap.size w w':=by
 have hlen:=h.len
 obtain ⟨ao,cap,rfl,hlc,hcm,hc⟩:=h
 have hms:=m_size2
 have hmp:=m_put2
 have HA:Hid ((∀ j,j < l.length→Cx.fits 2 (l[j]?.getD 0)=true)→Cx.encR 2 l=(Cx.encB 2 l,0,0)):=Cx.encR_all 2 l rfl
 have HF:Hid (∀ k,k < l.length→(∀ j,j < k→Cx.fits 2 (l[j]?.getD 0)=true)→Cx.fits 2 (l[k]?.getD 0)=false→Cx.encR 2 l=([],(k:Int),11)):=fun k=>Cx.encR_bad 2 l k rfl
 clear hcm
 go_enter Tryz.func20,Tryz.ntmps20
 go_wp2_with (go_at_call 57;refine (coderOf_2 _).mono ?_;rintro e w0 ⟨rfl,rfl⟩)
 go_loopw [9,21] (fun o i wr=>∃ k:Nat,k≤l.length∧i=.int .i64 k∧Hid (∀ j,j < k→Cx.fits 2 (l[j]?.getD 0)=true)∧wr.ownsRow w0.heap.size 5 1 o (Cx.encB 2 (l.take k)).length ((Cx.encB 2 (l.take k)).map (Value.int .u8))∧Below w0.heap.size w0 wr) (fun _ i _=>l.length - (intOf i).toNat)
 case atStart=>exact ⟨0,Nat.zero_le _,rfl,fun j hj=>by omega,World.ownsRow_nil _ _ _ _,Below.refl _ _⟩
 case round =>
  obtain ⟨k,hk,rfl,HJ,hown,hbw⟩:=hrel
  by_cases hlt:k < l.length
  ·obtain ⟨b,off,rfl,hbl,hcl⟩:=hc (List.length_pos_iff.1 (by omega))
   have hcx:wr.cell? ⟨b,off + k,none⟩=some (.int .i64 (l[k]?.getD 0)):=(hbw.cell (p:=⟨b,off + k,none⟩) hbl).trans (hcl k hlt)
   have hel:=Cx.encB_len 2 (l.take k)
   have htk:(l.take k).length=k:=by rw [List.length_take];omega
   have HS:=Cx.encB_succ 2 l k hlt
   have HF':=HF.out k hlt HJ.out
   have hsz:=Cx.size_zero 2 (l[k]?.getD 0)
   cases hf:Cx.fits 2 (l[k]?.getD 0)
   ·rw [hf] at hsz
    have HT:Hid (Cx.encR 2 l=([],(k:Int),11)):=HF' hf
    generalize l[k]?.getD 0=a at *
    clear hc hcl HS HF' HF HA hf
    go_wp2_with fail
    refine (sizeE_2 _ _).mono ?_
    rintro e w1 ⟨rfl,hb1⟩
    have HW1:Hid (Below w0.heap.size w0 w1):=ext_trans hbw hb1
    clear hb1
    go_wp2_with fail
    go_ret3
    exact ⟨_,by rw [HT.out];rfl,by rw [HT.out];exact World.ownsRow_nil _ _ _ _,HW1.out⟩
   ·rw [hf] at hsz
    have HX:Hid (∀ j,j < k + 1→Cx.fits 2 (l[j]?.getD 0)=true):=fun j hj=>by
     by_cases hjk:j=k
     ·rw [hjk];exact hf
     ·exact HJ.out j (by omega)
    have HFT:Hid (Cx.fits 2 (l[k]?.getD 0)=true):=hf
    have HS':Hid (Cx.encB 2 (l.take (k + 1))=Cx.encB 2 (l.take k) ++ Cx.put 2 (l[k]?.getD 0)):=HS
    generalize l[k]?.getD 0=a at *
    generalize Cx.encB 2 (l.take k)=xs at *
    clear hc hcl HS HF' HF HA hf HJ
    go_wp2_with fail
    refine (sizeE_2 _ _).mono ?_
    rintro e w1 ⟨rfl,hb1⟩
    have hbw1:Below w0.heap.size w0 w1:=ext_trans hbw hb1
    have hown1:=own_ext hown hb1
    have hs1:w0.heap.size≤w1.heap.size:=hbw1.size
    clear hb1 hown hbw
    go_wp2_with fail
    refine (put2_any 0 (.inl rfl) _ xs w0.heap.size a _ hown1 hs1 (by omega) HFT.out).mono ?_
    rintro e w2 ⟨v2,rfl,hown2,hb2⟩
    go_wp2_with fail
    go_roundw
    case rel=>exact ⟨k + 1,by omega,by go_num,HX.out,by rw [HS'.out];exact hown2,hbw1.trans hb2⟩
    case measure=>simp [intOf];omega
  ·have hke:k=l.length:=by omega
   subst hke
   have HT:Hid (Cx.encR 2 l=(Cx.encB 2 l,0,0)):=HA.out HJ.out
   rw [List.take_length] at hown
   clear hc HF HA HJ
   go_wp2
   go_ret3
   exact ⟨_,by rw [HT.out];rfl,by rw [HT.out];exact hown,hbw⟩
set_option maxRecDepth 100000 in
set_option maxHeartbeats 1000000 in
theorem Encode_3 (v:Value) (l:List Int) (w:World) (h:Rd .i64 w v l) (hz:l.length * 8 + 320≤140737488355328) :
  Calls Tryz.prog 20 #[.int .i64 3,v] w fun e w'=>∃ v',e=.returned (.tuple #[v',.int .i64 (Cx.encR 3 l).2.1,.int .i64 (Cx.encR 3 l).2.2])∧w'.ownsRow w.heap.size 5 1 v' (Cx.encR 3 l).1.length ((Cx.encR 3 l).1.map (Value.int .u8))∧Below w.heap.size w w':=by
 have hlen:=h.len
 obtain ⟨ao,cap,rfl,hlc,hcm,hc⟩:=h
 have hms:=m_size2
 have hmp:=m_put2
 have HA:Hid ((∀ j,j < l.length→Cx.fits 3 (l[j]?.getD 0)=true)→Cx.encR 3 l=(Cx.encB 3 l,0,0)):=Cx.encR_all 3 l rfl
 have HF:Hid (∀ k,k < l.length→(∀ j,j < k→Cx.fits 3 (l[j]?.getD 0)=true)→Cx.fits 3 (l[k]?.getD 0)=false→Cx.encR 3 l=([],(k:Int),11)):=fun k=>Cx.encR_bad 3 l k rfl
 clear hcm
 go_enter Tryz.func20,Tryz.ntmps20
 go_wp2_with (go_at_call 57;refine (coderOf_3 _).mono ?_;rintro e w0 ⟨rfl,rfl⟩)
 go_loopw [9,21] (fun o i wr=>∃ k:Nat,k≤l.length∧i=.int .i64 k∧Hid (∀ j,j < k→Cx.fits 3 (l[j]?.getD 0)=true)∧wr.ownsRow w0.heap.size 5 1 o (Cx.encB 3 (l.take k)).length ((Cx.encB 3 (l.take k)).map (Value.int .u8))∧Below w0.heap.size w0 wr) (fun _ i _=>l.length - (intOf i).toNat)
 case atStart=>exact ⟨0,Nat.zero_le _,rfl,fun j hj=>by omega,World.ownsRow_nil _ _ _ _,Below.refl _ _⟩
 case round =>
  obtain ⟨k,hk,rfl,HJ,hown,hbw⟩:=hrel
  by_cases hlt:k < l.length
  ·obtain ⟨b,off,rfl,hbl,hcl⟩:=hc (List.length_pos_iff.1 (by omega))
   have hcx:wr.cell? ⟨b,off + k,none⟩=some (.int .i64 (l[k]?.getD 0)):=(hbw.cell (p:=⟨b,off + k,none⟩) hbl).trans (hcl k hlt)
   have hel:=Cx.encB_len 3 (l.take k)
   have htk:(l.take k).length=k:=by rw [List.length_take];omega
   have HS:=Cx.encB_succ 3 l k hlt
   have HF':=HF.out k hlt HJ.out
   have hsz:=Cx.size_zero 3 (l[k]?.getD 0)
   cases hf:Cx.fits 3 (l[k]?.getD 0)
   ·rw [hf] at hsz
    have HT:Hid (Cx.encR 3 l=([],(k:Int),11)):=HF' hf
    generalize l[k]?.getD 0=a at *
    clear hc hcl HS HF' HF HA hf
    go_wp2_with fail
    refine (sizeE_3 _ _).mono ?_
    rintro e w1 ⟨rfl,hb1⟩
    have HW1:Hid (Below w0.heap.size w0 w1):=ext_trans hbw hb1
    clear hb1
    go_wp2_with fail
    go_ret3
    exact ⟨_,by rw [HT.out];rfl,by rw [HT.out];exact World.ownsRow_nil _ _ _ _,HW1.out⟩
   ·rw [hf] at hsz
    have HX:Hid (∀ j,j < k + 1→Cx.fits 3 (l[j]?.getD 0)=true):=fun j hj=>by
     by_cases hjk:j=k
     ·rw [hjk];exact hf
     ·exact HJ.out j (by omega)
    have HFT:Hid (Cx.fits 3 (l[k]?.getD 0)=true):=hf
    have HS':Hid (Cx.encB 3 (l.take (k + 1))=Cx.encB 3 (l.take k) ++ Cx.put 3 (l[k]?.getD 0)):=HS
    generalize l[k]?.getD 0=a at *
    generalize Cx.encB 3 (l.take k)=xs at *
    clear hc hcl HS HF' HF HA hf HJ
    go_wp2_with fail
    refine (sizeE_3 _ _).mono ?_
    rintro e w1 ⟨rfl,hb1⟩
    have hbw1:Below w0.heap.size w0 w1:=ext_trans hbw hb1
    have hown1:=own_ext hown hb1
    have hs1:w0.heap.size≤w1.heap.size:=hbw1.size
    clear hb1 hown hbw
    go_wp2_with fail
    refine (put2_any 1 (.inr rfl) _ xs w0.heap.size a _ hown1 hs1 (by omega) HFT.out).mono ?_
    rintro e w2 ⟨v2,rfl,hown2,hb2⟩
    go_wp2_with fail
    go_roundw
    case rel=>exact ⟨k + 1,by omega,by go_num,HX.out,by rw [HS'.out];exact hown2,hbw1.trans hb2⟩
    case measure=>simp [intOf];omega
  ·have hke:k=l.length:=by omega
   subst hke
   have HT:Hid (Cx.encR 3 l=(Cx.encB 3 l,0,0)):=HA.out HJ.out
   rw [List.take_length] at hown
   clear hc HF HA HJ
   go_wp2
   go_ret3
   exact ⟨_,by rw [HT.out];rfl,by rw [HT.out];exact hown,hbw⟩
set_option maxRecDepth 100000 in
set_option maxHeartbeats 1000000 in
theorem Encode_4 (v:Value) (l:List Int) (w:World) (h:Rd .i64 w v l) (hz:l.length * 8 + 320≤140737488355328) :
  Calls Tryz.prog 20 #[.int .i64 4,v] w fun e w'=>∃ v',e=.returned (.tuple #[v',.int .i64 (Cx.encR 4 l).2.1,.int .i64 (Cx.encR 4 l).2.2])∧w'.ownsRow w.heap.size 5 1 v' (Cx.encR 4 l).1.length ((Cx.encR 4 l).1.map (Value.int .u8))∧Below w.heap.size w w':=by
 have hlen:=h.len
 obtain ⟨ao,cap,rfl,hlc,hcm,hc⟩:=h
 have hms:=m_size4
 have hmp:=m_put4
 have HA:Hid ((∀ j,j < l.length→Cx.fits 4 (l[j]?.getD 0)=true)→Cx.encR 4 l=(Cx.encB 4 l,0,0)):=Cx.encR_all 4 l rfl
 have HF:Hid (∀ k,k < l.length→(∀ j,j < k→Cx.fits 4 (l[j]?.getD 0)=true)→Cx.fits 4 (l[k]?.getD 0)=false→Cx.encR 4 l=([],(k:Int),11)):=fun k=>Cx.encR_bad 4 l k rfl
 clear hcm
 go_enter Tryz.func20,Tryz.ntmps20
 go_wp2_with (go_at_call 57;refine (coderOf_4 _).mono ?_;rintro e w0 ⟨rfl,rfl⟩)
 go_loopw [9,21] (fun o i wr=>∃ k:Nat,k≤l.length∧i=.int .i64 k∧Hid (∀ j,j < k→Cx.fits 4 (l[j]?.getD 0)=true)∧wr.ownsRow w0.heap.size 5 1 o (Cx.encB 4 (l.take k)).length ((Cx.encB 4 (l.take k)).map (Value.int .u8))∧Below w0.heap.size w0 wr) (fun _ i _=>l.length - (intOf i).toNat)
 case atStart=>exact ⟨0,Nat.zero_le _,rfl,fun j hj=>by omega,World.ownsRow_nil _ _ _ _,Below.refl _ _⟩
 case round =>
  obtain ⟨k,hk,rfl,HJ,hown,hbw⟩:=hrel
  by_cases hlt:k < l.length
  ·obtain ⟨b,off,rfl,hbl,hcl⟩:=hc (List.length_pos_iff.1 (by omega))
   have hcx:wr.cell? ⟨b,off + k,none⟩=some (.int .i64 (l[k]?.getD 0)):=(hbw.cell (p:=⟨b,off + k,none⟩) hbl).trans (hcl k hlt)
   have hel:=Cx.encB_len 4 (l.take k)
   have htk:(l.take k).length=k:=by rw [List.length_take];omega
   have HS:=Cx.encB_succ 4 l k hlt
   have HF':=HF.out k hlt HJ.out
   have hsz:=Cx.size_zero 4 (l[k]?.getD 0)
   cases hf:Cx.fits 4 (l[k]?.getD 0)
   ·rw [hf] at hsz
    have HT:Hid (Cx.encR 4 l=([],(k:Int),11)):=HF' hf
    generalize l[k]?.getD 0=a at *
    clear hc hcl HS HF' HF HA hf
    go_wp2_with fail
    refine (sizeE_4 _ _).mono ?_
    rintro e w1 ⟨rfl,hb1⟩
    have HW1:Hid (Below w0.heap.size w0 w1):=ext_trans hbw hb1
    clear hb1
    go_wp2_with fail
    go_ret3
    exact ⟨_,by rw [HT.out];rfl,by rw [HT.out];exact World.ownsRow_nil _ _ _ _,HW1.out⟩
   ·rw [hf] at hsz
    have HX:Hid (∀ j,j < k + 1→Cx.fits 4 (l[j]?.getD 0)=true):=fun j hj=>by
     by_cases hjk:j=k
     ·rw [hjk];exact hf
     ·exact HJ.out j (by omega)
    have HFT:Hid (Cx.fits 4 (l[k]?.getD 0)=true):=hf
    have HS':Hid (Cx.encB 4 (l.take (k + 1))=Cx.encB 4 (l.take k) ++ Cx.put 4 (l[k]?.getD 0)):=HS
    generalize l[k]?.getD 0=a at *
    generalize Cx.encB 4 (l.take k)=xs at *
    clear hc hcl HS HF' HF HA hf HJ
    go_wp2_with fail
    refine (sizeE_4 _ _).mono ?_
    rintro e w1 ⟨rfl,hb1⟩
    have hbw1:Below w0.heap.size w0 w1:=ext_trans hbw hb1
    have hown1:=own_ext hown hb1
    have hs1:w0.heap.size≤w1.heap.size:=hbw1.size
    clear hb1 hown hbw
    go_wp2_with fail
    refine (put4_any _ xs w0.heap.size a _ hown1 hs1 (by omega) HFT.out).mono ?_
    rintro e w2 ⟨v2,rfl,hown2,hb2⟩
    go_wp2_with fail
    go_roundw
    case rel=>exact ⟨k + 1,by omega,by go_num,HX.out,by rw [HS'.out];exact hown2,hbw1.trans hb2⟩
    case measure=>simp [intOf];omega
  ·have hke:k=l.length:=by omega
   subst hke
   have HT:Hid (Cx.encR 4 l=(Cx.encB 4 l,0,0)):=HA.out HJ.out
   rw [List.take_length] at hown
   clear hc HF HA HJ
   go_wp2
   go_ret3
   exact ⟨_,by rw [HT.out];rfl,by rw [HT.out];exact hown,hbw⟩
end Go.Proofs.YtjjfakokakamaaaGreat

namespace Go.Proofs.YtjjfakokakamaaaGreat
theorem Cx.pre_take (m b:List Int) (h:m.isPrefixOf b=true):b.take m.length=m:=by
 rw [List.isPrefixOf_iff_prefix] at h
 exact (List.prefix_iff_eq_take.1 h).symm
theorem Cx.c0_take (b:List Int) (hn:b≠[]):b.take 1=[Cx.c0 b]:=by
 cases b with
 | nil=>exact absurd rfl hn
 | cons a l=>rfl
theorem Cx.back1 (b:List Int) (hb:Byt b) (hn:b≠[]):Cx.fits 1 (Cx.first8 b).1=true∧Cx.put 1 (Cx.first8 b).1=b.take (Cx.first8 b).2.toNat:=by
 have hbd:=Cx.mtch_bd b
 have h0:=hb.at 0
 change 0≤Cx.c0 b∧Cx.c0 b≤255 at h0
 by_cases hm:0 < Cx.mtch b∧Cx.mtch b≤b.length
 ·have hh:=(Cx.hit_iff b hb (Cx.mtch b).toNat (by omega) (by omega)).2 ⟨by omega,by omega⟩
  rw [Cx.hitB_iff b _ _ rfl] at hh
  obtain ⟨_,hs,hl,hp⟩:=hh
  have e:=Cx.first8_hit b hb (Cx.mtch b).toNat (by omega) (by omega) ((Cx.hit_iff b hb (Cx.mtch b).toNat (by omega) (by omega)).2 ⟨by omega,by omega⟩)
  rw [e]
  simp only [Int.toNat_natCast]
  have ht:=Cx.pre_take _ _ hp
  rw [hl] at ht
  have hs0:=(Cx.sc_iff _).1 hs
  refine ⟨by unfold Cx.fits;rw [if_pos rfl,hs,Bool.true_or],?_⟩
  unfold Cx.put
  rw [if_neg (by omega),if_pos rfl]
  exact ht.symm
 ·have e:Cx.first8 b=(-1 - Cx.c0 b,1):=by unfold Cx.first8;rw [if_neg hm]
  have h128:128≤Cx.c0 b:=by
   rcases Classical.em (128≤Cx.c0 b) with h | h
   ·exact h
   ·exfalso
    have r:Cx.rowN (Cx.c0 b)=1:=by unfold Cx.rowN;rw [if_pos (by omega)]
    have hy:=Cx.mtch_yes b 1 (fun j h1 h2=>by omega) (.inl (by rw [r];decide))
    rw [r] at hy
    have hp:0 < b.length:=List.length_pos_iff.2 hn
    exact hm ⟨by omega,by omega⟩
  rw [e]
  refine ⟨?_,?_⟩
  ·unfold Cx.fits;rw [if_pos rfl];simp;omega
  ·unfold Cx.put
   rw [if_pos (by simp only;omega)]
   show [-1 - (-1 - Cx.c0 b)]=b.take 1
   rw [Cx.c0_take b hn]
   congr 1;omega
theorem Cx.unit_wv (enc:Int) (b:List Int) (hb:Byt b) (h2:2≤b.length) (he:enc=2∨enc=3):Cx.unit enc (Cx.wv (Cx.lowOf enc) b)=b.take 2:=by
 match b,h2 with
 | x :: y :: l,_ =>
   have hx:=hb x (by simp)
   have hy:=hb y (by simp)
   rcases he with rfl | rfl
   ·simp only [Cx.unit,Cx.wv,Cx.lowOf,if_true,List.getElem?_cons_succ,List.getElem?_cons_zero,Option.getD_some,List.take_succ_cons,List.take_zero]
    have e1:(y * 256 + x) % 256=x:=by omega
    have e2:(y * 256 + x) / 256=y:=by omega
    rw [e1,e2]
   ·simp only [Cx.unit,Cx.wv,Cx.lowOf,show ¬ ((3:Int)=2) from by decide,show ¬ ((1:Int)=0) from by decide,if_false,List.getElem?_cons_succ,List.getElem?_cons_zero,Option.getD_some,List.take_succ_cons,List.take_zero]
    have e1:(x * 256 + y) % 256=y:=by omega
    have e2:(x * 256 + y) / 256=x:=by omega
    rw [e1,e2]
theorem Cx.back2 (enc:Int) (b:List Int) (hb:Byt b) (hn:b≠[]) (he:enc=2∨enc=3):Cx.fits enc (Cx.first16 (Cx.lowOf enc) b).1=true∧Cx.put enc (Cx.first16 (Cx.lowOf enc) b).1=b.take (Cx.first16 (Cx.lowOf enc) b).2.toNat:=by
 have h0:=hb.at 0
 change 0≤Cx.c0 b∧Cx.c0 b≤255 at h0
 have hp:0 < b.length:=List.length_pos_iff.2 hn
 have ft:∀ a:Int,-256≤a→a≤1114111→Cx.fits enc a=true:=by
  intro a h1 h2
  unfold Cx.fits
  rw [if_neg (by omega),if_pos he];simp;omega
 unfold Cx.first16
 by_cases h1:b.length=1
 ·rw [if_pos h1]
  refine ⟨ft _ (by simp only;omega) (by simp only;omega),?_⟩
  unfold Cx.put
  rw [if_pos (by simp only;omega)]
  show [-1 - (-1 - Cx.c0 b)]=b.take 1
  rw [Cx.c0_take b hn]
  congr 1;omega
 ·rw [if_neg h1]
  have hu:=Cx.wv_bd (Cx.lowOf enc) b hb
  have hw:=Cx.unit_wv enc b hb (by omega) he
  cases hP:Cx.isP (Cx.lowOf enc) b
  ·rw [if_neg (by simp)]
   refine ⟨ft _ (by simp only;omega) (by simp only;omega),?_⟩
   unfold Cx.put
   rw [if_neg (by simp only;omega),if_neg (by omega),if_neg (by omega),if_neg (by simp only;omega)]
   exact hw
  ·rw [if_pos rfl]
   unfold Cx.isP Cx.hiU Cx.loU at hP
   simp only [Bool.and_eq_true,decide_eq_true_eq] at hP
   obtain ⟨⟨h4,h5,h6⟩,h7,h8⟩:=hP
   have hw2:=Cx.unit_wv enc (b.drop 2) (hb.drop 2) (by rw [List.length_drop];omega) he
   have hpv:Cx.pairV (Cx.lowOf enc) b=65536 + (Cx.wv (Cx.lowOf enc) b - 55296) * 1024 + (Cx.wv (Cx.lowOf enc) (b.drop 2) - 56320):=rfl
   generalize Cx.pairV (Cx.lowOf enc) b=p at *
   refine ⟨ft _ (by simp only;omega) (by simp only;omega),?_⟩
   unfold Cx.put
   rw [if_neg (by simp only;omega),if_neg (by omega),if_neg (by omega),if_pos (by simp only;omega)]
   simp only
   rw [show 55296 + (p - 65536) / 1024=Cx.wv (Cx.lowOf enc) b from by omega,show 56320 + p % 1024=Cx.wv (Cx.lowOf enc) (b.drop 2) from by omega,hw,hw2]
   show b.take 2 ++ (b.drop 2).take 2=b.take (2 + 2)
   rw [List.take_add]
theorem Cx.back (enc:Int) (b:List Int) (hb:Byt b) (hn:b≠[]) (he:enc=1∨enc=2∨enc=3∨enc=4):Cx.fits enc (Cx.fst enc b).1=true∧Cx.put enc (Cx.fst enc b).1=b.take (Cx.fst enc b).2.toNat:=by
 rcases he with rfl | rfl | rfl | rfl
 ·exact Cx.back1 b hb hn
 ·exact Cx.back2 2 b hb hn (.inl rfl)
 ·exact Cx.back2 3 b hb hn (.inr rfl)
 ·have h0:=hb.at 0
  change 0≤Cx.c0 b∧Cx.c0 b≤255 at h0
  refine ⟨?_,?_⟩
  ·show Cx.fits 4 (Cx.c0 b)=true
   unfold Cx.fits;simp;omega
  ·show Cx.put 4 (Cx.c0 b)=b.take 1
   unfold Cx.put;rw [if_neg (by omega),Cx.c0_take b hn];rfl
theorem Cx.back_all (enc:Int) (he:enc=1∨enc=2∨enc=3∨enc=4):∀ (m:Nat) (b:List Int),b.length≤m→Byt b→Cx.encB enc (Cx.dec enc b)=b∧∀ a ∈ Cx.dec enc b,Cx.fits enc a=true:=by
 intro m
 induction m with
 | zero =>
   intro b h _
   have:b=[]:=List.length_eq_zero_iff.1 (by omega)
   subst this
   rw [Cx.dec_nil]
   exact ⟨rfl,by simp⟩
 | succ m ih =>
   intro b h hb
   by_cases hn:b=[]
   ·subst hn
    rw [Cx.dec_nil]
    exact ⟨rfl,by simp⟩
   ·have hbd:=Cx.fst_bd enc b hn
    obtain ⟨hf,hp⟩:=Cx.back enc b hb hn he
    have e:Cx.fst enc b=((Cx.fst enc b).1,((Cx.fst enc b).2.toNat:Int)):=Prod.ext rfl (by simp only;omega)
    rw [Cx.dec_cons enc b hn _ _ e]
    obtain ⟨i1,i2⟩:=ih (b.drop (Cx.fst enc b).2.toNat) (by rw [List.length_drop];omega) (hb.drop _)
    refine ⟨?_,?_⟩
    ·unfold Cx.encB at i1 ⊢
     rw [List.flatMap_cons,i1,hp,List.take_append_drop]
    ·intro a ha
     rcases List.mem_cons.1 ha with rfl | ha
     ·exact hf
     ·exact i2 a ha
end Go.Proofs.YtjjfakokakamaaaGreat

namespace Go.Proofs.YtjjfakokakamaaaGreat
open Go.RowKit
def Cx.tl (zs:List Int) (s:Nat):List Int:=zs.drop (zs.length - s)
def Cx.lh (zs:List Int) (s:Nat):Bool:=decide (s≤zs.length) && decide (Cx.mtch (Cx.tl zs s)=s)
def Cx.lb (zs:List Int):Int:=zs[zs.length - 1]?.getD 0
def Cx.lst8 (zs:List Int):Int × Int :=
 if Cx.lh zs 1=true then (Cx.val (Cx.tl zs 1),1) else if Cx.lh zs 2=true then (Cx.val (Cx.tl zs 2),2)
 else if Cx.lh zs 3=true then (Cx.val (Cx.tl zs 3),3) else if Cx.lh zs 4=true then (Cx.val (Cx.tl zs 4),4) else (-1 - Cx.lb zs,1)
theorem Cx.lst8_hit (zs:List Int) (k:Nat) (h1:1≤k) (h4:k≤4) (hh:Cx.lh zs k=true) (hn:∀ j,1≤j→j < k→Cx.lh zs j=false):Cx.lst8 zs=(Cx.val (Cx.tl zs k),(k:Int)):=by
 have e:k=1∨k=2∨k=3∨k=4:=by omega
 unfold Cx.lst8
 rcases e with rfl | rfl | rfl | rfl
 ·rw [if_pos hh];rfl
 ·rw [if_neg (by rw [hn 1 (by omega) (by omega)];simp),if_pos hh];rfl
 ·rw [if_neg (by rw [hn 1 (by omega) (by omega)];simp),if_neg (by rw [hn 2 (by omega) (by omega)];simp),if_pos hh];rfl
 ·rw [if_neg (by rw [hn 1 (by omega) (by omega)];simp),if_neg (by rw [hn 2 (by omega) (by omega)];simp),if_neg (by rw [hn 3 (by omega) (by omega)];simp),if_pos hh];rfl
theorem Cx.lst8_none (zs:List Int) (hn:∀ j,1≤j→j≤4→Cx.lh zs j=false):Cx.lst8 zs=(-1 - Cx.lb zs,1):=by
 unfold Cx.lst8
 rw [if_neg (by rw [hn 1 (by omega) (by omega)];simp),if_neg (by rw [hn 2 (by omega) (by omega)];simp),if_neg (by rw [hn 3 (by omega) (by omega)];simp),if_neg (by rw [hn 4 (by omega) (by omega)];simp)]
theorem Cx.lh_long (zs:List Int) (j:Nat) (h:zs.length < j):Cx.lh zs j=false:=by unfold Cx.lh;rw [decide_eq_false (by omega)];rfl
theorem Cx.tl_len (zs:List Int) (s:Nat) (h:s≤zs.length):(Cx.tl zs s).length=s:=by unfold Cx.tl;rw [List.length_drop];omega
set_option maxRecDepth 100000 in
set_option maxHeartbeats 1000000 in
theorem last8_any (v:Value) (zs:List Int) (w:World) (h:Rd .u8 w v zs) (hb:Byt zs) (hn:zs≠[]) :
  Calls Tryz.prog 173 #[.agg #[],v] w fun e w'=>e=.returned (.tuple #[.int .i64 (Cx.lst8 zs).1,.int .i64 (Cx.lst8 zs).2])∧Below w.heap.size w w':=by
 have HR:Hid (Rd .u8 w v zs):=h
 have HB:Hid (Byt zs):=hb
 have hlen:=h.len
 have hbl':=hb.at (zs.length - 1)
 change 0≤Cx.lb zs∧Cx.lb zs≤255 at hbl'
 obtain ⟨ao,cap,rfl,hl,hm,hc⟩:=h
 obtain ⟨b,off,rfl,hbl,hc⟩:=hc hn
 have hpos:0 < zs.length:=List.length_pos_iff.2 hn
 have hlast:=hc (zs.length - 1) (by omega)
 change w.cell? ⟨b,off + (zs.length - 1),none⟩=some (.int .u8 (Cx.lb zs)) at hlast
 have HH:Hid (∀ k:Nat,1≤k→k≤4→Cx.lh zs k=true→(∀ j,1≤j→j < k→Cx.lh zs j=false)→Cx.lst8 zs=(Cx.val (Cx.tl zs k),(k:Int))):=Cx.lst8_hit zs
 have HN:Hid ((∀ j,1≤j→j≤4→Cx.lh zs j=false)→Cx.lst8 zs=(-1 - Cx.lb zs,1)):=Cx.lst8_none zs
 clear hn hc hm hb
 go_enter Tryz.func173,Tryz.ntmps173
 go_wp2_with fail
 go_loopw [6] (fun i wr=>∃ k:Nat,1≤k∧k≤5∧i=.int .i64 k∧Hid (∀ j,1≤j→j < k→Cx.lh zs j=false)∧Below w.heap.size w wr) (fun i _=>5 - (intOf i).toNat)
 case atStart=>exact ⟨1,Nat.le_refl _,by omega,rfl,fun j h1 h2=>by omega,(Below.refl _ _).alloc (Nat.le_refl _) _⟩
 case round =>
  obtain ⟨k,hk1,hk2,rfl,HJ,hbw⟩:=hrel
  have HBW:Hid (Below w.heap.size w wr):=hbw
  by_cases hin:k≤4∧k≤zs.length
  ·obtain ⟨hin1,hin2⟩:=hin
   have HT:Hid (Rd .u8 w (.slice (some ⟨b,off + (zs.length - k),none⟩) k (cap - (zs.length - k))) (Cx.tl zs k)):=by
    have:=HR.out.cut (n:=zs.length - k) (by omega)
    rwa [show zs.length - (zs.length - k)=k from by omega] at this
   have HTB:Hid (Byt (Cx.tl zs k)):=HB.out.drop _
   have HTN:Hid (Cx.tl zs k≠[]):=List.length_pos_iff.1 (by rw [Cx.tl_len zs k hin2];omega)
   have HK:Hid (Cx.lh zs k=false→∀ j,1≤j→j < k + 1→Cx.lh zs j=false):=fun hh j h1 h2=>by
    by_cases hj:j=k
    ·rw [hj];exact hh
    ·exact HJ.out j h1 (by omega)
   have HE:Hid (Cx.lh zs k=decide (Cx.mtch (Cx.tl zs k)=k)):=by unfold Hid Cx.lh;rw [decide_eq_true hin2,Bool.true_and]
   have HF:Hid (Cx.lh zs k=true→Cx.lst8 zs=(Cx.val (Cx.tl zs k),(k:Int))):=fun hh=>HH.out k hk1 hin1 hh HJ.out
   have hcne:¬ cap=zs.length - k:=by omega
   have hlk:zs.length - (zs.length - k)=k:=by omega
   have HWH:Hid (Cx.mtch (Cx.tl zs k)=k→Cx.Whole (Cx.tl zs k)):=fun hm=>by
    have:=Cx.whole_of (Cx.tl zs k) HTB.out (by omega) (by rw [Cx.tl_len zs k hin2];omega)
    rwa [hm,Int.toNat_natCast,List.take_of_length_le (by rw [Cx.tl_len zs k hin2];exact Nat.le_refl _)] at this
   clear HH HN HJ hbw hlast
   go_wp2_with fail
   refine (match_any _ (Cx.tl zs k) _ (HT.out.ext HBW.out) HTB.out HTN.out).mono ?_
   rintro e w1 ⟨rfl,hw1⟩
   subst hw1
   by_cases hm:Cx.mtch (Cx.tl zs k)=k
   ·have hq:(Cx.mtch (Cx.tl zs k) == (k:Int))=true:=by rw [hm];simp
    have HL:Hid (Cx.lst8 zs=(Cx.val (Cx.tl zs k),(k:Int))):=HF.out (by rw [HE.out,decide_eq_true hm])
    have HW:Hid (Cx.Whole (Cx.tl zs k)):=HWH.out hm
    clear HK HF HE HWH hm
    go_wp2_with fail
    refine (scalar_any _ _ _ (HT.out.ext HBW.out) HW.out).mono ?_
    rintro e w2 ⟨rfl,hb2⟩
    go_wp2
    go_ret2
    exact ⟨by rw [HL.out];rfl,ext_trans HBW.out hb2⟩
   ·have hq:(Cx.mtch (Cx.tl zs k) == (k:Int))=false:=by rw [beq_eq_false_iff_ne];exact hm
    have HX:Hid (∀ j,1≤j→j < k + 1→Cx.lh zs j=false):=HK.out (by rw [HE.out,decide_eq_false hm])
    clear HK HF HE HWH hm
    go_wp2_with fail
    go_roundw
    case rel=>exact ⟨k + 1,by omega,by omega,by go_num,HX.out,HBW.out⟩
    case measure=>simp [intOf];omega
  ·have HL:Hid (Cx.lst8 zs=(-1 - Cx.lb zs,1)):=HN.out fun j h1 h4=>by
    by_cases hj:j < k
    ·exact HJ.out j h1 hj
    ·exact Cx.lh_long zs j (by omega)
   have hcx:wr.cell? ⟨b,off + (zs.length - 1),none⟩=some (.int .u8 (Cx.lb zs)):=(hbw.cell (p:=⟨b,off + (zs.length - 1),none⟩) hbl).trans hlast
   clear HH HN HJ hbw hlast
   by_cases hin1:k≤4
   ·have hin2:zs.length < k:=by omega
    clear hin
    go_wp2_with fail
    refine (rawAtom_any _ _ hbl'.1 hbl'.2).mono ?_
    rintro e w1 ⟨rfl,hw1⟩
    subst hw1
    go_wp2
    go_ret2
    exact ⟨by rw [HL.out];rfl,HBW.out⟩
   ·clear hin
    go_wp2_with fail
    refine (rawAtom_any _ _ hbl'.1 hbl'.2).mono ?_
    rintro e w1 ⟨rfl,hw1⟩
    subst hw1
    go_wp2
    go_ret2
    exact ⟨by rw [HL.out];rfl,HBW.out⟩
theorem last4_any (v:Value) (zs:List Int) (w:World) (h:Rd .u8 w v zs) (hb:Byt zs) (hn:zs≠[]) :
  Calls Tryz.prog 200 #[.agg #[],v] w fun e w'=>e=.returned (.tuple #[.int .i64 (Cx.lb zs),.int .i64 1])∧Below w.heap.size w w':=by
 have hlen:=h.len
 have hbl':=hb.at (zs.length - 1)
 change 0≤Cx.lb zs∧Cx.lb zs≤255 at hbl'
 obtain ⟨ao,cap,rfl,hl,hm,hc⟩:=h
 obtain ⟨b,off,rfl,hbl,hc⟩:=hc hn
 have hpos:0 < zs.length:=List.length_pos_iff.2 hn
 have hlast:=hc (zs.length - 1) (by omega)
 change w.cell? ⟨b,off + (zs.length - 1),none⟩=some (.int .u8 (Cx.lb zs)) at hlast
 have hlast':∀ o:Obj,(w.alloc o).cell? ⟨b,off + (zs.length - 1),none⟩=some (.int .u8 (Cx.lb zs)):=fun o=>((Below.refl w.heap.size w).alloc (Nat.le_refl _) o |>.cell (p:=⟨b,off + (zs.length - 1),none⟩) hbl).trans hlast
 clear hn hc hm hb hlast
 go_enter Tryz.func200,Tryz.ntmps200
 go_wp2
 go_ret2
 exact ⟨rfl,(Below.refl _ _).alloc (Nat.le_refl _) _⟩
end Go.Proofs.YtjjfakokakamaaaGreat

namespace Go.Proofs.YtjjfakokakamaaaGreat
open Go.RowKit
def Cx.lst16 (k:Int) (zs:List Int):Int × Int :=
 if zs.length % 2=1 then (-1 - Cx.lb zs,1) else if 4≤zs.length∧Cx.isP k (Cx.tl zs 4)=true then (Cx.pairV k (Cx.tl zs 4),4) else (Cx.wv k (Cx.tl zs 2),2)
theorem Rd.tail {w:World} {b off cap:Nat} {zs:List Int} (h:Rd .u8 w (.slice (some ⟨b,off,none⟩) zs.length cap) zs) (s:Nat) (hs:s≤zs.length):Rd .u8 w (.slice (some ⟨b,off + (zs.length - s),none⟩) s (cap - (zs.length - s))) (Cx.tl zs s):=by
 have:=h.cut (n:=zs.length - s) (by omega)
 rwa [show zs.length - (zs.length - s)=s from by omega] at this
set_option maxRecDepth 100000 in
set_option maxHeartbeats 1000000 in
theorem last16_any (k:Int) (v:Value) (zs:List Int) (w:World) (h:Rd .u8 w v zs) (hb:Byt zs) (hk:k=0∨k=1) (hn:zs≠[]) :
  Calls Tryz.prog 188 #[.agg #[.int .i64 k],v] w fun e w'=>e=.returned (.tuple #[.int .i64 (Cx.lst16 k zs).1,.int .i64 (Cx.lst16 k zs).2])∧Below w.heap.size w w':=by
 have HR:Hid (Rd .u8 w v zs):=h
 have HB:Hid (Byt zs):=hb
 have HK:Hid (k=0∨k=1):=hk
 have hlen:=h.len
 have hbl':=hb.at (zs.length - 1)
 change 0≤Cx.lb zs∧Cx.lb zs≤255 at hbl'
 obtain ⟨ao,cap,rfl,hl,hm,hc⟩:=h
 obtain ⟨b,off,rfl,hbl,hc⟩:=hc hn
 have hpos:0 < zs.length:=List.length_pos_iff.2 hn
 have hlast:=hc (zs.length - 1) (by omega)
 change w.cell? ⟨b,off + (zs.length - 1),none⟩=some (.int .u8 (Cx.lb zs)) at hlast
 clear hn hc hm hb hk
 by_cases ho:zs.length % 2=1
 ·have HE:Hid (Cx.lst16 k zs=(-1 - Cx.lb zs,1)):=by unfold Hid Cx.lst16;rw [if_pos ho]
  have hq:((zs.length:Int) % 2 == 1)=true:=by rw [beq_iff_eq];omega
  have hlast':∀ o:Obj,(w.alloc o).cell? ⟨b,off + (zs.length - 1),none⟩=some (.int .u8 (Cx.lb zs)):=fun o=>((Below.refl w.heap.size w).alloc (Nat.le_refl _) o |>.cell (p:=⟨b,off + (zs.length - 1),none⟩) hbl).trans hlast
  clear ho hlast
  go_enter Tryz.func188,Tryz.ntmps188
  go_wp2_with fail
  refine (rawAtom_any _ _ hbl'.1 hbl'.2).mono ?_
  rintro e w1 ⟨rfl,hw1⟩
  subst hw1
  go_wp2
  go_ret2
  exact ⟨by rw [HE.out];rfl,(Below.refl _ _).alloc (Nat.le_refl _) _⟩
 ·have hq:((zs.length:Int) % 2 == 1)=false:=by rw [beq_eq_false_iff_ne];omega
  have h2:2≤zs.length:=by omega
  have HT2:Hid (Rd .u8 w (.slice (some ⟨b,off + (zs.length - 2),none⟩) 2 (cap - (zs.length - 2))) (Cx.tl zs 2)):=HR.out.tail 2 h2
  have HL2:Hid ((Cx.tl zs 2).length=2):=Cx.tl_len zs 2 h2
  have hc2:¬ cap=zs.length - 2:=by omega
  have hl2:zs.length - (zs.length - 2)=2:=by omega
  have ht2:((zs.length:Int) - 2).toNat=zs.length - 2:=by omega
  have hi2:(0:Int)≤(zs.length:Int) - 2:=by omega
  have hj2:(2:Int)≤(zs.length:Int):=by omega
  have hw2:IntKind.i64.wrap ((zs.length:Int) - 2)=(zs.length:Int) - 2:=by rw [IntKind.wrap_i64];omega
  have hi2':(zs.length:Int) - 2≤(zs.length:Int):=by omega
  clear hlast hbl'
  by_cases h4:4≤zs.length
  ·have hd4:decide ((4:Int)≤(zs.length:Int))=true:=by simp;omega
   have HT4:Hid (Rd .u8 w (.slice (some ⟨b,off + (zs.length - 4),none⟩) 4 (cap - (zs.length - 4))) (Cx.tl zs 4)):=HR.out.tail 4 h4
   have HL4:Hid ((Cx.tl zs 4).length=4):=Cx.tl_len zs 4 h4
   have hc4:¬ cap=zs.length - 4:=by omega
   have hl4:zs.length - (zs.length - 4)=4:=by omega
   have ht4:((zs.length:Int) - 4).toNat=zs.length - 4:=by omega
   have hi4:(0:Int)≤(zs.length:Int) - 4:=by omega
   have hj4:(4:Int)≤(zs.length:Int):=by omega
   have hw4:IntKind.i64.wrap ((zs.length:Int) - 4)=(zs.length:Int) - 4:=by rw [IntKind.wrap_i64];omega
   have hi4':(zs.length:Int) - 4≤(zs.length:Int):=by omega
   cases hP:Cx.isP k (Cx.tl zs 4)
   ·have HE:Hid (Cx.lst16 k zs=(Cx.wv k (Cx.tl zs 2),2)):=by unfold Hid Cx.lst16;rw [if_neg ho,if_neg (by rw [hP];simp)]
    clear ho
    go_enter Tryz.func188,Tryz.ntmps188
    go_wp2_with fail
    first | go_region_with (go_at_call 193;refine (isPair_any k _ (Cx.tl zs 4) _ ?_ (HB.out.drop _) HK.out ?_).mono ?_;exact HT4.out.ext ((Below.refl _ _).alloc (Nat.le_refl _) _).drew;(rw [HL4.out];decide);rintro e w1 ⟨rfl,hb1⟩;rw [hP];have hcb:w1.cell? ⟨w.heap.size,0,none⟩=some (.int .i64 k):=(hb1.cell (p:=⟨w.heap.size,0,none⟩) (by simp)).trans (by simp);have HW1:Hid (Below w.heap.size w w1):=ext_trans ((Below.refl w.heap.size w).alloc (Nat.le_refl _) _).drew hb1;clear hb1) | fail
    all_goals go_wp2_with fail
    first | go_region_with (go_at_call 195;refine (unitW_any k _ (Cx.tl zs 2) _ ?_ (HB.out.drop _) HK.out ?_).mono ?_;exact HT2.out.ext (by repeat (first | exact Below.refl _ _ | exact HW1.out | apply below_drewN | refine ext_alloc ?_ _ | apply Below.drew));(rw [HL2.out];decide);rintro e w2 ⟨rfl,n2,rfl⟩) | fail
    all_goals
     go_wp2
     go_ret2
     exact ⟨by rw [HE.out];rfl,(by repeat (first | exact Below.refl _ _ | exact HW1.out | apply below_drewN | refine ext_alloc ?_ _ | apply Below.drew))⟩
   ·have HE:Hid (Cx.lst16 k zs=(Cx.pairV k (Cx.tl zs 4),4)):=by unfold Hid Cx.lst16;rw [if_neg ho,if_pos ⟨h4,hP⟩]
    clear ho
    go_enter Tryz.func188,Tryz.ntmps188
    go_wp2_with fail
    first | go_region_with (go_at_call 193;refine (isPair_any k _ (Cx.tl zs 4) _ ?_ (HB.out.drop _) HK.out ?_).mono ?_;exact HT4.out.ext ((Below.refl _ _).alloc (Nat.le_refl _) _).drew;(rw [HL4.out];decide);rintro e w1 ⟨rfl,hb1⟩;rw [hP];have hcb:w1.cell? ⟨w.heap.size,0,none⟩=some (.int .i64 k):=(hb1.cell (p:=⟨w.heap.size,0,none⟩) (by simp)).trans (by simp);have HW1:Hid (Below w.heap.size w w1):=ext_trans ((Below.refl w.heap.size w).alloc (Nat.le_refl _) _).drew hb1;clear hb1) | fail
    all_goals go_wp2_with fail
    first | go_region_with (go_at_call 194;refine (pair_any k _ (Cx.tl zs 4) _ ?_ (HB.out.drop _) HK.out ?_).mono ?_;exact HT4.out.ext (by repeat (first | exact Below.refl _ _ | exact HW1.out | apply below_drewN | refine ext_alloc ?_ _ | apply Below.drew));(rw [HL4.out];decide);rintro e w2 ⟨rfl,hb2⟩;have HW2:Hid (Below w.heap.size w w2):=ext_trans (by repeat (first | exact Below.refl _ _ | exact HW1.out | apply below_drewN | refine ext_alloc ?_ _ | apply Below.drew)) hb2;clear hb2) | fail
    all_goals
     go_wp2
     go_ret2
     exact ⟨by rw [HE.out];rfl,(by repeat (first | exact HW2.out | apply below_drewN | apply Below.drew))⟩
  ·have HE:Hid (Cx.lst16 k zs=(Cx.wv k (Cx.tl zs 2),2)):=by unfold Hid Cx.lst16;rw [if_neg ho,if_neg (fun hh=>h4 hh.1)]
   have hd4:decide ((4:Int)≤(zs.length:Int))=false:=by simp;omega
   clear ho
   go_enter Tryz.func188,Tryz.ntmps188
   go_wp2
   go_quiet (fail)
   go_wp2_with fail
   first | go_region_with (go_at_call 195;refine (unitW_any k _ (Cx.tl zs 2) _ ?_ (HB.out.drop _) HK.out ?_).mono ?_;exact HT2.out.ext (by repeat (first | exact Below.refl _ _ | apply below_drewN | refine ext_alloc ?_ _ | apply Below.drew));(rw [HL2.out];decide);rintro e w2 ⟨rfl,n2,rfl⟩) | fail
   all_goals
    go_wp2
    go_ret2
    exact ⟨by rw [HE.out];rfl,(by repeat (first | exact Below.refl _ _ | apply below_drewN | refine ext_alloc ?_ _ | apply Below.drew))⟩
end Go.Proofs.YtjjfakokakamaaaGreat

namespace Go.Proofs.YtjjfakokakamaaaGreat
theorem Cx.lb_drop (zs:List Int) (n:Nat) (h:n < zs.length):Cx.lb (zs.drop n)=Cx.lb zs:=by
 unfold Cx.lb
 rw [List.getElem?_drop,List.length_drop,show n + (zs.length - n - 1)=zs.length - 1 from by omega]
theorem Cx.tl_drop (zs:List Int) (n s:Nat) (h:s + n≤zs.length):Cx.tl (zs.drop n) s=Cx.tl zs s:=by
 unfold Cx.tl
 rw [List.drop_drop,List.length_drop,show n + (zs.length - n - s)=zs.length - s from by omega]
theorem Cx.tl_all (zs:List Int):Cx.tl zs zs.length=zs:=by unfold Cx.tl;rw [Nat.sub_self];rfl
theorem Cx.cont_no (b:List Int) (h:128≤Cx.c0 b) (h':Cx.c0 b≤191):Cx.mtch b=0:=by
 have r:Cx.rowN (Cx.c0 b)=0:=by unfold Cx.rowN;rw [if_neg (by omega),if_pos (by omega)]
 rw [Cx.mtch_eq,r];split <;> rfl
theorem Cx.row_cont (b:List Int) (hb:Byt b) (h0:0 < Cx.mtch b) (hl:Cx.mtch b≤b.length) (q:Nat) (h1:1≤q) (h2:(q:Int) < Cx.mtch b):128≤Cx.c0 (b.drop q)∧Cx.c0 (b.drop q)≤191:=by
 have hw:=Cx.whole_of b hb h0 hl
 have hbd:=Cx.mtch_bd b
 have e:Cx.c0 (b.drop q)=(b.take (Cx.mtch b).toNat)[q]?.getD 0:=by
  unfold Cx.c0;rw [List.getElem?_drop,Nat.add_zero,List.getElem?_take,if_pos (by omega)]
 have hlen:(b.take (Cx.mtch b).toNat).length=(Cx.mtch b).toNat:=by rw [List.length_take];omega
 rw [e]
 rcases hw with ⟨x,e,r⟩ | ⟨x,y,e,r⟩ | ⟨x,y,z,e,r⟩ | ⟨x,y,z,u,e,r⟩
 ·rw [e] at hlen;simp at hlen;omega
 ·rw [e] at hlen ⊢;simp at hlen
  obtain rfl:q=1:=by omega
  simp;omega
 ·rw [e] at hlen ⊢;simp at hlen
  have:q=1∨q=2:=by omega
  rcases this with rfl | rfl <;> simp <;> omega
 ·rw [e] at hlen ⊢;simp at hlen
  have:q=1∨q=2∨q=3:=by omega
  rcases this with rfl | rfl | rfl <;> simp <;> omega
theorem Cx.lh_false (zs:List Int) (s:Nat) (h:s≤zs.length→Cx.mtch (Cx.tl zs s)≠s):Cx.lh zs s=false:=by
 unfold Cx.lh
 by_cases hs:s≤zs.length
 ·rw [decide_eq_false (h hs),Bool.and_false]
 ·rw [decide_eq_false hs,Bool.false_and]
theorem Cx.fst8_cases (b:List Int):(0 < Cx.mtch b∧Cx.mtch b≤b.length∧Cx.first8 b=(Cx.val (b.take (Cx.mtch b).toNat),Cx.mtch b))∨(¬ (0 < Cx.mtch b∧Cx.mtch b≤b.length)∧Cx.first8 b=(-1 - Cx.c0 b,1)):=by
 by_cases h:0 < Cx.mtch b∧Cx.mtch b≤b.length
 ·exact .inl ⟨h.1,h.2,by unfold Cx.first8;rw [if_pos h]⟩
 ·exact .inr ⟨h,by unfold Cx.first8;rw [if_neg h]⟩
theorem Cx.last8_one (b:List Int) (hb:Byt b) (hn:b≠[]) (h:(Cx.first8 b).2=b.length):Cx.lst8 b=Cx.first8 b:=by
 have hp:0 < b.length:=List.length_pos_iff.2 hn
 have hbd:=Cx.mtch_bd b
 rcases Cx.fst8_cases b with ⟨h0,hl,e⟩ | ⟨hno,e⟩
 ·rw [e] at h ⊢
  simp only at h
  have ek:b.length=(Cx.mtch b).toNat:=by omega
  have ht:Cx.tl b b.length=b:=Cx.tl_all b
  rw [Cx.lst8_hit b b.length (by omega) (by omega) (by unfold Cx.lh;rw [ht,decide_eq_true (Nat.le_refl _),decide_eq_true h];rfl) (fun j h1 h2=>Cx.lh_false b j fun hj=>?_),ht]
  ·rw [← ek,List.take_length,h]
  ·have:=Cx.row_cont b hb h0 hl (b.length - j) (by omega) (by omega)
   have hz:=Cx.cont_no (b.drop (b.length - j)) this.1 this.2
   unfold Cx.tl;omega
 ·rw [e] at h ⊢
  simp only at h
  have h1:b.length=1:=by omega
  have el:Cx.lb b=Cx.c0 b:=by unfold Cx.lb Cx.c0;rw [h1]
  rw [Cx.lst8_none b (fun j hj1 hj4=>Cx.lh_false b j fun hj=>?_),el]
  obtain rfl:j=1:=by omega
  have ht:Cx.tl b 1=b:=by rw [← h1];exact Cx.tl_all b
  rw [ht]
  intro hm
  exact hno ⟨by omega,by omega⟩
theorem Cx.last8_more (b:List Int) (hb:Byt b) (hn:b≠[]) (n:Nat) (hf:(Cx.first8 b).2=n) (h:n < b.length):Cx.lst8 b=Cx.lst8 (b.drop n):=by
 have hbd:=Cx.mtch_bd b
 have hn1:1≤n:=by
  have:=Cx.fst_bd 1 b hn
  have e:(Cx.fst 1 b).2=n:=hf
  omega
 have hlen:(b.drop n).length=b.length - n:=List.length_drop
 have key:∀ s:Nat,1≤s→s≤4→b.length - n < s→s≤b.length→Cx.mtch (Cx.tl b s)≠s:=by
  intro s h1 h4 h2 h3
  rcases Cx.fst8_cases b with ⟨h0,hl,e⟩ | ⟨hno,e⟩
  ·rw [e] at hf
   simp only at hf
   by_cases hq:b.length - s=0
   ·have:Cx.tl b s=b:=by unfold Cx.tl;rw [hq];rfl
    rw [this];omega
   ·have:=Cx.row_cont b hb h0 hl (b.length - s) (by omega) (by omega)
    have hz:=Cx.cont_no (b.drop (b.length - s)) this.1 this.2
    unfold Cx.tl;omega
  ·rw [e] at hf
   simp only at hf
   have hq:b.length - s=0:=by omega
   have:Cx.tl b s=b:=by unfold Cx.tl;rw [hq];rfl
   rw [this]
   intro hm
   exact hno ⟨by omega,by omega⟩
 have same:∀ s:Nat,1≤s→s≤4→Cx.lh b s=Cx.lh (b.drop n) s:=by
  intro s h1 h4
  by_cases hs:s≤b.length - n
  ·unfold Cx.lh
   rw [Cx.tl_drop b n s (by omega),decide_eq_true (by omega:s≤b.length),decide_eq_true (by omega:s≤(b.drop n).length)]
  ·rw [Cx.lh_long (b.drop n) s (by omega)]
   exact Cx.lh_false b s fun hj=>key s h1 h4 (by omega) hj
 have vs:∀ s:Nat,1≤s→s≤4→Cx.lh b s=true→Cx.tl b s=Cx.tl (b.drop n) s:=by
  intro s h1 h4 hh
  rw [same s h1 h4] at hh
  unfold Cx.lh at hh
  simp only [Bool.and_eq_true,decide_eq_true_eq] at hh
  rw [Cx.tl_drop b n s (by omega)]
 unfold Cx.lst8
 rw [← same 1 (by omega) (by omega),← same 2 (by omega) (by omega),← same 3 (by omega) (by omega),← same 4 (by omega) (by omega),Cx.lb_drop b n h]
 cases g1:Cx.lh b 1
 ·cases g2:Cx.lh b 2
  ·cases g3:Cx.lh b 3
   ·cases g4:Cx.lh b 4
    ·rfl
    ·rw [vs 4 (by omega) (by omega) g4];rfl
   ·rw [vs 3 (by omega) (by omega) g3];rfl
  ·rw [vs 2 (by omega) (by omega) g2];rfl
 ·rw [vs 1 (by omega) (by omega) g1];rfl
theorem Cx.fst16_cases (k:Int) (b:List Int):(b.length=1∧Cx.first16 k b=(-1 - Cx.c0 b,1))∨(b.length≠1∧Cx.isP k b=true∧Cx.first16 k b=(Cx.pairV k b,4))∨(b.length≠1∧Cx.isP k b=false∧Cx.first16 k b=(Cx.wv k b,2)):=by
 unfold Cx.first16
 by_cases h:b.length=1
 ·exact .inl ⟨h,by rw [if_pos h]⟩
 ·cases hp:Cx.isP k b
  ·exact .inr (.inr ⟨h,rfl,by rw [if_neg h,if_neg (by simp)]⟩)
  ·exact .inr (.inl ⟨h,rfl,by rw [if_neg h,if_pos rfl]⟩)
theorem Cx.isP_len (k:Int) (b:List Int) (h:Cx.isP k b=true):4≤b.length∧Cx.hiU (Cx.wv k b)=true∧Cx.loU (Cx.wv k (b.drop 2))=true:=by
 unfold Cx.isP at h
 simp only [Bool.and_eq_true,decide_eq_true_eq] at h
 exact ⟨h.1.1,h.1.2,h.2⟩
theorem Cx.hi_lo (a:Int) (h:Cx.loU a=true):Cx.hiU a=false:=by
 unfold Cx.loU at h;unfold Cx.hiU
 simp at h ⊢;omega
theorem Cx.last16_one (k:Int) (b:List Int) (hn:b≠[]) (h:(Cx.first16 k b).2=b.length):Cx.lst16 k b=Cx.first16 k b:=by
 have hp:0 < b.length:=List.length_pos_iff.2 hn
 rcases Cx.fst16_cases k b with ⟨h1,e⟩ | ⟨h1,hP,e⟩ | ⟨h1,hP,e⟩
 ·have el:Cx.lb b=Cx.c0 b:=by unfold Cx.lb Cx.c0;rw [h1]
  rw [e];unfold Cx.lst16;rw [if_pos (by omega),el]
 ·rw [e] at h ⊢
  simp only at h
  have h4:b.length=4:=by omega
  have ht:Cx.tl b 4=b:=by rw [← h4];exact Cx.tl_all b
  unfold Cx.lst16;rw [if_neg (by omega),ht,if_pos ⟨by omega,hP⟩]
 ·rw [e] at h ⊢
  simp only at h
  have h2:b.length=2:=by omega
  have ht:Cx.tl b 2=b:=by rw [← h2];exact Cx.tl_all b
  unfold Cx.lst16;rw [if_neg (by omega),if_neg (by omega),ht]
theorem Cx.last16_more (k:Int) (b:List Int) (n:Nat) (hf:(Cx.first16 k b).2=n) (h:n < b.length):Cx.lst16 k b=Cx.lst16 k (b.drop n):=by
 have hlen:(b.drop n).length=b.length - n:=List.length_drop
 rcases Cx.fst16_cases k b with ⟨h1,e⟩ | ⟨h1,hP,e⟩ | ⟨h1,hP,e⟩
 ·rw [e] at hf;simp only at hf;omega
 ·obtain ⟨h4,hh,hl⟩:=Cx.isP_len k b hP
  rw [e] at hf
  simp only at hf
  obtain rfl:n=4:=by omega
  unfold Cx.lst16
  rw [hlen,Cx.lb_drop b 4 h]
  by_cases ho:b.length % 2=1
  ·rw [if_pos ho,if_pos (by omega)]
  ·have ho4:¬ (b.length - 4) % 2=1:=by omega
   rw [if_neg ho,if_neg ho4,Cx.tl_drop b 4 2 (by omega)]
   by_cases h8:8≤b.length
   ·rw [Cx.tl_drop b 4 4 (by omega)]
    by_cases hc:Cx.isP k (Cx.tl b 4)=true
    ·rw [if_pos ⟨by omega,hc⟩,if_pos ⟨by omega,hc⟩]
    ·rw [if_neg (fun hh=>hc hh.2),if_neg (fun hh=>hc hh.2)]
   ·have h6:b.length=6:=by omega
    have hx:¬ (4≤b.length∧Cx.isP k (Cx.tl b 4)=true):=?_
    ·rw [if_neg hx,if_neg (fun hh=>by omega)]
    rintro ⟨_,hc⟩
    have:=(Cx.isP_len k _ hc).2.1
    have et:Cx.tl b 4=b.drop 2:=by unfold Cx.tl;rw [h6]
    rw [et,Cx.hi_lo _ hl] at this
    cases this
 ·rw [e] at hf
  simp only at hf
  obtain rfl:n=2:=by omega
  unfold Cx.lst16
  rw [hlen,Cx.lb_drop b 2 h]
  by_cases ho:b.length % 2=1
  ·rw [if_pos ho,if_pos (by omega)]
  ·have ho2:¬ (b.length - 2) % 2=1:=by omega
   rw [if_neg ho,if_neg ho2,Cx.tl_drop b 2 2 (by omega)]
   by_cases h6:6≤b.length
   ·rw [Cx.tl_drop b 2 4 (by omega)]
    by_cases hc:Cx.isP k (Cx.tl b 4)=true
    ·rw [if_pos ⟨by omega,hc⟩,if_pos ⟨by omega,hc⟩]
    ·rw [if_neg (fun hh=>hc hh.2),if_neg (fun hh=>hc hh.2)]
   ·have h4:b.length=4:=by omega
    have ht:Cx.tl b 4=b:=by rw [← h4];exact Cx.tl_all b
    have hx:¬ (4≤b.length∧Cx.isP k (Cx.tl b 4)=true):=?_
    ·rw [if_neg hx,if_neg (fun hh=>by omega)]
    rintro ⟨_,hc⟩
    rw [ht,hP] at hc
    cases hc
def Cx.lst (enc:Int) (zs:List Int):Int × Int:=if enc=1 then Cx.lst8 zs else if enc=2 then Cx.lst16 0 zs else if enc=3 then Cx.lst16 1 zs else (Cx.lb zs,1)
theorem Cx.last_one (enc:Int) (b:List Int) (hb:Byt b) (hn:b≠[]) (he:enc=1∨enc=2∨enc=3∨enc=4) (h:(Cx.fst enc b).2=b.length):Cx.lst enc b=Cx.fst enc b:=by
 rcases he with rfl | rfl | rfl | rfl
 ·exact Cx.last8_one b hb hn h
 ·exact Cx.last16_one 0 b hn h
 ·exact Cx.last16_one 1 b hn h
 ·have h1:(1:Int)=b.length:=h
  show (Cx.lb b,(1:Int))=(Cx.c0 b,1)
  have:b.length=1:=by omega
  unfold Cx.lb Cx.c0;rw [this]
theorem Cx.last_more (enc:Int) (b:List Int) (hb:Byt b) (hn:b≠[]) (he:enc=1∨enc=2∨enc=3∨enc=4) (n:Nat) (hf:(Cx.fst enc b).2=n) (h:n < b.length):Cx.lst enc b=Cx.lst enc (b.drop n):=by
 rcases he with rfl | rfl | rfl | rfl
 ·exact Cx.last8_more b hb hn n hf h
 ·exact Cx.last16_more 0 b n hf h
 ·exact Cx.last16_more 1 b n hf h
 ·show (Cx.lb b,(1:Int))=(Cx.lb (b.drop n),1)
  rw [Cx.lb_drop b n h]
end Go.Proofs.YtjjfakokakamaaaGreat

namespace Go.Proofs.YtjjfakokakamaaaGreat
open Go.RowKit
theorem Cx.hit_take (b:List Int) (k M:Nat) (hk:k≤M):Cx.hitB (b.take M) k=Cx.hitB b k:=by
 have ht:(b.take M).take k=b.take k:=by rw [List.take_take,Nat.min_eq_left hk]
 rw [Bool.eq_iff_iff,Cx.hitB_iff (b.take M) k _ rfl,Cx.hitB_iff b k _ rfl,ht]
 constructor
 ·rintro ⟨g1,g2,g3,g4⟩
  rw [List.length_take] at g1
  rw [List.isPrefixOf_iff_prefix] at g4 ⊢
  exact ⟨by omega,g2,g3,g4.trans (List.take_prefix M b)⟩
 ·rintro ⟨g1,g2,g3,g4⟩
  rw [List.isPrefixOf_iff_prefix] at g4 ⊢
  exact ⟨by rw [List.length_take];omega,g2,g3,List.prefix_take_iff.2 ⟨g4,by omega⟩⟩
theorem Cx.c0_take' (b:List Int) (M:Nat) (h:0 < M):Cx.c0 (b.take M)=Cx.c0 b:=by
 unfold Cx.c0;rw [List.getElem?_take_of_lt h]
theorem Cx.first8_take (b:List Int) (hb:Byt b) (M:Nat) (h:(Cx.first8 b).2≤M):Cx.first8 (b.take M)=Cx.first8 b:=by
 have hbd:=Cx.mtch_bd b
 rcases Cx.fst8_cases b with ⟨h0,hl,e⟩ | ⟨hno,e⟩
 ·rw [e] at h
  simp only at h
  obtain ⟨k,hk⟩:∃ k:Nat,Cx.mtch b=k:=⟨(Cx.mtch b).toNat,by omega⟩
  have hh:Cx.hitB b k=true:=(Cx.hit_iff b hb k (by omega) (by omega)).2 ⟨hk,by omega⟩
  rw [Cx.first8_hit b hb k (by omega) (by omega) hh,Cx.first8_hit (b.take M) (hb.take M) k (by omega) (by omega) (by rw [Cx.hit_take b k M (by omega)];exact hh),List.take_take,Nat.min_eq_left (by omega)]
 ·rw [e] at h
  simp only at h
  have hM:0 < M:=by omega
  rw [e,Cx.first8_none (b.take M) (hb.take M),Cx.c0_take' b M hM]
  intro k h1 h4 hkl
  rw [List.length_take] at hkl
  rw [Cx.hit_take b k M (by omega)]
  cases hh:Cx.hitB b k
  ·rfl
  ·have:=(Cx.hit_iff b hb k h1 h4).1 hh
   exact absurd ⟨by omega,by omega⟩ hno
theorem Cx.wv_take (k:Int) (b:List Int) (M:Nat) (h:2≤M):Cx.wv k (b.take M)=Cx.wv k b:=by
 unfold Cx.wv
 simp only [List.getElem?_take_of_lt (show 0 < M by omega),List.getElem?_take_of_lt (show 1 < M by omega)]
theorem Cx.isP_take (k:Int) (b:List Int) (M:Nat) (h4:4≤M):Cx.isP k (b.take M)=Cx.isP k b:=by
 unfold Cx.isP
 rw [Cx.wv_take k b M (by omega),List.drop_take,Cx.wv_take k (b.drop 2) (M - 2) (by omega),List.length_take]
 congr 2
 rw [decide_eq_decide];omega
theorem Cx.first16_take (k:Int) (b:List Int) (hn:b≠[]) (M:Nat) (h:(Cx.first16 k b).2≤M):Cx.first16 k (b.take M)=Cx.first16 k b:=by
 have hp:0 < b.length:=List.length_pos_iff.2 hn
 rcases Cx.fst16_cases k b with ⟨h1,e⟩ | ⟨h1,hP,e⟩ | ⟨h1,hP,e⟩
 ·rw [e] at h
  simp only at h
  rw [List.take_of_length_le (by omega)]
 ·rw [e] at h
  simp only at h
  have:=(Cx.isP_len k b hP).1
  have hP':Cx.isP k (b.take M)=true:=by rw [Cx.isP_take k b M (by omega)];exact hP
  rw [e]
  unfold Cx.first16
  rw [if_neg (by rw [List.length_take];omega),if_pos hP']
  unfold Cx.pairV
  rw [Cx.wv_take k b M (by omega),List.drop_take,Cx.wv_take k (b.drop 2) (M - 2) (by omega)]
 ·rw [e] at h
  simp only at h
  have hP':Cx.isP k (b.take M)=false:=by
   by_cases h4:4≤M
   ·rw [Cx.isP_take k b M h4];exact hP
   ·unfold Cx.isP
    rw [decide_eq_false (by rw [List.length_take];omega)];rfl
  rw [e]
  unfold Cx.first16
  rw [if_neg (by rw [List.length_take];omega),if_neg (by rw [hP'];simp),Cx.wv_take k b M (by omega)]
theorem Cx.fst_take (enc:Int) (b:List Int) (hb:Byt b) (hn:b≠[]) (M:Nat) (h:(Cx.fst enc b).2≤M):Cx.fst enc (b.take M)=Cx.fst enc b:=by
 unfold Cx.fst at h ⊢
 split
 ·rename_i h1;rw [if_pos h1] at h;exact Cx.first8_take b hb M h
 ·rename_i h1;rw [if_neg h1] at h
  split
  ·rename_i h2;rw [if_pos h2] at h;exact Cx.first16_take 0 b hn M h
  ·rename_i h2;rw [if_neg h2] at h
   split
   ·rename_i h3;rw [if_pos h3] at h;exact Cx.first16_take 1 b hn M h
   ·rename_i h3;rw [if_neg h3] at h
    simp only at h
    rw [Cx.c0_take' b M (by omega)]
end Go.Proofs.YtjjfakokakamaaaGreat

namespace Go.Proofs.YtjjfakokakamaaaGreat
open Go.RowKit
abbrev Cx.En (enc:Int):Prop:=enc=1∨enc=2∨enc=3∨enc=4
theorem Cx.encB_app (enc:Int) (a b:List Int):Cx.encB enc (a ++ b)=Cx.encB enc a ++ Cx.encB enc b:=by simp [Cx.encB]
theorem Cx.encB_cons (enc:Int) (a:Int) (l:List Int):Cx.encB enc (a :: l)=Cx.put enc a ++ Cx.encB enc l:=by simp [Cx.encB]
theorem Cx.dec_step (enc:Int) (he:Cx.En enc) (b:List Int) (hb:Byt b) (hn:b≠[]):∃ (a:Int) (s:Nat),Cx.fst enc b=(a,(s:Int))∧1≤s∧s≤b.length∧Cx.put enc a=b.take s∧(Cx.put enc a).length=s∧Cx.fits enc a=true∧Cx.dec enc b=a :: Cx.dec enc (b.drop s):=by
 obtain ⟨h1,h2,h3⟩:=Cx.fst_bd enc b hn
 obtain ⟨k1,k2⟩:=Cx.back enc b hb hn he
 have e:Cx.fst enc b=((Cx.fst enc b).1,(((Cx.fst enc b).2.toNat:Nat):Int)):=by rw [Int.toNat_of_nonneg (by omega)]
 refine ⟨(Cx.fst enc b).1,(Cx.fst enc b).2.toNat,e,by omega,by omega,k2,?_,k1,Cx.dec_cons enc b hn _ _ e⟩
 rw [k2,List.length_take]
 omega
theorem Cx.dec_cut (enc:Int) (he:Cx.En enc):∀ (n:Nat) (b:List Int),Byt b→n≤(Cx.dec enc b).length →
  (Cx.encB enc ((Cx.dec enc b).take n)).length≤b.length∧Cx.dec enc (b.drop (Cx.encB enc ((Cx.dec enc b).take n)).length)=(Cx.dec enc b).drop n∧Cx.dec enc (b.take (Cx.encB enc ((Cx.dec enc b).take n)).length)=(Cx.dec enc b).take n:=by
 intro n
 induction n with
 | zero =>
   intro b hb _
   simp only [List.take_zero,List.drop_zero]
   exact ⟨Nat.zero_le _,rfl,Cx.dec_nil enc⟩
 | succ n ih =>
   intro b hb hn
   by_cases h0:b=[]
   ·subst h0;rw [Cx.dec_nil] at hn;simp at hn
   obtain ⟨a,s,hf,s1,s2,hp,hl,_,hd⟩:=Cx.dec_step enc he b hb h0
   rw [hd,List.length_cons] at hn
   obtain ⟨i1,i2,i3⟩:=ih (b.drop s) (hb.drop s) (by omega)
   rw [hd,List.take_succ_cons,List.drop_succ_cons,Cx.encB_cons,List.length_append,hl]
   rw [List.length_drop] at i1
   generalize hk:(Cx.encB enc ((Cx.dec enc (b.drop s)).take n)).length=k at *
   refine ⟨by omega,?_,?_⟩
   ·rw [← List.drop_drop];exact i2
   ·have hne:b.take (s + k)≠[]:=by
     intro e
     have:=congrArg List.length e
     rw [List.length_take,List.length_nil] at this
     omega
    have hft:=Cx.fst_take enc b hb h0 (s + k) (by rw [hf];simp only;omega)
    rw [Cx.dec_cons enc (b.take (s + k)) hne a s (by rw [hft];exact hf)]
    congr 1
    rw [List.drop_take,show s + k - s=k by omega]
    exact i3
theorem Cx.dec_last (enc:Int) (he:Cx.En enc):∀ (m:Nat) (b:List Int),b.length≤m→Byt b→b≠[]→∃ l,Cx.dec enc b=l ++ [(Cx.lst enc b).1]:=by
 intro m
 induction m with
 | zero=>intro b h _ hn;exact absurd (List.length_eq_zero_iff.1 (by omega)) hn
 | succ m ih =>
   intro b h hb hn
   obtain ⟨a,s,hf,s1,s2,hp,hl,_,hd⟩:=Cx.dec_step enc he b hb hn
   by_cases hs:s=b.length
   ·have:=Cx.last_one enc b hb hn he (by rw [hf,hs])
    rw [this,hf]
    refine ⟨[],?_⟩
    rw [hd,hs,List.drop_length,Cx.dec_nil]
    rfl
   ·have:=Cx.last_more enc b hb hn he s (by rw [hf]) (by omega)
    rw [this,hd]
    obtain ⟨l,hl'⟩:=ih (b.drop s) (by rw [List.length_drop];omega) (hb.drop s) (by
     intro e
     have:=congrArg List.length e
     rw [List.length_drop,List.length_nil] at this
     omega)
    exact ⟨a :: l,by rw [hl'];rfl⟩
theorem Cx.dec_snoc (enc:Int) (he:Cx.En enc) (b:List Int) (a:Int) (hb:Byt b) (hp:Byt (Cx.put enc a)) (hn:Cx.put enc a≠[]) (h:(Cx.lst enc (b ++ Cx.put enc a)).1=a):Cx.dec enc (b ++ Cx.put enc a)=Cx.dec enc b ++ [a]:=by
 have hB:Byt (b ++ Cx.put enc a):=fun x hx=>(List.mem_append.1 hx).elim (hb x) (hp x)
 obtain ⟨l,hl⟩:=Cx.dec_last enc he _ _ (Nat.le_refl _) hB (by simp [hn])
 rw [h] at hl
 have he1:=(Cx.back_all enc he _ _ (Nat.le_refl _) hB).1
 rw [hl,Cx.encB_app] at he1
 have e2:Cx.encB enc l=b:=by
  have:Cx.encB enc [a]=Cx.put enc a:=by simp [Cx.encB]
  rw [this] at he1
  exact List.append_cancel_right he1
 obtain ⟨_,_,k3⟩:=Cx.dec_cut enc he l.length (b ++ Cx.put enc a) hB (by rw [hl];simp)
 rw [hl,List.take_left' rfl,e2,List.take_left' rfl] at k3
 rw [hl,k3]
end Go.Proofs.YtjjfakokakamaaaGreat

namespace Go.Proofs.YtjjfakokakamaaaGreat
open Go.RowKit
theorem m_last1 (w : World) : (method 336 175 (.agg #[]) "copyist/codec.last").run Tryz.prog w = .ok (173, .agg #[]) w := by kernel_rfl
theorem m_last2 (k : Int) (w : World) : (method 336 177 (.agg #[.int .i64 k]) "copyist/codec.last").run Tryz.prog w = .ok (188, .agg #[.int .i64 k]) w := by kernel_rfl
theorem m_last4 (w : World) : (method 336 178 (.agg #[]) "copyist/codec.last").run Tryz.prog w = .ok (200, .agg #[]) w := by kernel_rfl
theorem n_first1 (w : World) : (nilAhead 336 175 (.agg #[]) "copyist/codec.first").run Tryz.prog w = .ok (some false) w := by kernel_rfl
theorem n_first2 (k : Int) (w : World) : (nilAhead 336 177 (.agg #[.int .i64 k]) "copyist/codec.first").run Tryz.prog w = .ok (some false) w := by kernel_rfl
theorem n_first4 (w : World) : (nilAhead 336 178 (.agg #[]) "copyist/codec.first").run Tryz.prog w = .ok (some false) w := by kernel_rfl
theorem n_last1 (w : World) : (nilAhead 336 175 (.agg #[]) "copyist/codec.last").run Tryz.prog w = .ok (some false) w := by kernel_rfl
theorem n_last2 (k : Int) (w : World) : (nilAhead 336 177 (.agg #[.int .i64 k]) "copyist/codec.last").run Tryz.prog w = .ok (some false) w := by kernel_rfl
theorem n_last4 (w : World) : (nilAhead 336 178 (.agg #[]) "copyist/codec.last").run Tryz.prog w = .ok (some false) w := by kernel_rfl
def Cx.nx (enc:Int) (zs:List Int) (a:Int):Int × Int:=if Cx.known enc=true∧0≤a∧a < zs.length then Cx.fst enc (zs.drop a.toNat) else (0,0)
def Cx.pv (enc:Int) (zs:List Int) (a:Int):Int × Int:=if Cx.known enc=true∧0 < a∧a≤zs.length then Cx.lst enc (zs.take a.toNat) else (0,0)
theorem lst1_any (v:Value) (zs:List Int) (w:World) (h:Rd .u8 w v zs) (hb:Byt zs) (hn:zs≠[]) :
  Calls Tryz.prog 173 #[.agg #[],v] w fun e w'=>e=.returned (.tuple #[.int .i64 (Cx.lst 1 zs).1,.int .i64 (Cx.lst 1 zs).2])∧Below w.heap.size w w':=by
 rw [show Cx.lst 1 zs=Cx.lst8 zs by unfold Cx.lst;rw [if_pos rfl]]
 exact last8_any v zs w h hb hn
theorem lst2_any (v:Value) (zs:List Int) (w:World) (h:Rd .u8 w v zs) (hb:Byt zs) (hn:zs≠[]) :
  Calls Tryz.prog 188 #[.agg #[.int .i64 0],v] w fun e w'=>e=.returned (.tuple #[.int .i64 (Cx.lst 2 zs).1,.int .i64 (Cx.lst 2 zs).2])∧Below w.heap.size w w':=by
 rw [show Cx.lst 2 zs=Cx.lst16 0 zs by unfold Cx.lst;rw [if_neg (by decide),if_pos rfl]]
 exact last16_any 0 v zs w h hb (.inl rfl) hn
theorem lst3_any (v:Value) (zs:List Int) (w:World) (h:Rd .u8 w v zs) (hb:Byt zs) (hn:zs≠[]) :
  Calls Tryz.prog 188 #[.agg #[.int .i64 1],v] w fun e w'=>e=.returned (.tuple #[.int .i64 (Cx.lst 3 zs).1,.int .i64 (Cx.lst 3 zs).2])∧Below w.heap.size w w':=by
 rw [show Cx.lst 3 zs=Cx.lst16 1 zs by unfold Cx.lst;rw [if_neg (by decide),if_neg (by decide),if_pos rfl]]
 exact last16_any 1 v zs w h hb (.inr rfl) hn
theorem lst4_any (v:Value) (zs:List Int) (w:World) (h:Rd .u8 w v zs) (hb:Byt zs) (hn:zs≠[]) :
  Calls Tryz.prog 200 #[.agg #[],v] w fun e w'=>e=.returned (.tuple #[.int .i64 (Cx.lst 4 zs).1,.int .i64 (Cx.lst 4 zs).2])∧Below w.heap.size w w':=by
 rw [show Cx.lst 4 zs=(Cx.lb zs,1) by unfold Cx.lst;rw [if_neg (by decide),if_neg (by decide),if_neg (by decide)]]
 exact last4_any v zs w h hb hn
end Go.Proofs.YtjjfakokakamaaaGreat
