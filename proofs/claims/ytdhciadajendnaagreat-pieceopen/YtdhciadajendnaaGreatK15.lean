import Derived.Test.YtdhciadajendnaaGreatK14
set_option maxRecDepth 100000
namespace Go.Proofs.YtdhciadajendnaaGreat
theorem Cx.pre_take (m b:List Int) (h:m.isPrefixOf b=true):b.take m.length=m:=by
 rw [List.isPrefixOf_iff_prefix] at h
 exact (List.prefix_iff_eq_take.1 h).symm
theorem Cx.c0_take (b:List Int) (hn:b≠[]):b.take 1=[Cx.c0 b]:=by
 cases b with
 | nil=>exact absurd rfl hn
 | cons a l=>rfl
theorem Cx.back1 (b:List Int) (hb:Byt b) (hn:b≠[]):Cx.fits 1 (Cx.first8 b).1=true∧Cx.put 1 (Cx.first8 b).1=b.take (Cx.first8 b).2.toNat:=by
 have hbd:=Cx.mtch_bd b
 have h0:=hb.at 0
 change 0≤Cx.c0 b∧Cx.c0 b≤255 at h0
 by_cases hm:0 < Cx.mtch b∧Cx.mtch b≤b.length
 ·have hh:=(Cx.hit_iff b hb (Cx.mtch b).toNat (by omega) (by omega)).2 ⟨by omega,by omega⟩
  rw [Cx.hitB_iff b _ _ rfl] at hh
  obtain ⟨_,hs,hl,hp⟩:=hh
  have e:=Cx.first8_hit b hb (Cx.mtch b).toNat (by omega) (by omega) ((Cx.hit_iff b hb (Cx.mtch b).toNat (by omega) (by omega)).2 ⟨by omega,by omega⟩)
  rw [e]
  simp only [Int.toNat_natCast]
  have ht:=Cx.pre_take _ _ hp
  rw [hl] at ht
  have hs0:=(Cx.sc_iff _).1 hs
  refine ⟨by unfold Cx.fits;rw [if_pos rfl,hs,Bool.true_or],?_⟩
  unfold Cx.put
  rw [if_neg (by omega),if_pos rfl]
  exact ht.symm
 ·have e:Cx.first8 b=(-1 - Cx.c0 b,1):=by unfold Cx.first8;rw [if_neg hm]
  have h128:128≤Cx.c0 b:=by
   rcases Classical.em (128≤Cx.c0 b) with h | h
   ·exact h
   ·exfalso
    have r:Cx.rowN (Cx.c0 b)=1:=by unfold Cx.rowN;rw [if_pos (by omega)]
    have hy:=Cx.mtch_yes b 1 (fun j h1 h2=>by omega) (.inl (by rw [r];decide))
    rw [r] at hy
    have hp:0 < b.length:=List.length_pos_iff.2 hn
    exact hm ⟨by omega,by omega⟩
  rw [e]
  refine ⟨?_,?_⟩
  ·unfold Cx.fits;rw [if_pos rfl];simp;omega
  ·unfold Cx.put
   rw [if_pos (by simp only;omega)]
   show [-1 - (-1 - Cx.c0 b)]=b.take 1
   rw [Cx.c0_take b hn]
   congr 1;omega
theorem Cx.unit_wv (enc:Int) (b:List Int) (hb:Byt b) (h2:2≤b.length) (he:enc=2∨enc=3):Cx.unit enc (Cx.wv (Cx.lowOf enc) b)=b.take 2:=by
 match b,h2 with
 | x :: y :: l,_ =>
   have hx:=hb x (by simp)
   have hy:=hb y (by simp)
   rcases he with rfl | rfl
   ·simp only [Cx.unit,Cx.wv,Cx.lowOf,if_true,List.getElem?_cons_succ,List.getElem?_cons_zero,Option.getD_some,List.take_succ_cons,List.take_zero]
    have e1:(y * 256 + x) % 256=x:=by omega
    have e2:(y * 256 + x) / 256=y:=by omega
    rw [e1,e2]
   ·simp only [Cx.unit,Cx.wv,Cx.lowOf,show ¬ ((3:Int)=2) from by decide,show ¬ ((1:Int)=0) from by decide,if_false,List.getElem?_cons_succ,List.getElem?_cons_zero,Option.getD_some,List.take_succ_cons,List.take_zero]
    have e1:(x * 256 + y) % 256=y:=by omega
    have e2:(x * 256 + y) / 256=x:=by omega
    rw [e1,e2]
theorem Cx.back2 (enc:Int) (b:List Int) (hb:Byt b) (hn:b≠[]) (he:enc=2∨enc=3):Cx.fits enc (Cx.first16 (Cx.lowOf enc) b).1=true∧Cx.put enc (Cx.first16 (Cx.lowOf enc) b).1=b.take (Cx.first16 (Cx.lowOf enc) b).2.toNat:=by
 have h0:=hb.at 0
 change 0≤Cx.c0 b∧Cx.c0 b≤255 at h0
 have hp:0 < b.length:=List.length_pos_iff.2 hn
 have ft:∀ a:Int,-256≤a→a≤1114111→Cx.fits enc a=true:=by
  intro a h1 h2
  unfold Cx.fits
  rw [if_neg (by omega),if_pos he];simp;omega
 unfold Cx.first16
 by_cases h1:b.length=1
 ·rw [if_pos h1]
  refine ⟨ft _ (by simp only;omega) (by simp only;omega),?_⟩
  unfold Cx.put
  rw [if_pos (by simp only;omega)]
  show [-1 - (-1 - Cx.c0 b)]=b.take 1
  rw [Cx.c0_take b hn]
  congr 1;omega
 ·rw [if_neg h1]
  have hu:=Cx.wv_bd (Cx.lowOf enc) b hb
  have hw:=Cx.unit_wv enc b hb (by omega) he
  cases hP:Cx.isP (Cx.lowOf enc) b
  ·rw [if_neg (by simp)]
   refine ⟨ft _ (by simp only;omega) (by simp only;omega),?_⟩
   unfold Cx.put
   rw [if_neg (by simp only;omega),if_neg (by omega),if_neg (by omega),if_neg (by simp only;omega)]
   exact hw
  ·rw [if_pos rfl]
   unfold Cx.isP Cx.hiU Cx.loU at hP
   simp only [Bool.and_eq_true,decide_eq_true_eq] at hP
   obtain ⟨⟨h4,h5,h6⟩,h7,h8⟩:=hP
   have hw2:=Cx.unit_wv enc (b.drop 2) (hb.drop 2) (by rw [List.length_drop];omega) he
   have hpv:Cx.pairV (Cx.lowOf enc) b=65536 + (Cx.wv (Cx.lowOf enc) b - 55296) * 1024 + (Cx.wv (Cx.lowOf enc) (b.drop 2) - 56320):=rfl
   generalize Cx.pairV (Cx.lowOf enc) b=p at *
   refine ⟨ft _ (by simp only;omega) (by simp only;omega),?_⟩
   unfold Cx.put
   rw [if_neg (by simp only;omega),if_neg (by omega),if_neg (by omega),if_pos (by simp only;omega)]
   simp only
   rw [show 55296 + (p - 65536) / 1024=Cx.wv (Cx.lowOf enc) b from by omega,show 56320 + p % 1024=Cx.wv (Cx.lowOf enc) (b.drop 2) from by omega,hw,hw2]
   show b.take 2 ++ (b.drop 2).take 2=b.take (2 + 2)
   rw [List.take_add]
theorem Cx.back (enc:Int) (b:List Int) (hb:Byt b) (hn:b≠[]) (he:enc=1∨enc=2∨enc=3∨enc=4):Cx.fits enc (Cx.fst enc b).1=true∧Cx.put enc (Cx.fst enc b).1=b.take (Cx.fst enc b).2.toNat:=by
 rcases he with rfl | rfl | rfl | rfl
 ·exact Cx.back1 b hb hn
 ·exact Cx.back2 2 b hb hn (.inl rfl)
 ·exact Cx.back2 3 b hb hn (.inr rfl)
 ·have h0:=hb.at 0
  change 0≤Cx.c0 b∧Cx.c0 b≤255 at h0
  refine ⟨?_,?_⟩
  ·show Cx.fits 4 (Cx.c0 b)=true
   unfold Cx.fits;simp;omega
  ·show Cx.put 4 (Cx.c0 b)=b.take 1
   unfold Cx.put;rw [if_neg (by omega),Cx.c0_take b hn];rfl
theorem Cx.back_all (enc:Int) (he:enc=1∨enc=2∨enc=3∨enc=4):∀ (m:Nat) (b:List Int),b.length≤m→Byt b→Cx.encB enc (Cx.dec enc b)=b∧∀ a ∈ Cx.dec enc b,Cx.fits enc a=true:=by
 intro m
 induction m with
 | zero =>
   intro b h _
   have:b=[]:=List.length_eq_zero_iff.1 (by omega)
   subst this
   rw [Cx.dec_nil]
   exact ⟨rfl,by simp⟩
 | succ m ih =>
   intro b h hb
   by_cases hn:b=[]
   ·subst hn
    rw [Cx.dec_nil]
    exact ⟨rfl,by simp⟩
   ·have hbd:=Cx.fst_bd enc b hn
    obtain ⟨hf,hp⟩:=Cx.back enc b hb hn he
    have e:Cx.fst enc b=((Cx.fst enc b).1,((Cx.fst enc b).2.toNat:Int)):=Prod.ext rfl (by simp only;omega)
    rw [Cx.dec_cons enc b hn _ _ e]
    obtain ⟨i1,i2⟩:=ih (b.drop (Cx.fst enc b).2.toNat) (by rw [List.length_drop];omega) (hb.drop _)
    refine ⟨?_,?_⟩
    ·unfold Cx.encB at i1 ⊢
     rw [List.flatMap_cons,i1,hp,List.take_append_drop]
    ·intro a ha
     rcases List.mem_cons.1 ha with rfl | ha
     ·exact hf
     ·exact i2 a ha
open Go.RowKit
def Cx.tl (zs:List Int) (s:Nat):List Int:=zs.drop (zs.length - s)
def Cx.lh (zs:List Int) (s:Nat):Bool:=decide (s≤zs.length) && decide (Cx.mtch (Cx.tl zs s)=s)
def Cx.lb (zs:List Int):Int:=zs[zs.length - 1]?.getD 0
def Cx.lst8 (zs:List Int):Int × Int :=
 if Cx.lh zs 1=true then (Cx.val (Cx.tl zs 1),1) else if Cx.lh zs 2=true then (Cx.val (Cx.tl zs 2),2)
 else if Cx.lh zs 3=true then (Cx.val (Cx.tl zs 3),3) else if Cx.lh zs 4=true then (Cx.val (Cx.tl zs 4),4) else (-1 - Cx.lb zs,1)
theorem Cx.lst8_hit (zs:List Int) (k:Nat) (h1:1≤k) (h4:k≤4) (hh:Cx.lh zs k=true) (hn:∀ j,1≤j→j < k→Cx.lh zs j=false):Cx.lst8 zs=(Cx.val (Cx.tl zs k),(k:Int)):=by
 have e:k=1∨k=2∨k=3∨k=4:=by omega
 unfold Cx.lst8
 rcases e with rfl | rfl | rfl | rfl
 ·rw [if_pos hh];rfl
 ·rw [if_neg (by rw [hn 1 (by omega) (by omega)];simp),if_pos hh];rfl
 ·rw [if_neg (by rw [hn 1 (by omega) (by omega)];simp),if_neg (by rw [hn 2 (by omega) (by omega)];simp),if_pos hh];rfl
 ·rw [if_neg (by rw [hn 1 (by omega) (by omega)];simp),if_neg (by rw [hn 2 (by omega) (by omega)];simp),if_neg (by rw [hn 3 (by omega) (by omega)];simp),if_pos hh];rfl
theorem Cx.lst8_none (zs:List Int) (hn:∀ j,1≤j→j≤4→Cx.lh zs j=false):Cx.lst8 zs=(-1 - Cx.lb zs,1):=by
 unfold Cx.lst8
 rw [if_neg (by rw [hn 1 (by omega) (by omega)];simp),if_neg (by rw [hn 2 (by omega) (by omega)];simp),if_neg (by rw [hn 3 (by omega) (by omega)];simp),if_neg (by rw [hn 4 (by omega) (by omega)];simp)]
theorem Cx.lh_long (zs:List Int) (j:Nat) (h:zs.length < j):Cx.lh zs j=false:=by unfold Cx.lh;rw [decide_eq_false (by omega)];rfl
theorem Cx.tl_len (zs:List Int) (s:Nat) (h:s≤zs.length):(Cx.tl zs s).length=s:=by unfold Cx.tl;rw [List.length_drop];omega
set_option maxHeartbeats 1000000 in
theorem last8_any (v:Value) (zs:List Int) (w:World) (h:Rd .u8 w v zs) (hb:Byt zs) (hn:zs≠[]) :
  Calls Tryz.prog 164 #[.agg #[],v] w fun e w'=>e=.returned (.tuple #[.int .i64 (Cx.lst8 zs).1,.int .i64 (Cx.lst8 zs).2])∧Below w.heap.size w w':=by
 have HR:Hid (Rd .u8 w v zs):=h
 have HB:Hid (Byt zs):=hb
 have hlen:=h.len
 have hbl':=hb.at (zs.length - 1)
 change 0≤Cx.lb zs∧Cx.lb zs≤255 at hbl'
 obtain ⟨ao,cap,rfl,hl,hm,hc⟩:=h
 obtain ⟨b,off,rfl,hbl,hc⟩:=hc hn
 have hpos:0 < zs.length:=List.length_pos_iff.2 hn
 have hlast:=hc (zs.length - 1) (by omega)
 change w.cell? ⟨b,off + (zs.length - 1),none⟩=some (.int .u8 (Cx.lb zs)) at hlast
 have HH:Hid (∀ k:Nat,1≤k→k≤4→Cx.lh zs k=true→(∀ j,1≤j→j < k→Cx.lh zs j=false)→Cx.lst8 zs=(Cx.val (Cx.tl zs k),(k:Int))):=Cx.lst8_hit zs
 have HN:Hid ((∀ j,1≤j→j≤4→Cx.lh zs j=false)→Cx.lst8 zs=(-1 - Cx.lb zs,1)):=Cx.lst8_none zs
 clear hn hc hm hb
 go_enter Tryz.func164,Tryz.ntmps164
 go_wp2_with fail
 go_loopw [6] (fun i wr=>∃ k:Nat,1≤k∧k≤5∧i=.int .i64 k∧Hid (∀ j,1≤j→j < k→Cx.lh zs j=false)∧Below w.heap.size w wr) (fun i _=>5 - (intOf i).toNat)
 case atStart=>exact ⟨1,Nat.le_refl _,by omega,rfl,fun j h1 h2=>by omega,(Below.refl _ _).alloc (Nat.le_refl _) _⟩
 case round =>
  obtain ⟨k,hk1,hk2,rfl,HJ,hbw⟩:=hrel
  have HBW:Hid (Below w.heap.size w wr):=hbw
  by_cases hin:k≤4∧k≤zs.length
  ·obtain ⟨hin1,hin2⟩:=hin
   have HT:Hid (Rd .u8 w (.slice (some ⟨b,off + (zs.length - k),none⟩) k (cap - (zs.length - k))) (Cx.tl zs k)):=by
    have:=HR.out.cut (n:=zs.length - k) (by omega)
    rwa [show zs.length - (zs.length - k)=k from by omega] at this
   have HTB:Hid (Byt (Cx.tl zs k)):=HB.out.drop _
   have HTN:Hid (Cx.tl zs k≠[]):=List.length_pos_iff.1 (by rw [Cx.tl_len zs k hin2];omega)
   have HK:Hid (Cx.lh zs k=false→∀ j,1≤j→j < k + 1→Cx.lh zs j=false):=fun hh j h1 h2=>by
    by_cases hj:j=k
    ·rw [hj];exact hh
    ·exact HJ.out j h1 (by omega)
   have HE:Hid (Cx.lh zs k=decide (Cx.mtch (Cx.tl zs k)=k)):=by unfold Hid Cx.lh;rw [decide_eq_true hin2,Bool.true_and]
   have HF:Hid (Cx.lh zs k=true→Cx.lst8 zs=(Cx.val (Cx.tl zs k),(k:Int))):=fun hh=>HH.out k hk1 hin1 hh HJ.out
   have hcne:¬ cap=zs.length - k:=by omega
   have hlk:zs.length - (zs.length - k)=k:=by omega
   have HWH:Hid (Cx.mtch (Cx.tl zs k)=k→Cx.Whole (Cx.tl zs k)):=fun hm=>by
    have:=Cx.whole_of (Cx.tl zs k) HTB.out (by omega) (by rw [Cx.tl_len zs k hin2];omega)
    rwa [hm,Int.toNat_natCast,List.take_of_length_le (by rw [Cx.tl_len zs k hin2];exact Nat.le_refl _)] at this
   clear HH HN HJ hbw hlast
   go_wp2_with fail
   refine (match_any _ (Cx.tl zs k) _ (HT.out.ext HBW.out) HTB.out HTN.out).mono ?_
   rintro e w1 ⟨rfl,hw1⟩
   subst hw1
   by_cases hm:Cx.mtch (Cx.tl zs k)=k
   ·have hq:(Cx.mtch (Cx.tl zs k) == (k:Int))=true:=by rw [hm];simp
    have HL:Hid (Cx.lst8 zs=(Cx.val (Cx.tl zs k),(k:Int))):=HF.out (by rw [HE.out,decide_eq_true hm])
    have HW:Hid (Cx.Whole (Cx.tl zs k)):=HWH.out hm
    clear HK HF HE HWH hm
    go_wp2_with fail
    refine (scalar_any _ _ _ (HT.out.ext HBW.out) HW.out).mono ?_
    rintro e w2 ⟨rfl,hb2⟩
    go_wp2
    go_ret2
    exact ⟨by rw [HL.out];rfl,zxt HBW.out hb2⟩
   ·have hq:(Cx.mtch (Cx.tl zs k) == (k:Int))=false:=by rw [beq_eq_false_iff_ne];exact hm
    have HX:Hid (∀ j,1≤j→j < k + 1→Cx.lh zs j=false):=HK.out (by rw [HE.out,decide_eq_false hm])
    clear HK HF HE HWH hm
    go_wp2_with fail
    go_roundw
    case rel=>exact ⟨k + 1,by omega,by omega,by go_num,HX.out,HBW.out⟩
    case measure=>simp [intOf];omega
  ·have HL:Hid (Cx.lst8 zs=(-1 - Cx.lb zs,1)):=HN.out fun j h1 h4=>by
    by_cases hj:j < k
    ·exact HJ.out j h1 hj
    ·exact Cx.lh_long zs j (by omega)
   have hcx:wr.cell? ⟨b,off + (zs.length - 1),none⟩=some (.int .u8 (Cx.lb zs)):=(hbw.cell (p:=⟨b,off + (zs.length - 1),none⟩) hbl).trans hlast
   clear HH HN HJ hbw hlast
   by_cases hin1:k≤4
   ·have hin2:zs.length < k:=by omega
    clear hin
    go_wp2_with fail
    refine (rawAtom_any _ _ hbl'.1 hbl'.2).mono ?_
    rintro e w1 ⟨rfl,hw1⟩
    subst hw1
    go_wp2
    go_ret2
    exact ⟨by rw [HL.out];rfl,HBW.out⟩
   ·clear hin
    go_wp2_with fail
    refine (rawAtom_any _ _ hbl'.1 hbl'.2).mono ?_
    rintro e w1 ⟨rfl,hw1⟩
    subst hw1
    go_wp2
    go_ret2
    exact ⟨by rw [HL.out];rfl,HBW.out⟩
theorem last4_any (v:Value) (zs:List Int) (w:World) (h:Rd .u8 w v zs) (hb:Byt zs) (hn:zs≠[]) :
  Calls Tryz.prog 191 #[.agg #[],v] w fun e w'=>e=.returned (.tuple #[.int .i64 (Cx.lb zs),.int .i64 1])∧Below w.heap.size w w':=by
 have hlen:=h.len
 have hbl':=hb.at (zs.length - 1)
 change 0≤Cx.lb zs∧Cx.lb zs≤255 at hbl'
 obtain ⟨ao,cap,rfl,hl,hm,hc⟩:=h
 obtain ⟨b,off,rfl,hbl,hc⟩:=hc hn
 have hpos:0 < zs.length:=List.length_pos_iff.2 hn
 have hlast:=hc (zs.length - 1) (by omega)
 change w.cell? ⟨b,off + (zs.length - 1),none⟩=some (.int .u8 (Cx.lb zs)) at hlast
 have hlast':∀ o:Obj,(w.alloc o).cell? ⟨b,off + (zs.length - 1),none⟩=some (.int .u8 (Cx.lb zs)):=fun o=>((Below.refl w.heap.size w).alloc (Nat.le_refl _) o |>.cell (p:=⟨b,off + (zs.length - 1),none⟩) hbl).trans hlast
 clear hn hc hm hb hlast
 go_enter Tryz.func191,Tryz.ntmps191
 go_wp2
 go_ret2
 exact ⟨rfl,(Below.refl _ _).alloc (Nat.le_refl _) _⟩
open Go.RowKit
def Cx.lst16 (k:Int) (zs:List Int):Int × Int :=
 if zs.length % 2=1 then (-1 - Cx.lb zs,1) else if 4≤zs.length∧Cx.isP k (Cx.tl zs 4)=true then (Cx.pairV k (Cx.tl zs 4),4) else (Cx.wv k (Cx.tl zs 2),2)
theorem Rd.tail {w:World} {b off cap:Nat} {zs:List Int} (h:Rd .u8 w (.slice (some ⟨b,off,none⟩) zs.length cap) zs) (s:Nat) (hs:s≤zs.length):Rd .u8 w (.slice (some ⟨b,off + (zs.length - s),none⟩) s (cap - (zs.length - s))) (Cx.tl zs s):=by
 have:=h.cut (n:=zs.length - s) (by omega)
 rwa [show zs.length - (zs.length - s)=s from by omega] at this
set_option maxHeartbeats 1000000 in
theorem last16_any (k:Int) (v:Value) (zs:List Int) (w:World) (h:Rd .u8 w v zs) (hb:Byt zs) (hk:k=0∨k=1) (hn:zs≠[]) :
  Calls Tryz.prog 179 #[.agg #[.int .i64 k],v] w fun e w'=>e=.returned (.tuple #[.int .i64 (Cx.lst16 k zs).1,.int .i64 (Cx.lst16 k zs).2])∧Below w.heap.size w w':=by
 have HR:Hid (Rd .u8 w v zs):=h
 have HB:Hid (Byt zs):=hb
 have HK:Hid (k=0∨k=1):=hk
 have hlen:=h.len
 have hbl':=hb.at (zs.length - 1)
 change 0≤Cx.lb zs∧Cx.lb zs≤255 at hbl'
 obtain ⟨ao,cap,rfl,hl,hm,hc⟩:=h
 obtain ⟨b,off,rfl,hbl,hc⟩:=hc hn
 have hpos:0 < zs.length:=List.length_pos_iff.2 hn
 have hlast:=hc (zs.length - 1) (by omega)
 change w.cell? ⟨b,off + (zs.length - 1),none⟩=some (.int .u8 (Cx.lb zs)) at hlast
 clear hn hc hm hb hk
 by_cases ho:zs.length % 2=1
 ·have HE:Hid (Cx.lst16 k zs=(-1 - Cx.lb zs,1)):=by unfold Hid Cx.lst16;rw [if_pos ho]
  have hq:((zs.length:Int) % 2 == 1)=true:=by rw [beq_iff_eq];omega
  have hlast':∀ o:Obj,(w.alloc o).cell? ⟨b,off + (zs.length - 1),none⟩=some (.int .u8 (Cx.lb zs)):=fun o=>((Below.refl w.heap.size w).alloc (Nat.le_refl _) o |>.cell (p:=⟨b,off + (zs.length - 1),none⟩) hbl).trans hlast
  clear ho hlast
  go_enter Tryz.func179,Tryz.ntmps179
  go_wp2_with fail
  refine (rawAtom_any _ _ hbl'.1 hbl'.2).mono ?_
  rintro e w1 ⟨rfl,hw1⟩
  subst hw1
  go_wp2
  go_ret2
  exact ⟨by rw [HE.out];rfl,(Below.refl _ _).alloc (Nat.le_refl _) _⟩
 ·have hq:((zs.length:Int) % 2 == 1)=false:=by rw [beq_eq_false_iff_ne];omega
  have h2:2≤zs.length:=by omega
  have HT2:Hid (Rd .u8 w (.slice (some ⟨b,off + (zs.length - 2),none⟩) 2 (cap - (zs.length - 2))) (Cx.tl zs 2)):=HR.out.tail 2 h2
  have HL2:Hid ((Cx.tl zs 2).length=2):=Cx.tl_len zs 2 h2
  have hc2:¬ cap=zs.length - 2:=by omega
  have hl2:zs.length - (zs.length - 2)=2:=by omega
  have ht2:((zs.length:Int) - 2).toNat=zs.length - 2:=by omega
  have hi2:(0:Int)≤(zs.length:Int) - 2:=by omega
  have hj2:(2:Int)≤(zs.length:Int):=by omega
  have hw2:IntKind.i64.wrap ((zs.length:Int) - 2)=(zs.length:Int) - 2:=by rw [IntKind.wrap_i64];omega
  have hi2':(zs.length:Int) - 2≤(zs.length:Int):=by omega
  clear hlast hbl'
  by_cases h4:4≤zs.length
  ·have hd4:decide ((4:Int)≤(zs.length:Int))=true:=by simp;omega
   have HT4:Hid (Rd .u8 w (.slice (some ⟨b,off + (zs.length - 4),none⟩) 4 (cap - (zs.length - 4))) (Cx.tl zs 4)):=HR.out.tail 4 h4
   have HL4:Hid ((Cx.tl zs 4).length=4):=Cx.tl_len zs 4 h4
   have hc4:¬ cap=zs.length - 4:=by omega
   have hl4:zs.length - (zs.length - 4)=4:=by omega
   have ht4:((zs.length:Int) - 4).toNat=zs.length - 4:=by omega
   have hi4:(0:Int)≤(zs.length:Int) - 4:=by omega
   have hj4:(4:Int)≤(zs.length:Int):=by omega
   have hw4:IntKind.i64.wrap ((zs.length:Int) - 4)=(zs.length:Int) - 4:=by rw [IntKind.wrap_i64];omega
   have hi4':(zs.length:Int) - 4≤(zs.length:Int):=by omega
   cases hP:Cx.isP k (Cx.tl zs 4)
   ·have HE:Hid (Cx.lst16 k zs=(Cx.wv k (Cx.tl zs 2),2)):=by unfold Hid Cx.lst16;rw [if_neg ho,if_neg (by rw [hP];simp)]
    clear ho
    go_enter Tryz.func179,Tryz.ntmps179
    go_wp2_with fail
    first | go_region_with (go_at_call 184;refine (isPair_any k _ (Cx.tl zs 4) _ ?_ (HB.out.drop _) HK.out ?_).mono ?_;exact HT4.out.ext ((Below.refl _ _).alloc (Nat.le_refl _) _).drew;(rw [HL4.out];decide);rintro e w1 ⟨rfl,hb1⟩;rw [hP];have hcb:w1.cell? ⟨w.heap.size,0,none⟩=some (.int .i64 k):=(hb1.cell (p:=⟨w.heap.size,0,none⟩) (by simp)).trans (by simp);have HW1:Hid (Below w.heap.size w w1):=zxt ((Below.refl w.heap.size w).alloc (Nat.le_refl _) _).drew hb1;clear hb1) | fail
    all_goals go_wp2_with fail
    first | go_region_with (go_at_call 186;refine (unitW_any k _ (Cx.tl zs 2) _ ?_ (HB.out.drop _) HK.out ?_).mono ?_;exact HT2.out.ext (by repeat (first | exact Below.refl _ _ | exact HW1.out | apply below_drewN | refine zxa ?_ _ | apply Below.drew));(rw [HL2.out];decide);rintro e w2 ⟨rfl,n2,rfl⟩) | fail
    all_goals
     go_wp2
     go_ret2
     exact ⟨by rw [HE.out];rfl,(by repeat (first | exact Below.refl _ _ | exact HW1.out | apply below_drewN | refine zxa ?_ _ | apply Below.drew))⟩
   ·have HE:Hid (Cx.lst16 k zs=(Cx.pairV k (Cx.tl zs 4),4)):=by unfold Hid Cx.lst16;rw [if_neg ho,if_pos ⟨h4,hP⟩]
    clear ho
    go_enter Tryz.func179,Tryz.ntmps179
    go_wp2_with fail
    first | go_region_with (go_at_call 184;refine (isPair_any k _ (Cx.tl zs 4) _ ?_ (HB.out.drop _) HK.out ?_).mono ?_;exact HT4.out.ext ((Below.refl _ _).alloc (Nat.le_refl _) _).drew;(rw [HL4.out];decide);rintro e w1 ⟨rfl,hb1⟩;rw [hP];have hcb:w1.cell? ⟨w.heap.size,0,none⟩=some (.int .i64 k):=(hb1.cell (p:=⟨w.heap.size,0,none⟩) (by simp)).trans (by simp);have HW1:Hid (Below w.heap.size w w1):=zxt ((Below.refl w.heap.size w).alloc (Nat.le_refl _) _).drew hb1;clear hb1) | fail
    all_goals go_wp2_with fail
    first | go_region_with (go_at_call 185;refine (pair_any k _ (Cx.tl zs 4) _ ?_ (HB.out.drop _) HK.out ?_).mono ?_;exact HT4.out.ext (by repeat (first | exact Below.refl _ _ | exact HW1.out | apply below_drewN | refine zxa ?_ _ | apply Below.drew));(rw [HL4.out];decide);rintro e w2 ⟨rfl,hb2⟩;have HW2:Hid (Below w.heap.size w w2):=zxt (by repeat (first | exact Below.refl _ _ | exact HW1.out | apply below_drewN | refine zxa ?_ _ | apply Below.drew)) hb2;clear hb2) | fail
    all_goals
     go_wp2
     go_ret2
     exact ⟨by rw [HE.out];rfl,(by repeat (first | exact HW2.out | apply below_drewN | apply Below.drew))⟩
  ·have HE:Hid (Cx.lst16 k zs=(Cx.wv k (Cx.tl zs 2),2)):=by unfold Hid Cx.lst16;rw [if_neg ho,if_neg (fun hh=>h4 hh.1)]
   have hd4:decide ((4:Int)≤(zs.length:Int))=false:=by simp;omega
   clear ho
   go_enter Tryz.func179,Tryz.ntmps179
   go_wp2
   go_quiet (fail)
   go_wp2_with fail
   first | go_region_with (go_at_call 186;refine (unitW_any k _ (Cx.tl zs 2) _ ?_ (HB.out.drop _) HK.out ?_).mono ?_;exact HT2.out.ext (by repeat (first | exact Below.refl _ _ | apply below_drewN | refine zxa ?_ _ | apply Below.drew));(rw [HL2.out];decide);rintro e w2 ⟨rfl,n2,rfl⟩) | fail
   all_goals
    go_wp2
    go_ret2
    exact ⟨by rw [HE.out];rfl,(by repeat (first | exact Below.refl _ _ | apply below_drewN | refine zxa ?_ _ | apply Below.drew))⟩
end Go.Proofs.YtdhciadajendnaaGreat
namespace Go.Proofs.YtdhciadajendnaaGreat
theorem Cx.lb_drop (zs:List Int) (n:Nat) (h:n < zs.length):Cx.lb (zs.drop n)=Cx.lb zs:=by
 unfold Cx.lb
 rw [List.getElem?_drop,List.length_drop,show n + (zs.length - n - 1)=zs.length - 1 from by omega]
theorem Cx.tl_drop (zs:List Int) (n s:Nat) (h:s + n≤zs.length):Cx.tl (zs.drop n) s=Cx.tl zs s:=by
 unfold Cx.tl
 rw [List.drop_drop,List.length_drop,show n + (zs.length - n - s)=zs.length - s from by omega]
theorem Cx.tl_all (zs:List Int):Cx.tl zs zs.length=zs:=by unfold Cx.tl;rw [Nat.sub_self];rfl
theorem Cx.cont_no (b:List Int) (h:128≤Cx.c0 b) (h':Cx.c0 b≤191):Cx.mtch b=0:=by
 have r:Cx.rowN (Cx.c0 b)=0:=by unfold Cx.rowN;rw [if_neg (by omega),if_pos (by omega)]
 rw [Cx.mtch_eq,r];split <;> rfl
theorem Cx.row_cont (b:List Int) (hb:Byt b) (h0:0 < Cx.mtch b) (hl:Cx.mtch b≤b.length) (q:Nat) (h1:1≤q) (h2:(q:Int) < Cx.mtch b):128≤Cx.c0 (b.drop q)∧Cx.c0 (b.drop q)≤191:=by
 have hw:=Cx.whole_of b hb h0 hl
 have hbd:=Cx.mtch_bd b
 have e:Cx.c0 (b.drop q)=(b.take (Cx.mtch b).toNat)[q]?.getD 0:=by
  unfold Cx.c0;rw [List.getElem?_drop,Nat.add_zero,List.getElem?_take,if_pos (by omega)]
 have hlen:(b.take (Cx.mtch b).toNat).length=(Cx.mtch b).toNat:=by rw [List.length_take];omega
 rw [e]
 rcases hw with ⟨x,e,r⟩ | ⟨x,y,e,r⟩ | ⟨x,y,z,e,r⟩ | ⟨x,y,z,u,e,r⟩
 ·rw [e] at hlen;simp at hlen;omega
 ·rw [e] at hlen ⊢;simp at hlen
  obtain rfl:q=1:=by omega
  simp;omega
 ·rw [e] at hlen ⊢;simp at hlen
  have:q=1∨q=2:=by omega
  rcases this with rfl | rfl <;> simp <;> omega
 ·rw [e] at hlen ⊢;simp at hlen
  have:q=1∨q=2∨q=3:=by omega
  rcases this with rfl | rfl | rfl <;> simp <;> omega
theorem Cx.lh_false (zs:List Int) (s:Nat) (h:s≤zs.length→Cx.mtch (Cx.tl zs s)≠s):Cx.lh zs s=false:=by
 unfold Cx.lh
 by_cases hs:s≤zs.length
 ·rw [decide_eq_false (h hs),Bool.and_false]
 ·rw [decide_eq_false hs,Bool.false_and]
theorem Cx.fst8_cases (b:List Int):(0 < Cx.mtch b∧Cx.mtch b≤b.length∧Cx.first8 b=(Cx.val (b.take (Cx.mtch b).toNat),Cx.mtch b))∨(¬ (0 < Cx.mtch b∧Cx.mtch b≤b.length)∧Cx.first8 b=(-1 - Cx.c0 b,1)):=by
 by_cases h:0 < Cx.mtch b∧Cx.mtch b≤b.length
 ·exact .inl ⟨h.1,h.2,by unfold Cx.first8;rw [if_pos h]⟩
 ·exact .inr ⟨h,by unfold Cx.first8;rw [if_neg h]⟩
theorem Cx.last8_one (b:List Int) (hb:Byt b) (hn:b≠[]) (h:(Cx.first8 b).2=b.length):Cx.lst8 b=Cx.first8 b:=by
 have hp:0 < b.length:=List.length_pos_iff.2 hn
 have hbd:=Cx.mtch_bd b
 rcases Cx.fst8_cases b with ⟨h0,hl,e⟩ | ⟨hno,e⟩
 ·rw [e] at h ⊢
  simp only at h
  have ek:b.length=(Cx.mtch b).toNat:=by omega
  have ht:Cx.tl b b.length=b:=Cx.tl_all b
  rw [Cx.lst8_hit b b.length (by omega) (by omega) (by unfold Cx.lh;rw [ht,decide_eq_true (Nat.le_refl _),decide_eq_true h];rfl) (fun j h1 h2=>Cx.lh_false b j fun hj=>?_),ht]
  ·rw [← ek,List.take_length,h]
  ·have:=Cx.row_cont b hb h0 hl (b.length - j) (by omega) (by omega)
   have hz:=Cx.cont_no (b.drop (b.length - j)) this.1 this.2
   unfold Cx.tl;omega
 ·rw [e] at h ⊢
  simp only at h
  have h1:b.length=1:=by omega
  have el:Cx.lb b=Cx.c0 b:=by unfold Cx.lb Cx.c0;rw [h1]
  rw [Cx.lst8_none b (fun j hj1 hj4=>Cx.lh_false b j fun hj=>?_),el]
  obtain rfl:j=1:=by omega
  have ht:Cx.tl b 1=b:=by rw [← h1];exact Cx.tl_all b
  rw [ht]
  intro hm
  exact hno ⟨by omega,by omega⟩
theorem Cx.last8_more (b:List Int) (hb:Byt b) (hn:b≠[]) (n:Nat) (hf:(Cx.first8 b).2=n) (h:n < b.length):Cx.lst8 b=Cx.lst8 (b.drop n):=by
 have hbd:=Cx.mtch_bd b
 have hn1:1≤n:=by
  have:=Cx.fst_bd 1 b hn
  have e:(Cx.fst 1 b).2=n:=hf
  omega
 have hlen:(b.drop n).length=b.length - n:=List.length_drop
 have key:∀ s:Nat,1≤s→s≤4→b.length - n < s→s≤b.length→Cx.mtch (Cx.tl b s)≠s:=by
  intro s h1 h4 h2 h3
  rcases Cx.fst8_cases b with ⟨h0,hl,e⟩ | ⟨hno,e⟩
  ·rw [e] at hf
   simp only at hf
   by_cases hq:b.length - s=0
   ·have:Cx.tl b s=b:=by unfold Cx.tl;rw [hq];rfl
    rw [this];omega
   ·have:=Cx.row_cont b hb h0 hl (b.length - s) (by omega) (by omega)
    have hz:=Cx.cont_no (b.drop (b.length - s)) this.1 this.2
    unfold Cx.tl;omega
  ·rw [e] at hf
   simp only at hf
   have hq:b.length - s=0:=by omega
   have:Cx.tl b s=b:=by unfold Cx.tl;rw [hq];rfl
   rw [this]
   intro hm
   exact hno ⟨by omega,by omega⟩
 have same:∀ s:Nat,1≤s→s≤4→Cx.lh b s=Cx.lh (b.drop n) s:=by
  intro s h1 h4
  by_cases hs:s≤b.length - n
  ·unfold Cx.lh
   rw [Cx.tl_drop b n s (by omega),decide_eq_true (by omega:s≤b.length),decide_eq_true (by omega:s≤(b.drop n).length)]
  ·rw [Cx.lh_long (b.drop n) s (by omega)]
   exact Cx.lh_false b s fun hj=>key s h1 h4 (by omega) hj
 have vs:∀ s:Nat,1≤s→s≤4→Cx.lh b s=true→Cx.tl b s=Cx.tl (b.drop n) s:=by
  intro s h1 h4 hh
  rw [same s h1 h4] at hh
  unfold Cx.lh at hh
  simp only [Bool.and_eq_true,decide_eq_true_eq] at hh
  rw [Cx.tl_drop b n s (by omega)]
 unfold Cx.lst8
 rw [← same 1 (by omega) (by omega),← same 2 (by omega) (by omega),← same 3 (by omega) (by omega),← same 4 (by omega) (by omega),Cx.lb_drop b n h]
 cases g1:Cx.lh b 1
 ·cases g2:Cx.lh b 2
  ·cases g3:Cx.lh b 3
   ·cases g4:Cx.lh b 4
    ·rfl
    ·rw [vs 4 (by omega) (by omega) g4];rfl
   ·rw [vs 3 (by omega) (by omega) g3];rfl
  ·rw [vs 2 (by omega) (by omega) g2];rfl
 ·rw [vs 1 (by omega) (by omega) g1];rfl
theorem Cx.fst16_cases (k:Int) (b:List Int):(b.length=1∧Cx.first16 k b=(-1 - Cx.c0 b,1))∨(b.length≠1∧Cx.isP k b=true∧Cx.first16 k b=(Cx.pairV k b,4))∨(b.length≠1∧Cx.isP k b=false∧Cx.first16 k b=(Cx.wv k b,2)):=by
 unfold Cx.first16
 by_cases h:b.length=1
 ·exact .inl ⟨h,by rw [if_pos h]⟩
 ·cases hp:Cx.isP k b
  ·exact .inr (.inr ⟨h,rfl,by rw [if_neg h,if_neg (by simp)]⟩)
  ·exact .inr (.inl ⟨h,rfl,by rw [if_neg h,if_pos rfl]⟩)
theorem Cx.isP_len (k:Int) (b:List Int) (h:Cx.isP k b=true):4≤b.length∧Cx.hiU (Cx.wv k b)=true∧Cx.loU (Cx.wv k (b.drop 2))=true:=by
 unfold Cx.isP at h
 simp only [Bool.and_eq_true,decide_eq_true_eq] at h
 exact ⟨h.1.1,h.1.2,h.2⟩
theorem Cx.hi_lo (a:Int) (h:Cx.loU a=true):Cx.hiU a=false:=by
 unfold Cx.loU at h;unfold Cx.hiU
 simp at h ⊢;omega
theorem Cx.last16_one (k:Int) (b:List Int) (hn:b≠[]) (h:(Cx.first16 k b).2=b.length):Cx.lst16 k b=Cx.first16 k b:=by
 have hp:0 < b.length:=List.length_pos_iff.2 hn
 rcases Cx.fst16_cases k b with ⟨h1,e⟩ | ⟨h1,hP,e⟩ | ⟨h1,hP,e⟩
 ·have el:Cx.lb b=Cx.c0 b:=by unfold Cx.lb Cx.c0;rw [h1]
  rw [e];unfold Cx.lst16;rw [if_pos (by omega),el]
 ·rw [e] at h ⊢
  simp only at h
  have h4:b.length=4:=by omega
  have ht:Cx.tl b 4=b:=by rw [← h4];exact Cx.tl_all b
  unfold Cx.lst16;rw [if_neg (by omega),ht,if_pos ⟨by omega,hP⟩]
 ·rw [e] at h ⊢
  simp only at h
  have h2:b.length=2:=by omega
  have ht:Cx.tl b 2=b:=by rw [← h2];exact Cx.tl_all b
  unfold Cx.lst16;rw [if_neg (by omega),if_neg (by omega),ht]
theorem Cx.last16_more (k:Int) (b:List Int) (n:Nat) (hf:(Cx.first16 k b).2=n) (h:n < b.length):Cx.lst16 k b=Cx.lst16 k (b.drop n):=by
 have hlen:(b.drop n).length=b.length - n:=List.length_drop
 rcases Cx.fst16_cases k b with ⟨h1,e⟩ | ⟨h1,hP,e⟩ | ⟨h1,hP,e⟩
 ·rw [e] at hf;simp only at hf;omega
 ·obtain ⟨h4,hh,hl⟩:=Cx.isP_len k b hP
  rw [e] at hf
  simp only at hf
  obtain rfl:n=4:=by omega
  unfold Cx.lst16
  rw [hlen,Cx.lb_drop b 4 h]
  by_cases ho:b.length % 2=1
  ·rw [if_pos ho,if_pos (by omega)]
  ·have ho4:¬ (b.length - 4) % 2=1:=by omega
   rw [if_neg ho,if_neg ho4,Cx.tl_drop b 4 2 (by omega)]
   by_cases h8:8≤b.length
   ·rw [Cx.tl_drop b 4 4 (by omega)]
    by_cases hc:Cx.isP k (Cx.tl b 4)=true
    ·rw [if_pos ⟨by omega,hc⟩,if_pos ⟨by omega,hc⟩]
    ·rw [if_neg (fun hh=>hc hh.2),if_neg (fun hh=>hc hh.2)]
   ·have h6:b.length=6:=by omega
    have hx:¬ (4≤b.length∧Cx.isP k (Cx.tl b 4)=true):=?_
    ·rw [if_neg hx,if_neg (fun hh=>by omega)]
    rintro ⟨_,hc⟩
    have:=(Cx.isP_len k _ hc).2.1
    have et:Cx.tl b 4=b.drop 2:=by unfold Cx.tl;rw [h6]
    rw [et,Cx.hi_lo _ hl] at this
    cases this
 ·rw [e] at hf
  simp only at hf
  obtain rfl:n=2:=by omega
  unfold Cx.lst16
  rw [hlen,Cx.lb_drop b 2 h]
  by_cases ho:b.length % 2=1
  ·rw [if_pos ho,if_pos (by omega)]
  ·have ho2:¬ (b.length - 2) % 2=1:=by omega
   rw [if_neg ho,if_neg ho2,Cx.tl_drop b 2 2 (by omega)]
   by_cases h6:6≤b.length
   ·rw [Cx.tl_drop b 2 4 (by omega)]
    by_cases hc:Cx.isP k (Cx.tl b 4)=true
    ·rw [if_pos ⟨by omega,hc⟩,if_pos ⟨by omega,hc⟩]
    ·rw [if_neg (fun hh=>hc hh.2),if_neg (fun hh=>hc hh.2)]
   ·have h4:b.length=4:=by omega
    have ht:Cx.tl b 4=b:=by rw [← h4];exact Cx.tl_all b
    have hx:¬ (4≤b.length∧Cx.isP k (Cx.tl b 4)=true):=?_
    ·rw [if_neg hx,if_neg (fun hh=>by omega)]
    rintro ⟨_,hc⟩
    rw [ht,hP] at hc
    cases hc
def Cx.lst (enc:Int) (zs:List Int):Int × Int:=if enc=1 then Cx.lst8 zs else if enc=2 then Cx.lst16 0 zs else if enc=3 then Cx.lst16 1 zs else (Cx.lb zs,1)
theorem Cx.last_one (enc:Int) (b:List Int) (hb:Byt b) (hn:b≠[]) (he:enc=1∨enc=2∨enc=3∨enc=4) (h:(Cx.fst enc b).2=b.length):Cx.lst enc b=Cx.fst enc b:=by
 rcases he with rfl | rfl | rfl | rfl
 ·exact Cx.last8_one b hb hn h
 ·exact Cx.last16_one 0 b hn h
 ·exact Cx.last16_one 1 b hn h
 ·have h1:(1:Int)=b.length:=h
  show (Cx.lb b,(1:Int))=(Cx.c0 b,1)
  have:b.length=1:=by omega
  unfold Cx.lb Cx.c0;rw [this]
theorem Cx.last_more (enc:Int) (b:List Int) (hb:Byt b) (hn:b≠[]) (he:enc=1∨enc=2∨enc=3∨enc=4) (n:Nat) (hf:(Cx.fst enc b).2=n) (h:n < b.length):Cx.lst enc b=Cx.lst enc (b.drop n):=by
 rcases he with rfl | rfl | rfl | rfl
 ·exact Cx.last8_more b hb hn n hf h
 ·exact Cx.last16_more 0 b n hf h
 ·exact Cx.last16_more 1 b n hf h
 ·show (Cx.lb b,(1:Int))=(Cx.lb (b.drop n),1)
  rw [Cx.lb_drop b n h]
open Go.RowKit
theorem Cx.hit_take (b:List Int) (k M:Nat) (hk:k≤M):Cx.hitB (b.take M) k=Cx.hitB b k:=by
 have ht:(b.take M).take k=b.take k:=by rw [List.take_take,Nat.min_eq_left hk]
 rw [Bool.eq_iff_iff,Cx.hitB_iff (b.take M) k _ rfl,Cx.hitB_iff b k _ rfl,ht]
 constructor
 ·rintro ⟨g1,g2,g3,g4⟩
  rw [List.length_take] at g1
  rw [List.isPrefixOf_iff_prefix] at g4 ⊢
  exact ⟨by omega,g2,g3,g4.trans (List.take_prefix M b)⟩
 ·rintro ⟨g1,g2,g3,g4⟩
  rw [List.isPrefixOf_iff_prefix] at g4 ⊢
  exact ⟨by rw [List.length_take];omega,g2,g3,List.prefix_take_iff.2 ⟨g4,by omega⟩⟩
theorem Cx.c0_take' (b:List Int) (M:Nat) (h:0 < M):Cx.c0 (b.take M)=Cx.c0 b:=by
 unfold Cx.c0;rw [List.getElem?_take_of_lt h]
theorem Cx.first8_take (b:List Int) (hb:Byt b) (M:Nat) (h:(Cx.first8 b).2≤M):Cx.first8 (b.take M)=Cx.first8 b:=by
 have hbd:=Cx.mtch_bd b
 rcases Cx.fst8_cases b with ⟨h0,hl,e⟩ | ⟨hno,e⟩
 ·rw [e] at h
  simp only at h
  obtain ⟨k,hk⟩:∃ k:Nat,Cx.mtch b=k:=⟨(Cx.mtch b).toNat,by omega⟩
  have hh:Cx.hitB b k=true:=(Cx.hit_iff b hb k (by omega) (by omega)).2 ⟨hk,by omega⟩
  rw [Cx.first8_hit b hb k (by omega) (by omega) hh,Cx.first8_hit (b.take M) (hb.take M) k (by omega) (by omega) (by rw [Cx.hit_take b k M (by omega)];exact hh),List.take_take,Nat.min_eq_left (by omega)]
 ·rw [e] at h
  simp only at h
  have hM:0 < M:=by omega
  rw [e,Cx.first8_none (b.take M) (hb.take M),Cx.c0_take' b M hM]
  intro k h1 h4 hkl
  rw [List.length_take] at hkl
  rw [Cx.hit_take b k M (by omega)]
  cases hh:Cx.hitB b k
  ·rfl
  ·have:=(Cx.hit_iff b hb k h1 h4).1 hh
   exact absurd ⟨by omega,by omega⟩ hno
theorem Cx.wv_take (k:Int) (b:List Int) (M:Nat) (h:2≤M):Cx.wv k (b.take M)=Cx.wv k b:=by
 unfold Cx.wv
 simp only [List.getElem?_take_of_lt (show 0 < M by omega),List.getElem?_take_of_lt (show 1 < M by omega)]
theorem Cx.isP_take (k:Int) (b:List Int) (M:Nat) (h4:4≤M):Cx.isP k (b.take M)=Cx.isP k b:=by
 unfold Cx.isP
 rw [Cx.wv_take k b M (by omega),List.drop_take,Cx.wv_take k (b.drop 2) (M - 2) (by omega),List.length_take]
 congr 2
 rw [decide_eq_decide];omega
theorem Cx.first16_take (k:Int) (b:List Int) (hn:b≠[]) (M:Nat) (h:(Cx.first16 k b).2≤M):Cx.first16 k (b.take M)=Cx.first16 k b:=by
 have hp:0 < b.length:=List.length_pos_iff.2 hn
 rcases Cx.fst16_cases k b with ⟨h1,e⟩ | ⟨h1,hP,e⟩ | ⟨h1,hP,e⟩
 ·rw [e] at h
  simp only at h
  rw [List.take_of_length_le (by omega)]
 ·rw [e] at h
  simp only at h
  have:=(Cx.isP_len k b hP).1
  have hP':Cx.isP k (b.take M)=true:=by rw [Cx.isP_take k b M (by omega)];exact hP
  rw [e]
  unfold Cx.first16
  rw [if_neg (by rw [List.length_take];omega),if_pos hP']
  unfold Cx.pairV
  rw [Cx.wv_take k b M (by omega),List.drop_take,Cx.wv_take k (b.drop 2) (M - 2) (by omega)]
 ·rw [e] at h
  simp only at h
  have hP':Cx.isP k (b.take M)=false:=by
   by_cases h4:4≤M
   ·rw [Cx.isP_take k b M h4];exact hP
   ·unfold Cx.isP
    rw [decide_eq_false (by rw [List.length_take];omega)];rfl
  rw [e]
  unfold Cx.first16
  rw [if_neg (by rw [List.length_take];omega),if_neg (by rw [hP'];simp),Cx.wv_take k b M (by omega)]
theorem Cx.fst_take (enc:Int) (b:List Int) (hb:Byt b) (hn:b≠[]) (M:Nat) (h:(Cx.fst enc b).2≤M):Cx.fst enc (b.take M)=Cx.fst enc b:=by
 unfold Cx.fst at h ⊢
 split
 ·rename_i h1;rw [if_pos h1] at h;exact Cx.first8_take b hb M h
 ·rename_i h1;rw [if_neg h1] at h
  split
  ·rename_i h2;rw [if_pos h2] at h;exact Cx.first16_take 0 b hn M h
  ·rename_i h2;rw [if_neg h2] at h
   split
   ·rename_i h3;rw [if_pos h3] at h;exact Cx.first16_take 1 b hn M h
   ·rename_i h3;rw [if_neg h3] at h
    simp only at h
    rw [Cx.c0_take' b M (by omega)]
end Go.Proofs.YtdhciadajendnaaGreat
