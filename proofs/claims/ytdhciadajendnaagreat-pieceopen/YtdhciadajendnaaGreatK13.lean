import Derived.Test.YtdhciadajendnaaGreatK12
set_option maxRecDepth 100000
namespace Go.Proofs.YtdhciadajendnaaGreat
open Go.RowKit
def Cx.lowOf (enc:Int):Int:=if enc=2 then 0 else 1
def Cx.unitV (enc:Int) (zs:List Int) (at':Nat):Int:=if at' + 2≤zs.length then Cx.wv (Cx.lowOf enc) (zs.drop at') else -1
theorem unitAt_any (enc:Int) (v:Value) (zs:List Int) (at':Nat) (w:World) (h:Rd .u8 w v zs) (hb:Byt zs) (hat:at'≤4611686018427387800) (hm:zs.length≤4611686018427387000) :
  Calls Tryz.prog 130 #[.int .i64 enc,v,.int .i64 at'] w fun e w'=>e=.returned (.int .i64 (Cx.unitV enc zs at'))∧Below w.heap.size w w':=by
 obtain ⟨ao,cap,rfl,hlc,hcm,hc⟩:=h
 by_cases hl:at' + 2≤zs.length
 ·obtain ⟨b,off,rfl,hbl,hc⟩:=hc (List.length_pos_iff.1 (by omega))
  have h0:=hc at' (by omega)
  have h1:=hc (at' + 1) (by omega)
  have hx:=hb.at at'
  have hy:=hb.at (at' + 1)
  have HE:Hid (Cx.unitV enc zs at'=if enc=2 then zs[at' + 1]?.getD 0 * 256 + zs[at']?.getD 0 else zs[at']?.getD 0 * 256 + zs[at' + 1]?.getD 0):=by
   unfold Hid Cx.unitV Cx.wv Cx.lowOf
   rw [if_pos hl]
   simp only [List.getElem?_drop,Nat.add_zero]
   by_cases he:enc=2 <;> simp [he]
  generalize Cx.unitV enc zs at'=R at *
  generalize zs[at']?.getD 0=x at *
  generalize zs[at' + 1]?.getD 0=y at *
  have hi:(at':Int) < (zs.length:Int):=by omega
  have hi1:(at':Int) + 1 < (zs.length:Int):=by omega
  clear hc hb hcm
  by_cases he:enc=2
  ·subst he
   rw [if_pos rfl] at HE
   go_enter Tryz.func130,Tryz.ntmps130
   go_wp2
   go_quiet (fail)
   go_wp2
   go_ret
   refine ⟨ret_int' ?_,below_drewN (Below.refl _ _) _⟩
   have:=HE.out;omega
  ·rw [if_neg he] at HE
   have hq:(enc == 2)=false:=by simp [he]
   clear he
   go_enter Tryz.func130,Tryz.ntmps130
   go_wp2
   go_quiet (fail)
   go_wp2
   go_ret
   refine ⟨ret_int' ?_,below_drewN (Below.refl _ _) _⟩
   have:=HE.out;omega
 ·have HE:Hid (Cx.unitV enc zs at'=-1):=by unfold Hid Cx.unitV;rw [if_neg hl]
  clear hc hb hcm
  go_enter Tryz.func130,Tryz.ntmps130
  go_wp2
  go_ret
  exact ⟨ret_int' HE.out.symm,Below.refl _ _⟩
theorem Cx.first16_at (enc:Int) (zs:List Int) (at':Nat) (hu:0≤Cx.unitV enc zs at') :
  Cx.first16 (Cx.lowOf enc) (zs.drop at')=if Cx.hiU (Cx.unitV enc zs at')=true∧Cx.loU (Cx.unitV enc zs (at' + 2))=true then (65536 + (Cx.unitV enc zs at' - 55296) * 1024 + Cx.unitV enc zs (at' + 2) - 56320,4) else (Cx.unitV enc zs at',2):=by
 have h2:at' + 2≤zs.length:=by unfold Cx.unitV at hu;split at hu <;> omega
 have hlen:(zs.drop at').length=zs.length - at':=List.length_drop
 have e1:Cx.unitV enc zs at'=Cx.wv (Cx.lowOf enc) (zs.drop at'):=by unfold Cx.unitV;rw [if_pos h2]
 unfold Cx.first16
 rw [if_neg (by omega)]
 by_cases h4:at' + 4≤zs.length
 ·have e2:Cx.unitV enc zs (at' + 2)=Cx.wv (Cx.lowOf enc) ((zs.drop at').drop 2):=by unfold Cx.unitV;rw [if_pos (by omega),List.drop_drop]
  have e3:Cx.isP (Cx.lowOf enc) (zs.drop at')=(Cx.hiU (Cx.unitV enc zs at') && Cx.loU (Cx.unitV enc zs (at' + 2))):=by
   unfold Cx.isP;rw [decide_eq_true (by omega),Bool.true_and,e1,e2]
  rw [e3]
  simp only [Bool.and_eq_true]
  by_cases hc:Cx.hiU (Cx.unitV enc zs at')=true∧Cx.loU (Cx.unitV enc zs (at' + 2))=true
  ·rw [if_pos hc,if_pos hc];unfold Cx.pairV;rw [← e1,← e2];congr 1;omega
  ·rw [if_neg hc,if_neg hc,e1]
 ·have e2:Cx.unitV enc zs (at' + 2)=-1:=by unfold Cx.unitV;rw [if_neg (by omega)]
  have e3:Cx.isP (Cx.lowOf enc) (zs.drop at')=false:=by unfold Cx.isP;rw [decide_eq_false (by omega)];rfl
  rw [e3,if_neg (by simp),e2,if_neg (by simp [Cx.loU]),e1]
theorem Cx.fst_low (enc:Int) (zs:List Int) (h:enc=2∨enc=3):Cx.fst enc zs=Cx.first16 (Cx.lowOf enc) zs:=by
 rcases h with rfl | rfl <;> rfl
theorem At_any (enc:Int) (v:Value) (zs:List Int) (at':Nat) (w:World) (h:Rd .u8 w v zs) (hb:Byt zs) (he:enc=1∨enc=2∨enc=3∨enc=4) (hl:at' < zs.length) (hm:zs.length≤4611686018427387000) :
  Calls Tryz.prog 103 #[.int .i64 enc,v,.int .i64 at'] w fun e w'=>e=.returned (.tuple #[.int .i64 (Cx.fst enc (zs.drop at')).1,.int .i64 (Cx.fst enc (zs.drop at')).2])∧Below w.heap.size w w':=by
 have HR:Hid (Rd .u8 w v zs):=h
 have HB:Hid (Byt zs):=hb
 by_cases h1:enc=1
 ·subst h1
  have HE:Hid (Cx.fst 1 (zs.drop at')=Cx.first8 (zs.drop at')):=rfl
  clear h hb
  generalize Cx.fst 1 (zs.drop at')=R at *
  go_enter Tryz.func103,Tryz.ntmps103
  go_wp2_with fail
  refine (eightAt_any _ zs at' _ HR.out HB.out hl hm).mono ?_
  rintro e w1 ⟨rfl,hb1⟩
  go_wp2
  go_ret2
  exact ⟨by rw [HE.out];rfl,hb1⟩
 have q1:(enc == 1)=false:=by simp [h1]
 have hx:=hb.at at'
 obtain ⟨ao,cap,rfl,hlc,hcm,hc⟩:=h
 obtain ⟨b,off,rfl,hbl,hc⟩:=hc (List.length_pos_iff.1 (by omega))
 have h0:=hc at' hl
 have HX:Hid (zs[at']?.getD 0=Cx.c0 (zs.drop at')):=by unfold Hid Cx.c0;rw [List.getElem?_drop,Nat.add_zero]
 have hi:(at':Int) < (zs.length:Int):=by omega
 by_cases h4:enc=4
 ·subst h4
  have HE:Hid (Cx.fst 4 (zs.drop at')=(zs[at']?.getD 0,1)):=by unfold Hid;rw [HX.out];rfl
  generalize Cx.fst 4 (zs.drop at')=R at *
  generalize zs[at']?.getD 0=x at *
  clear hc hb hcm h1
  go_enter Tryz.func103,Tryz.ntmps103
  go_wp2
  go_ret2
  exact ⟨by rw [HE.out];rfl,Below.refl _ _⟩
 have q4:(enc == 4)=false:=by simp [h4]
 have he':enc=2∨enc=3:=by omega
 have HE:Hid (Cx.fst enc (zs.drop at')=Cx.first16 (Cx.lowOf enc) (zs.drop at')):=Cx.fst_low enc _ he'
 have HF:=Cx.first16_at enc zs at'
 have hub:Cx.unitV enc zs at'≤65535∧-1≤Cx.unitV enc zs at':=by
  have:=Cx.wv_bd (Cx.lowOf enc) (zs.drop at') (hb.drop at')
  unfold Cx.unitV;split <;> omega
 have hub2:Cx.unitV enc zs (at' + 2)≤65535∧-1≤Cx.unitV enc zs (at' + 2):=by
  have:=Cx.wv_bd (Cx.lowOf enc) (zs.drop (at' + 2)) (hb.drop (at' + 2))
  unfold Cx.unitV;split <;> omega
 have HO:Hid (Cx.unitV enc zs at'=-1→Cx.first16 (Cx.lowOf enc) (zs.drop at')=(-1 - Cx.c0 (zs.drop at'),1)):=by
  intro hu
  have hh:¬ at' + 2≤zs.length:=by
   intro hh
   have:=Cx.wv_bd (Cx.lowOf enc) (zs.drop at') (hb.drop at')
   unfold Cx.unitV at hu;rw [if_pos hh] at hu;omega
  unfold Cx.first16;rw [if_pos (by rw [List.length_drop];omega)]
 have HF':Hid (0≤Cx.unitV enc zs at'→Cx.first16 (Cx.lowOf enc) (zs.drop at')=if Cx.hiU (Cx.unitV enc zs at')=true∧Cx.loU (Cx.unitV enc zs (at' + 2))=true then (65536 + (Cx.unitV enc zs at' - 55296) * 1024 + Cx.unitV enc zs (at' + 2) - 56320,4) else (Cx.unitV enc zs at',2)):=HF
 rw [HE.out]
 clear hc hb hcm h1 h4 he he' HF
 generalize zs[at']?.getD 0=x at *
 go_enter Tryz.func103,Tryz.ntmps103
 go_wp2_with fail
 refine (unitAt_any enc _ zs at' _ HR.out HB.out (by omega) hm).mono ?_
 rintro e w1 ⟨rfl,hb1⟩
 have HW1:Hid (Below w.heap.size w w1):=hb1
 have h0':w1.cell? ⟨b,off + at',none⟩=some (.int .u8 x):=(hb1.cell (p:=⟨b,off + at',none⟩) hbl).trans h0
 clear hb1 h0
 by_cases hu:Cx.unitV enc zs at' < 0
 ·have hu':Cx.unitV enc zs at'=-1:=by omega
  have HT:Hid (Cx.first16 (Cx.lowOf enc) (zs.drop at')=(-1 - x,1)):=by rw [HX.out];exact HO.out hu'
  generalize Cx.unitV enc zs at'=u at *
  generalize Cx.unitV enc zs (at' + 2)=u2 at *
  clear HF' HO hu'
  go_wp2_with fail
  go_ret2
  exact ⟨by rw [HT.out];rfl,HW1.out⟩
 ·have HT:=HF'.out (by omega)
  have HT':Hid (Cx.first16 (Cx.lowOf enc) (zs.drop at')=if Cx.hiU (Cx.unitV enc zs at')=true∧Cx.loU (Cx.unitV enc zs (at' + 2))=true then (65536 + (Cx.unitV enc zs at' - 55296) * 1024 + Cx.unitV enc zs (at' + 2) - 56320,4) else (Cx.unitV enc zs at',2)):=HT
  clear HF' HO HT
  go_wp2_with fail
  refine (unitAt_any enc _ zs (at' + 2) _ (HR.out.ext HW1.out) HB.out (by omega) hm).mono ?_
  rintro e w2 ⟨rfl,hb2⟩
  have HW2:Hid (Below w.heap.size w w2):=zxt HW1.out hb2
  clear hb2 HW1 h0'
  generalize Cx.unitV enc zs at'=u at *
  generalize Cx.unitV enc zs (at' + 2)=u2 at *
  by_cases c1:55296≤u
  ·by_cases c2:u < 56320
   ·by_cases c3:56320≤u2
    ·by_cases c4:u2 < 57344
     ·have HU:Hid (Cx.first16 (Cx.lowOf enc) (zs.drop at')=(65536 + (u - 55296) * 1024 + u2 - 56320,4)):=by
       unfold Hid;rw [HT'.out,if_pos];unfold Cx.hiU Cx.loU;simp;omega
      clear HT'
      go_wp2_with fail
      go_ret2
      exact ⟨by rw [HU.out];rfl,HW2.out⟩
     ·have HU:Hid (Cx.first16 (Cx.lowOf enc) (zs.drop at')=(u,2)):=by
       unfold Hid;rw [HT'.out,if_neg];unfold Cx.hiU Cx.loU;simp;omega
      clear HT'
      go_wp2_with fail
      go_ret2
      exact ⟨by rw [HU.out];rfl,HW2.out⟩
    ·have HU:Hid (Cx.first16 (Cx.lowOf enc) (zs.drop at')=(u,2)):=by
      unfold Hid;rw [HT'.out,if_neg];unfold Cx.hiU Cx.loU;simp;omega
     clear HT'
     go_wp2_with fail
     go_ret2
     exact ⟨by rw [HU.out];rfl,HW2.out⟩
   ·have HU:Hid (Cx.first16 (Cx.lowOf enc) (zs.drop at')=(u,2)):=by
     unfold Hid;rw [HT'.out,if_neg];unfold Cx.hiU Cx.loU;simp;omega
    clear HT'
    go_wp2_with fail
    go_ret2
    exact ⟨by rw [HU.out];rfl,HW2.out⟩
  ·have HU:Hid (Cx.first16 (Cx.lowOf enc) (zs.drop at')=(u,2)):=by
    unfold Hid;rw [HT'.out,if_neg];unfold Cx.hiU Cx.loU;simp;omega
   clear HT'
   go_wp2_with fail
   go_ret2
   exact ⟨by rw [HU.out];rfl,HW2.out⟩
open Go.RowKit
theorem Cx.fst_bd (enc:Int) (b:List Int) (hn:b≠[]):1≤(Cx.fst enc b).2∧(Cx.fst enc b).2≤4∧(Cx.fst enc b).2≤b.length:=by
 have hpos:0 < b.length:=List.length_pos_iff.2 hn
 have h16:∀ k,1≤(Cx.first16 k b).2∧(Cx.first16 k b).2≤4∧(Cx.first16 k b).2≤b.length:=by
  intro k
  unfold Cx.first16
  split
  ·simp;omega
  ·split
   ·rename_i hp
    unfold Cx.isP at hp
    simp only [Bool.and_eq_true,decide_eq_true_eq] at hp
    have:=hp.1.1
    simp only;omega
   ·simp only;omega
 unfold Cx.fst
 split
 ·have:=Cx.mtch_bd b
  unfold Cx.first8
  split
  ·simp only;omega
  ·simp only;omega
 ·split
  ·exact h16 0
  ·split
   ·exact h16 1
   ·simp only;omega
def Cx.decF (enc:Int):Nat→List Int→List Int
 | 0,_=>[]
 | f + 1,b=>if b=[] then [] else (Cx.fst enc b).1 :: Cx.decF enc f (b.drop (Cx.fst enc b).2.toNat)
def Cx.dec (enc:Int) (b:List Int):List Int:=Cx.decF enc b.length b
theorem Cx.decF_more (enc:Int):∀ (f g:Nat) (b:List Int),b.length≤f→b.length≤g→Cx.decF enc f b=Cx.decF enc g b:=by
 intro f
 induction f with
 | zero =>
   intro g b hf _
   have:b=[]:=List.length_eq_zero_iff.1 (by omega)
   subst this
   cases g with
   | zero=>rfl
   | succ g=>simp [Cx.decF]
 | succ f ih =>
   intro g b hf hg
   by_cases hn:b=[]
   ·subst hn
    cases g with
    | zero=>simp [Cx.decF]
    | succ g=>simp [Cx.decF]
   ·have hp:0 < b.length:=List.length_pos_iff.2 hn
    have hb:=Cx.fst_bd enc b hn
    cases g with
    | zero=>omega
    | succ g =>
      simp only [Cx.decF,if_neg hn]
      rw [ih g (b.drop (Cx.fst enc b).2.toNat) (by rw [List.length_drop];omega) (by rw [List.length_drop];omega)]
theorem Cx.dec_nil (enc:Int):Cx.dec enc []=[]:=rfl
theorem Cx.dec_cons (enc:Int) (b:List Int) (hn:b≠[]) (a:Int) (n:Nat) (hf:Cx.fst enc b=(a,(n:Int))):Cx.dec enc b=a :: Cx.dec enc (b.drop n):=by
 have hp:0 < b.length:=List.length_pos_iff.2 hn
 have hb:=Cx.fst_bd enc b hn
 rw [hf] at hb
 unfold Cx.dec
 obtain ⟨m,hm⟩:∃ m,b.length=m + 1:=⟨b.length - 1,by omega⟩
 rw [hm]
 simp only [Cx.decF,if_neg hn,hf]
 rw [Int.toNat_natCast,Cx.decF_more enc m (b.drop n).length (b.drop n) (by rw [List.length_drop];simp only at hb;omega) (Nat.le_refl _)]
theorem Cx.dec_len (enc:Int):∀ (f:Nat) (b:List Int),(Cx.decF enc f b).length≤b.length:=by
 intro f
 induction f with
 | zero=>intro b;simp [Cx.decF]
 | succ f ih =>
   intro b
   by_cases hn:b=[]
   ·simp [Cx.decF,hn]
   ·have hb:=Cx.fst_bd enc b hn
    have:=ih (b.drop (Cx.fst enc b).2.toNat)
    simp only [Cx.decF,if_neg hn,List.length_cons]
    rw [List.length_drop] at this
    omega
theorem m_first1 (w : World) : (method 323 151 (.agg #[]) "copyist/codec.first").run Tryz.prog w = .ok (163, .agg #[]) w := by kernel_rfl
theorem m_first2 (k : Int) (w : World) : (method 323 153 (.agg #[.int .i64 k]) "copyist/codec.first").run Tryz.prog w = .ok (178, .agg #[.int .i64 k]) w := by kernel_rfl
theorem m_first4 (w : World) : (method 323 154 (.agg #[]) "copyist/codec.first").run Tryz.prog w = .ok (190, .agg #[]) w := by kernel_rfl
theorem fst1_any (v:Value) (zs:List Int) (a:Int) (n:Nat) (w:World) (h:Rd .u8 w v zs) (hb:Byt zs) (hn:zs≠[]) (hf:Cx.fst 1 zs=(a,(n:Int))) :
  Calls Tryz.prog 163 #[.agg #[],v] w fun e w'=>e=.returned (.tuple #[.int .i64 a,.int .i64 n])∧Below w.heap.size w w':=by
 have:=first8_any v zs w h hb hn
 rwa [show Cx.first8 zs=(a,(n:Int)) from hf] at this
theorem fst2_any (v:Value) (zs:List Int) (a:Int) (n:Nat) (w:World) (h:Rd .u8 w v zs) (hb:Byt zs) (hn:zs≠[]) (hf:Cx.fst 2 zs=(a,(n:Int))) :
  Calls Tryz.prog 178 #[.agg #[.int .i64 0],v] w fun e w'=>e=.returned (.tuple #[.int .i64 a,.int .i64 n])∧Below w.heap.size w w':=by
 have:=first16_any 0 v zs w h hb (.inl rfl) hn
 rwa [show Cx.first16 0 zs=(a,(n:Int)) from hf] at this
theorem fst3_any (v:Value) (zs:List Int) (a:Int) (n:Nat) (w:World) (h:Rd .u8 w v zs) (hb:Byt zs) (hn:zs≠[]) (hf:Cx.fst 3 zs=(a,(n:Int))) :
  Calls Tryz.prog 178 #[.agg #[.int .i64 1],v] w fun e w'=>e=.returned (.tuple #[.int .i64 a,.int .i64 n])∧Below w.heap.size w w':=by
 have:=first16_any 1 v zs w h hb (.inr rfl) hn
 rwa [show Cx.first16 1 zs=(a,(n:Int)) from hf] at this
theorem fst4_any (v:Value) (zs:List Int) (a:Int) (n:Nat) (w:World) (h:Rd .u8 w v zs) (hb:Byt zs) (hn:zs≠[]) (hf:Cx.fst 4 zs=(a,(n:Int))) :
  Calls Tryz.prog 190 #[.agg #[],v] w fun e w'=>e=.returned (.tuple #[.int .i64 a,.int .i64 n])∧Below w.heap.size w w':=by
 have:=first4_any v zs w h hb hn
 have e:(Cx.c0 zs,(1:Int))=(a,(n:Int)):=hf
 rw [Prod.mk.injEq] at e
 rwa [e.1,e.2] at this
def lenOf:Value→Nat | .slice _ n _=>n | _=>0
theorem Rd.cut_same {k:IntKind} {w:World} {ao:Option Addr} {len cap n:Nat} {zs:List Int} (h:Rd k w (.slice ao len cap) zs) (hc:cap=n):Rd k w (.slice ao (len - n) (cap - n)) (zs.drop n):=by
 obtain ⟨ao',cap',hv,h1,h2,h3⟩:=h
 cases hv
 have hd:zs.drop n=[]:=List.drop_eq_nil_of_le (by omega)
 rw [hd]
 exact ⟨ao,cap - n,by simp;omega,by simp,by omega,fun h=>absurd rfl h⟩
theorem Rd.cut {k:IntKind} {w:World} {b off len cap n:Nat} {zs:List Int} (h:Rd k w (.slice (some ⟨b,off,none⟩) len cap) zs) (hn:n≤zs.length):Rd k w (.slice (some ⟨b,off + n,none⟩) (len - n) (cap - n)) (zs.drop n):=by
 obtain ⟨ao',cap',hv,h1,h2,h3⟩:=h
 cases hv
 refine ⟨_,cap - n,by rw [List.length_drop],by rw [List.length_drop];omega,by omega,fun hd=>?_⟩
 obtain ⟨b',off',ha,hb,hc⟩:=h3 (fun h=>hd (by rw [h];simp))
 cases ha
 refine ⟨b,off + n,rfl,hb,fun i hi=>?_⟩
 rw [List.length_drop] at hi
 rw [Nat.add_assoc,hc (n + i) (by omega),List.getElem?_drop]
theorem Rd.cut_if {k:IntKind} {w:World} {b off len cap n:Nat} {zs:List Int} (h:Rd k w (.slice (some ⟨b,off,none⟩) len cap) zs) (hn:n≤zs.length):Rd k w (.slice (if cap=n then some ⟨b,off,none⟩ else some ⟨b,off + n,none⟩) (len - n) (cap - n)) (zs.drop n):=by
 split
 ·exact h.cut_same (by assumption)
 ·exact h.cut hn
theorem snoc_map (l:List Int) (a:Int):l.map (Value.int .i64) ++ [Value.int .i64 a]=(l ++ [a]).map (Value.int .i64):=by simp
set_option maxHeartbeats 1000000 in
theorem decodeAll_1 (v:Value) (zs:List Int) (w:World) (h:Rd .u8 w v zs) (hb:Byt zs) (hz:zs.length * 8≤140737488355328) :
  Calls Tryz.prog 73 #[.iface 151 (.agg #[]),v] w fun e w'=>∃ v',e=.returned v'∧w'.ownsRow w.heap.size 3 1 v' (Cx.dec 1 zs).length ((Cx.dec 1 zs).map (Value.int .i64))∧Below w.heap.size w w':=by
 obtain ⟨i0,hi,hz0,hz1,hz2⟩:=info_parts Tryz.info_i64
 have HR:Hid (Rd .u8 w v zs):=h
 have HB:Hid (Byt zs):=hb
 clear h hb
 have hmt:=m_first1
 go_enter Tryz.func73,Tryz.ntmps73
 go_wp2_with fail
 go_loopw [1,5] (fun bv o wr=>∃ ys l:List Int,Hid (Cx.dec 1 zs=l ++ Cx.dec 1 ys)∧l.length + ys.length≤zs.length∧Hid (Rd .u8 w bv ys)∧Hid (Byt ys)∧wr.ownsRow w.heap.size 3 1 o l.length (l.map (Value.int .i64))∧Below w.heap.size w wr) (fun bv _ _=>lenOf bv)
 case atStart=>exact ⟨zs,[],rfl,by simp,HR.out,HB.out,World.ownsRow_nil _ _ _ _,Below.refl _ _⟩
 case round =>
  obtain ⟨ys,l,HD,hle,HY,HYB,hown,hbw⟩:=hrel
  have hw':w.heap.size≤wr.heap.size:=hbw.size
  have hylen:=HY.out.len
  by_cases hn:ys=[]
  ·have HE:Hid (Cx.dec 1 zs=l):=by unfold Hid;rw [HD.out,hn,Cx.dec_nil,List.append_nil]
   obtain ⟨ao,cap,hv,hlc,hcm,_⟩:=HY.out
   rw [hn] at hv
   subst hv
   clear HY HD HYB
   simp only [List.length_nil]
   go_wp2
   go_ret
   exact ⟨_,rfl,by rw [HE.out];exact hown,hbw⟩
  ·obtain ⟨a,n,hf,hn1,hn2⟩:∃ (a:Int) (n:Nat),Cx.fst 1 ys=(a,(n:Int))∧1≤n∧n≤ys.length:=by
    have:=Cx.fst_bd 1 ys hn
    exact ⟨_,(Cx.fst 1 ys).2.toNat,Prod.ext rfl (by simp only;omega),by omega,by omega⟩
   have HF:Hid (Cx.fst 1 ys=(a,(n:Int))):=hf
   have HD':Hid (Cx.dec 1 zs=(l ++ [a]) ++ Cx.dec 1 (ys.drop n)):=by unfold Hid;rw [HD.out,Cx.dec_cons 1 ys hn a n hf];simp
   have HNE:Hid (ys≠[]):=hn
   have hyp:0 < ys.length:=List.length_pos_iff.2 hn
   obtain ⟨ao,cap,hv,hlc,hcm,hrest⟩:=HY.out
   obtain ⟨b,off,hao,_⟩:=hrest hn
   subst hao
   subst hv
   have hcm':cap≤9223372036854775807:=hcm
   have HT:=snoc_map l a
   have HT':Hid (l.map (Value.int .i64) ++ [Value.int .i64 a]=(l ++ [a]).map (Value.int .i64)):=HT
   have hdl:(ys.drop n).length=ys.length - n:=List.length_drop
   clear hf hn hrest hcm HT HD
   generalize hml:l.map (Value.int .i64)=ml at *
   clear hml
   go_wp2_with fail
   refine (fst1_any _ ys a n _ (HY.out.ext hbw) HYB.out HNE.out HF.out).mono ?_
   rintro e w1 ⟨rfl,hb1⟩
   have hown1:=own_ext hown hb1
   have hbw1:Below w.heap.size w w1:=zxt hbw hb1
   have hw1:w.heap.size≤w1.heap.size:=hbw1.size
   clear hown hbw hb1
   go_wp2_with (at_builtin;refine wpList_append_own _ rfl _ _ 44 rfl w.heap.size 3 i0 (.int .i64 0) 1 8 Tryz.underlying44 hi hz0 hz1 hz2 rfl (by decide) _ _ _ rfl (hown1.alloc _) ⟨w1.heap.size,0,none⟩ 1 1 [.int .i64 a] rfl rfl (cell_one_new _ _ _) (one_i64 _) (by unfold maxLen;omega) (by omega) (by simp;omega) ?_;intro v' w' hown' hg' hx')
   all_goals refine ⟨⟨ys.drop n,l ++ [a],HD'.out,?_,?_,HYB.out.drop n,?_,below_push hbw1 hown1 hg'⟩,?_⟩
   all_goals first
    | exact HY.out.cut_if hn2
    | exact HY.out.cut hn2
    | exact HY.out.cut_same (by assumption)
    | (rw [hdl,List.length_append,List.length_singleton];omega)
    | (rw [List.length_append];rw [HT'.out] at hown';exact hown')
    | (simp only [lenOf];omega)
set_option maxHeartbeats 1000000 in
theorem decodeAll_2 (v:Value) (zs:List Int) (w:World) (h:Rd .u8 w v zs) (hb:Byt zs) (hz:zs.length * 8≤140737488355328) :
  Calls Tryz.prog 73 #[.iface 153 (.agg #[.int .i64 0]),v] w fun e w'=>∃ v',e=.returned v'∧w'.ownsRow w.heap.size 3 1 v' (Cx.dec 2 zs).length ((Cx.dec 2 zs).map (Value.int .i64))∧Below w.heap.size w w':=by
 obtain ⟨i0,hi,hz0,hz1,hz2⟩:=info_parts Tryz.info_i64
 have HR:Hid (Rd .u8 w v zs):=h
 have HB:Hid (Byt zs):=hb
 clear h hb
 have hmt:=m_first2
 go_enter Tryz.func73,Tryz.ntmps73
 go_wp2_with fail
 go_loopw [1,5] (fun bv o wr=>∃ ys l:List Int,Hid (Cx.dec 2 zs=l ++ Cx.dec 2 ys)∧l.length + ys.length≤zs.length∧Hid (Rd .u8 w bv ys)∧Hid (Byt ys)∧wr.ownsRow w.heap.size 3 1 o l.length (l.map (Value.int .i64))∧Below w.heap.size w wr) (fun bv _ _=>lenOf bv)
 case atStart=>exact ⟨zs,[],rfl,by simp,HR.out,HB.out,World.ownsRow_nil _ _ _ _,Below.refl _ _⟩
 case round =>
  obtain ⟨ys,l,HD,hle,HY,HYB,hown,hbw⟩:=hrel
  have hw':w.heap.size≤wr.heap.size:=hbw.size
  have hylen:=HY.out.len
  by_cases hn:ys=[]
  ·have HE:Hid (Cx.dec 2 zs=l):=by unfold Hid;rw [HD.out,hn,Cx.dec_nil,List.append_nil]
   obtain ⟨ao,cap,hv,hlc,hcm,_⟩:=HY.out
   rw [hn] at hv
   subst hv
   clear HY HD HYB
   simp only [List.length_nil]
   go_wp2
   go_ret
   exact ⟨_,rfl,by rw [HE.out];exact hown,hbw⟩
  ·obtain ⟨a,n,hf,hn1,hn2⟩:∃ (a:Int) (n:Nat),Cx.fst 2 ys=(a,(n:Int))∧1≤n∧n≤ys.length:=by
    have:=Cx.fst_bd 2 ys hn
    exact ⟨_,(Cx.fst 2 ys).2.toNat,Prod.ext rfl (by simp only;omega),by omega,by omega⟩
   have HF:Hid (Cx.fst 2 ys=(a,(n:Int))):=hf
   have HD':Hid (Cx.dec 2 zs=(l ++ [a]) ++ Cx.dec 2 (ys.drop n)):=by unfold Hid;rw [HD.out,Cx.dec_cons 2 ys hn a n hf];simp
   have HNE:Hid (ys≠[]):=hn
   have hyp:0 < ys.length:=List.length_pos_iff.2 hn
   obtain ⟨ao,cap,hv,hlc,hcm,hrest⟩:=HY.out
   obtain ⟨b,off,hao,_⟩:=hrest hn
   subst hao
   subst hv
   have hcm':cap≤9223372036854775807:=hcm
   have HT:=snoc_map l a
   have HT':Hid (l.map (Value.int .i64) ++ [Value.int .i64 a]=(l ++ [a]).map (Value.int .i64)):=HT
   have hdl:(ys.drop n).length=ys.length - n:=List.length_drop
   clear hf hn hrest hcm HT HD
   generalize hml:l.map (Value.int .i64)=ml at *
   clear hml
   go_wp2_with fail
   refine (fst2_any _ ys a n _ (HY.out.ext hbw) HYB.out HNE.out HF.out).mono ?_
   rintro e w1 ⟨rfl,hb1⟩
   have hown1:=own_ext hown hb1
   have hbw1:Below w.heap.size w w1:=zxt hbw hb1
   have hw1:w.heap.size≤w1.heap.size:=hbw1.size
   clear hown hbw hb1
   go_wp2_with (at_builtin;refine wpList_append_own _ rfl _ _ 44 rfl w.heap.size 3 i0 (.int .i64 0) 1 8 Tryz.underlying44 hi hz0 hz1 hz2 rfl (by decide) _ _ _ rfl (hown1.alloc _) ⟨w1.heap.size,0,none⟩ 1 1 [.int .i64 a] rfl rfl (cell_one_new _ _ _) (one_i64 _) (by unfold maxLen;omega) (by omega) (by simp;omega) ?_;intro v' w' hown' hg' hx')
   all_goals refine ⟨⟨ys.drop n,l ++ [a],HD'.out,?_,?_,HYB.out.drop n,?_,below_push hbw1 hown1 hg'⟩,?_⟩
   all_goals first
    | exact HY.out.cut_if hn2
    | exact HY.out.cut hn2
    | exact HY.out.cut_same (by assumption)
    | (rw [hdl,List.length_append,List.length_singleton];omega)
    | (rw [List.length_append];rw [HT'.out] at hown';exact hown')
    | (simp only [lenOf];omega)
set_option maxHeartbeats 1000000 in
theorem decodeAll_3 (v:Value) (zs:List Int) (w:World) (h:Rd .u8 w v zs) (hb:Byt zs) (hz:zs.length * 8≤140737488355328) :
  Calls Tryz.prog 73 #[.iface 153 (.agg #[.int .i64 1]),v] w fun e w'=>∃ v',e=.returned v'∧w'.ownsRow w.heap.size 3 1 v' (Cx.dec 3 zs).length ((Cx.dec 3 zs).map (Value.int .i64))∧Below w.heap.size w w':=by
 obtain ⟨i0,hi,hz0,hz1,hz2⟩:=info_parts Tryz.info_i64
 have HR:Hid (Rd .u8 w v zs):=h
 have HB:Hid (Byt zs):=hb
 clear h hb
 have hmt:=m_first2
 go_enter Tryz.func73,Tryz.ntmps73
 go_wp2_with fail
 go_loopw [1,5] (fun bv o wr=>∃ ys l:List Int,Hid (Cx.dec 3 zs=l ++ Cx.dec 3 ys)∧l.length + ys.length≤zs.length∧Hid (Rd .u8 w bv ys)∧Hid (Byt ys)∧wr.ownsRow w.heap.size 3 1 o l.length (l.map (Value.int .i64))∧Below w.heap.size w wr) (fun bv _ _=>lenOf bv)
 case atStart=>exact ⟨zs,[],rfl,by simp,HR.out,HB.out,World.ownsRow_nil _ _ _ _,Below.refl _ _⟩
 case round =>
  obtain ⟨ys,l,HD,hle,HY,HYB,hown,hbw⟩:=hrel
  have hw':w.heap.size≤wr.heap.size:=hbw.size
  have hylen:=HY.out.len
  by_cases hn:ys=[]
  ·have HE:Hid (Cx.dec 3 zs=l):=by unfold Hid;rw [HD.out,hn,Cx.dec_nil,List.append_nil]
   obtain ⟨ao,cap,hv,hlc,hcm,_⟩:=HY.out
   rw [hn] at hv
   subst hv
   clear HY HD HYB
   simp only [List.length_nil]
   go_wp2
   go_ret
   exact ⟨_,rfl,by rw [HE.out];exact hown,hbw⟩
  ·obtain ⟨a,n,hf,hn1,hn2⟩:∃ (a:Int) (n:Nat),Cx.fst 3 ys=(a,(n:Int))∧1≤n∧n≤ys.length:=by
    have:=Cx.fst_bd 3 ys hn
    exact ⟨_,(Cx.fst 3 ys).2.toNat,Prod.ext rfl (by simp only;omega),by omega,by omega⟩
   have HF:Hid (Cx.fst 3 ys=(a,(n:Int))):=hf
   have HD':Hid (Cx.dec 3 zs=(l ++ [a]) ++ Cx.dec 3 (ys.drop n)):=by unfold Hid;rw [HD.out,Cx.dec_cons 3 ys hn a n hf];simp
   have HNE:Hid (ys≠[]):=hn
   have hyp:0 < ys.length:=List.length_pos_iff.2 hn
   obtain ⟨ao,cap,hv,hlc,hcm,hrest⟩:=HY.out
   obtain ⟨b,off,hao,_⟩:=hrest hn
   subst hao
   subst hv
   have hcm':cap≤9223372036854775807:=hcm
   have HT:=snoc_map l a
   have HT':Hid (l.map (Value.int .i64) ++ [Value.int .i64 a]=(l ++ [a]).map (Value.int .i64)):=HT
   have hdl:(ys.drop n).length=ys.length - n:=List.length_drop
   clear hf hn hrest hcm HT HD
   generalize hml:l.map (Value.int .i64)=ml at *
   clear hml
   go_wp2_with fail
   refine (fst3_any _ ys a n _ (HY.out.ext hbw) HYB.out HNE.out HF.out).mono ?_
   rintro e w1 ⟨rfl,hb1⟩
   have hown1:=own_ext hown hb1
   have hbw1:Below w.heap.size w w1:=zxt hbw hb1
   have hw1:w.heap.size≤w1.heap.size:=hbw1.size
   clear hown hbw hb1
   go_wp2_with (at_builtin;refine wpList_append_own _ rfl _ _ 44 rfl w.heap.size 3 i0 (.int .i64 0) 1 8 Tryz.underlying44 hi hz0 hz1 hz2 rfl (by decide) _ _ _ rfl (hown1.alloc _) ⟨w1.heap.size,0,none⟩ 1 1 [.int .i64 a] rfl rfl (cell_one_new _ _ _) (one_i64 _) (by unfold maxLen;omega) (by omega) (by simp;omega) ?_;intro v' w' hown' hg' hx')
   all_goals refine ⟨⟨ys.drop n,l ++ [a],HD'.out,?_,?_,HYB.out.drop n,?_,below_push hbw1 hown1 hg'⟩,?_⟩
   all_goals first
    | exact HY.out.cut_if hn2
    | exact HY.out.cut hn2
    | exact HY.out.cut_same (by assumption)
    | (rw [hdl,List.length_append,List.length_singleton];omega)
    | (rw [List.length_append];rw [HT'.out] at hown';exact hown')
    | (simp only [lenOf];omega)
set_option maxHeartbeats 1000000 in
theorem decodeAll_4 (v:Value) (zs:List Int) (w:World) (h:Rd .u8 w v zs) (hb:Byt zs) (hz:zs.length * 8≤140737488355328) :
  Calls Tryz.prog 73 #[.iface 154 (.agg #[]),v] w fun e w'=>∃ v',e=.returned v'∧w'.ownsRow w.heap.size 3 1 v' (Cx.dec 4 zs).length ((Cx.dec 4 zs).map (Value.int .i64))∧Below w.heap.size w w':=by
 obtain ⟨i0,hi,hz0,hz1,hz2⟩:=info_parts Tryz.info_i64
 have HR:Hid (Rd .u8 w v zs):=h
 have HB:Hid (Byt zs):=hb
 clear h hb
 have hmt:=m_first4
 go_enter Tryz.func73,Tryz.ntmps73
 go_wp2_with fail
 go_loopw [1,5] (fun bv o wr=>∃ ys l:List Int,Hid (Cx.dec 4 zs=l ++ Cx.dec 4 ys)∧l.length + ys.length≤zs.length∧Hid (Rd .u8 w bv ys)∧Hid (Byt ys)∧wr.ownsRow w.heap.size 3 1 o l.length (l.map (Value.int .i64))∧Below w.heap.size w wr) (fun bv _ _=>lenOf bv)
 case atStart=>exact ⟨zs,[],rfl,by simp,HR.out,HB.out,World.ownsRow_nil _ _ _ _,Below.refl _ _⟩
 case round =>
  obtain ⟨ys,l,HD,hle,HY,HYB,hown,hbw⟩:=hrel
  have hw':w.heap.size≤wr.heap.size:=hbw.size
  have hylen:=HY.out.len
  by_cases hn:ys=[]
  ·have HE:Hid (Cx.dec 4 zs=l):=by unfold Hid;rw [HD.out,hn,Cx.dec_nil,List.append_nil]
   obtain ⟨ao,cap,hv,hlc,hcm,_⟩:=HY.out
   rw [hn] at hv
   subst hv
   clear HY HD HYB
   simp only [List.length_nil]
   go_wp2
   go_ret
   exact ⟨_,rfl,by rw [HE.out];exact hown,hbw⟩
  ·obtain ⟨a,n,hf,hn1,hn2⟩:∃ (a:Int) (n:Nat),Cx.fst 4 ys=(a,(n:Int))∧1≤n∧n≤ys.length:=by
    have:=Cx.fst_bd 4 ys hn
    exact ⟨_,(Cx.fst 4 ys).2.toNat,Prod.ext rfl (by simp only;omega),by omega,by omega⟩
   have HF:Hid (Cx.fst 4 ys=(a,(n:Int))):=hf
   have HD':Hid (Cx.dec 4 zs=(l ++ [a]) ++ Cx.dec 4 (ys.drop n)):=by unfold Hid;rw [HD.out,Cx.dec_cons 4 ys hn a n hf];simp
   have HNE:Hid (ys≠[]):=hn
   have hyp:0 < ys.length:=List.length_pos_iff.2 hn
   obtain ⟨ao,cap,hv,hlc,hcm,hrest⟩:=HY.out
   obtain ⟨b,off,hao,_⟩:=hrest hn
   subst hao
   subst hv
   have hcm':cap≤9223372036854775807:=hcm
   have HT:=snoc_map l a
   have HT':Hid (l.map (Value.int .i64) ++ [Value.int .i64 a]=(l ++ [a]).map (Value.int .i64)):=HT
   have hdl:(ys.drop n).length=ys.length - n:=List.length_drop
   clear hf hn hrest hcm HT HD
   generalize hml:l.map (Value.int .i64)=ml at *
   clear hml
   go_wp2_with fail
   refine (fst4_any _ ys a n _ (HY.out.ext hbw) HYB.out HNE.out HF.out).mono ?_
   rintro e w1 ⟨rfl,hb1⟩
   have hown1:=own_ext hown hb1
   have hbw1:Below w.heap.size w w1:=zxt hbw hb1
   have hw1:w.heap.size≤w1.heap.size:=hbw1.size
   clear hown hbw hb1
   go_wp2_with (at_builtin;refine wpList_append_own _ rfl _ _ 44 rfl w.heap.size 3 i0 (.int .i64 0) 1 8 Tryz.underlying44 hi hz0 hz1 hz2 rfl (by decide) _ _ _ rfl (hown1.alloc _) ⟨w1.heap.size,0,none⟩ 1 1 [.int .i64 a] rfl rfl (cell_one_new _ _ _) (one_i64 _) (by unfold maxLen;omega) (by omega) (by simp;omega) ?_;intro v' w' hown' hg' hx')
   all_goals refine ⟨⟨ys.drop n,l ++ [a],HD'.out,?_,?_,HYB.out.drop n,?_,below_push hbw1 hown1 hg'⟩,?_⟩
   all_goals first
    | exact HY.out.cut_if hn2
    | exact HY.out.cut hn2
    | exact HY.out.cut_same (by assumption)
    | (rw [hdl,List.length_append,List.length_singleton];omega)
    | (rw [List.length_append];rw [HT'.out] at hown';exact hown')
    | (simp only [lenOf];omega)
open Go.RowKit
def Cx.dd (enc:Int) (zs:List Int):List Int:=if Cx.known enc=true then Cx.dec enc zs else []
def Cx.er (enc:Int):Int:=if Cx.known enc=true then 0 else 10
theorem Cx.known_iff (enc:Int):Cx.known enc=true ↔ (enc=1∨enc=2∨enc=3∨enc=4):=by unfold Cx.known;simp;omega
theorem Cx.known_no (enc:Int) (h:Cx.known enc=false):enc≠1∧enc≠2∧enc≠3∧enc≠4:=by
 unfold Cx.known at h;simp at h;omega
theorem Cx.dd_yes (enc:Int) (zs:List Int) (h:Cx.known enc=true):Cx.dd enc zs=Cx.dec enc zs:=by unfold Cx.dd;rw [if_pos h]
theorem Cx.dd_no (enc:Int) (zs:List Int) (h:Cx.known enc=false):Cx.dd enc zs=[]:=by unfold Cx.dd;rw [h];rfl
theorem Decode_any (enc:Int) (v:Value) (zs:List Int) (w:World) (h:Rd .u8 w v zs) (hb:Byt zs) (hz:zs.length * 8≤140737488355328) :
  Calls Tryz.prog 49 #[.int .i64 enc,v] w fun e w'=>∃ v',e=.returned (.tuple #[v',.int .i64 (Cx.er enc)])∧w'.ownsRow w.heap.size 3 1 v' (Cx.dd enc zs).length ((Cx.dd enc zs).map (Value.int .i64))∧Below w.heap.size w w':=by
 have HR:Hid (Rd .u8 w v zs):=h
 have HB:Hid (Byt zs):=hb
 clear h hb
 cases hk:Cx.known enc
 ·have HE:Hid (Cx.dd enc zs=[]):=Cx.dd_no enc zs hk
  have HX:Hid (Cx.er enc=10):=by unfold Hid Cx.er;rw [hk];rfl
  obtain ⟨h1,h2,h3,h4⟩:=Cx.known_no enc hk
  clear hk
  go_enter Tryz.func49,Tryz.ntmps49
  go_wp2_with (go_at_call 62;refine (coderOf_no _ h1 h2 h3 h4 _).mono ?_;rintro e w' ⟨rfl,rfl⟩)
  go_ret2
  exact ⟨_,by rw [HX.out];rfl,by rw [HE.out];exact World.ownsRow_nil _ _ _ _,Below.refl _ _⟩
 ·have HX:Hid (Cx.er enc=0):=by unfold Hid Cx.er;rw [hk];rfl
  have HE:Hid (Cx.dd enc zs=Cx.dec enc zs):=Cx.dd_yes enc zs hk
  rcases (Cx.known_iff enc).1 hk with rfl | rfl | rfl | rfl
  ·clear hk
   go_enter Tryz.func49,Tryz.ntmps49
   go_wp2_with (first | (go_at_call 62;refine (coderOf_1 _).mono ?_;rintro e w' ⟨rfl,rfl⟩) | (go_at_call 73;refine (decodeAll_1 _ zs _ HR.out HB.out hz).mono ?_;rintro e w' ⟨v',rfl,hown,hbw⟩))
   go_ret2
   exact ⟨_,by rw [HX.out];rfl,by rw [HE.out];assumption,by assumption⟩
  ·clear hk
   go_enter Tryz.func49,Tryz.ntmps49
   go_wp2_with (first | (go_at_call 62;refine (coderOf_2 _).mono ?_;rintro e w' ⟨rfl,rfl⟩) | (go_at_call 73;refine (decodeAll_2 _ zs _ HR.out HB.out hz).mono ?_;rintro e w' ⟨v',rfl,hown,hbw⟩))
   go_ret2
   exact ⟨_,by rw [HX.out];rfl,by rw [HE.out];assumption,by assumption⟩
  ·clear hk
   go_enter Tryz.func49,Tryz.ntmps49
   go_wp2_with (first | (go_at_call 62;refine (coderOf_3 _).mono ?_;rintro e w' ⟨rfl,rfl⟩) | (go_at_call 73;refine (decodeAll_3 _ zs _ HR.out HB.out hz).mono ?_;rintro e w' ⟨v',rfl,hown,hbw⟩))
   go_ret2
   exact ⟨_,by rw [HX.out];rfl,by rw [HE.out];assumption,by assumption⟩
  ·clear hk
   go_enter Tryz.func49,Tryz.ntmps49
   go_wp2_with (first | (go_at_call 62;refine (coderOf_4 _).mono ?_;rintro e w' ⟨rfl,rfl⟩) | (go_at_call 73;refine (decodeAll_4 _ zs _ HR.out HB.out hz).mono ?_;rintro e w' ⟨v',rfl,hown,hbw⟩))
   go_ret2
   exact ⟨_,by rw [HX.out];rfl,by rw [HE.out];assumption,by assumption⟩
theorem rknown_any (enc:Int) (w:World):Calls Tryz.prog 102 #[.int .i64 enc] w fun e w'=>e=.returned (.bool (Cx.known enc))∧w'=w:=by
 unfold Cx.known
 by_cases h1:1≤enc
 ·go_enter Tryz.func102,Tryz.ntmps102
  go_wp2
  go_ret
  exact ⟨by rw [decide_eq_true h1,Bool.true_and];rfl,rfl⟩
 ·have hd:decide (1≤enc)=false:=by simp;omega
  go_enter Tryz.func102,Tryz.ntmps102
  go_wp2
  go_ret
  exact ⟨rfl,rfl⟩
open Go.RowKit
section
variable {P:Program} (w:World)
theorem run_append_blk (base:Nat) (t ty e:TypeId) (i:TypeInfo) (z:Value) (size bytes:Nat) (ht:P.underlying t=some (.slice e)) (hi:P.info? e=some i) (hz:i.zero=some z)
  (hsize:i.size=size) (hby:i.bytes=bytes) (hzs:z.cells.size=size) (hsz:0 < size)
  (v:Value) (n:Nat) (xs:List Value) (hown:w.ownsRow base e size v n xs)
  (a:Addr) (m c:Nat) (news:List Value) (hl:news.length=m * size) (hnews:∀ j u,news[j]?=some u→w.cell? (a.add j)=some u) (h1:∀ u ∈ news,u.oneCell'=true)
  (h63:n + m≤maxLen) (hbytes:(n + m) * bytes≤140737488355328) (hbase:base≤w.heap.size) (hm:0 < m) :
  ∃ v' w',(Builtin.append_ #[t,t] ty #[v,.slice (some a) m c]).run P w=.ok v' w'∧w'.ownsRow base e size v' (n + m) (xs ++ news)∧w.grownBy w' v.ownBlock ∧
    (v'.ownBlock=v.ownBlock∨v'.ownBlock=some w.heap.size):=by
 obtain ⟨v',w',hr,h2,h3,_⟩:=run_append_own (P:=P) w base t ty e i z size bytes ht hi hz hsize hby hzs hsz v n xs hown a m c news hl hnews h1 h63 hbytes hbase
 refine ⟨v',w',hr,h2,h3,?_⟩
 subst hsize
 subst hby
 have hsmall:n + m≤9223372036854775807:=by simp only [maxLen] at h63;omega
 rcases hown.2 with ⟨rfl,rfl⟩ | ⟨g,cap,cur,rfl,hbg,hg,hnc,hcm,hcs,htake⟩
 ·have h:=run_append_nil (P:=P) w t ty e i z ht hi hz a m c news hl hnews hm (by omega) (by simp only [Nat.zero_add] at hbytes;omega)
  rw [h] at hr
  cases hr
  exact .inr rfl
 ·by_cases hroom:n + m≤cap
  ·have hfit:n * i.size + news.length≤cur.size:=by rw [hl,hcs,← Nat.add_mul];exact Nat.mul_le_mul_right _ hroom
   have h:=run_append_room (P:=P) w t ty e i ht hi g n cap cur hg a m c news hl hnews h1 hroom hfit
   rw [h] at hr
   cases hr
   exact .inl rfl
  ·have holds:∀ j u,xs[j]?=some u→w.cell? ((⟨g,0,none⟩:Addr).add j)=some u:=hown.cells (g:=g) rfl
   have h:=run_append_grow (P:=P) w t ty e i z ht hi hz ⟨g,0,none⟩ n cap xs hown.1 holds a m c news hl hnews (by omega) (by omega) (growslice_fits (by omega) hbytes)
   rw [h] at hr
   cases hr
   exact .inr rfl
theorem wpList_append_blk {ops:Array Oper} {rest:List Oper} {o:Oper} {a:Act} {Q:Exit→Act→World→Prop} (hgd:o.guard=none) (s x:Operand) (t:TypeId)
  (ho:o.op=.call { callee:=.builtin .append,args:=#[s,x],argTypes:=#[t,t] })
  (base:Nat) (e:TypeId) (i:TypeInfo) (z:Value) (size bytes:Nat) (ht:P.underlying t=some (.slice e)) (hi:P.info? e=some i) (hz:i.zero=some z)
  (hsize:i.size=size) (hby:i.bytes=bytes) (hzs:z.cells.size=size) (hsz:0 < size)
  (v:Value) (n:Nat) (xs:List Value) (hs:a.eval s=v) (hown:w.ownsRow base e size v n xs)
  (ad:Addr) (m c:Nat) (news:List Value) (hx:a.eval x=.slice (some ad) m c) (hl:news.length=m * size) (hnews:∀ j u,news[j]?=some u→w.cell? (ad.add j)=some u) (h1:∀ u ∈ news,u.oneCell'=true)
  (h63:n + m≤maxLen) (hbytes:(n + m) * bytes≤140737488355328) (hbase:base≤w.heap.size) (hm:0 < m)
  (h:∀ v' w',w'.ownsRow base e size v' (n + m) (xs ++ news)→w.grownBy w' v.ownBlock→(v'.ownBlock=v.ownBlock∨v'.ownBlock=some w.heap.size)→wpList P ops Q rest (a.put o.dst v') w'):wpList P ops Q (o :: rest) a w :=
 wpList_plain hgd fun K hK=>by
  obtain ⟨v',w',hr,h2,h3,h4⟩:=run_append_blk (P:=P) w base t o.type e i z size bytes ht hi hz hsize hby hzs hsz v n xs hown ad m c news hl hnews h1 h63 hbytes hbase hm
  unfold Oper.wp execOp
  simp only [ho,resolve,invoke,builtin,Sem.run_bind,Sem.run_pure,Result.andThen_ok,List.map_toArray,List.map_cons,List.map_nil,hs,hx,hr]
  exact hK _ _ (h v' w' h2 h3 h4)
end
end Go.Proofs.YtdhciadajendnaaGreat
