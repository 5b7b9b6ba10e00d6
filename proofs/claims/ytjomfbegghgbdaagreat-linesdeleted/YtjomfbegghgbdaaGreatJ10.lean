import Derived.Test.YtjomfbegghgbdaaGreatJ00
import Derived.Test.YtjomfbegghgbdaaGreatJ08
import Derived.Test.YtjomfbegghgbdaaGreatJ09
import Derived.Test.YtjomfbegghgbdaaGreatJ07
namespace Go.Proofs.YtjomfbegghgbdaaGreat
open Go.RowKit
theorem Cx.fst_bd (enc:Int) (b:List Int) (hn:b≠[]):1≤(Cx.fst enc b).2∧(Cx.fst enc b).2≤4∧(Cx.fst enc b).2≤b.length:=by
 have hpos:0 < b.length:=List.length_pos_iff.2 hn
 have h16:∀ k,1≤(Cx.first16 k b).2∧(Cx.first16 k b).2≤4∧(Cx.first16 k b).2≤b.length:=by
  intro k
  unfold Cx.first16
  split
  ·simp;omega
  ·split
   ·rename_i hp
    unfold Cx.isP at hp
    simp only [Bool.and_eq_true,decide_eq_true_eq] at hp
    have:=hp.1.1
    simp only;omega
   ·simp only;omega
 unfold Cx.fst
 split
 ·have:=Cx.mtch_bd b
  unfold Cx.first8
  split
  ·simp only;omega
  ·simp only;omega
 ·split
  ·exact h16 0
  ·split
   ·exact h16 1
   ·simp only;omega
def Cx.decF (enc:Int):Nat→List Int→List Int
 | 0,_=>[]
 | f + 1,b=>if b=[] then [] else (Cx.fst enc b).1 :: Cx.decF enc f (b.drop (Cx.fst enc b).2.toNat)
def Cx.dec (enc:Int) (b:List Int):List Int:=Cx.decF enc b.length b
theorem Cx.decF_more (enc:Int):∀ (f g:Nat) (b:List Int),b.length≤f→b.length≤g→Cx.decF enc f b=Cx.decF enc g b:=by
 intro f
 induction f with
 | zero =>
   intro g b hf _
   have:b=[]:=List.length_eq_zero_iff.1 (by omega)
   subst this
   cases g with
   | zero=>rfl
   | succ g=>simp [Cx.decF]
 | succ f ih =>
   intro g b hf hg
   by_cases hn:b=[]
   ·subst hn
    cases g with
    | zero=>simp [Cx.decF]
    | succ g=>simp [Cx.decF]
   ·have hp:0 < b.length:=List.length_pos_iff.2 hn
    have hb:=Cx.fst_bd enc b hn
    cases g with
    | zero=>omega
    | succ g =>
      simp only [Cx.decF,if_neg hn]
      rw [ih g (b.drop (Cx.fst enc b).2.toNat) (by rw [List.length_drop];omega) (by rw [List.length_drop];omega)]
theorem Cx.dec_nil (enc:Int):Cx.dec enc []=[]:=rfl
theorem Cx.dec_cons (enc:Int) (b:List Int) (hn:b≠[]) (a:Int) (n:Nat) (hf:Cx.fst enc b=(a,(n:Int))):Cx.dec enc b=a :: Cx.dec enc (b.drop n):=by
 have hp:0 < b.length:=List.length_pos_iff.2 hn
 have hb:=Cx.fst_bd enc b hn
 rw [hf] at hb
 unfold Cx.dec
 obtain ⟨m,hm⟩:∃ m,b.length=m + 1:=⟨b.length - 1,by omega⟩
 rw [hm]
 simp only [Cx.decF,if_neg hn,hf]
 rw [Int.toNat_natCast,Cx.decF_more enc m (b.drop n).length (b.drop n) (by rw [List.length_drop];simp only at hb;omega) (Nat.le_refl _)]
theorem Cx.dec_len (enc:Int):∀ (f:Nat) (b:List Int),(Cx.decF enc f b).length≤b.length:=by
 intro f
 induction f with
 | zero=>intro b;simp [Cx.decF]
 | succ f ih =>
   intro b
   by_cases hn:b=[]
   ·simp [Cx.decF,hn]
   ·have hb:=Cx.fst_bd enc b hn
    have:=ih (b.drop (Cx.fst enc b).2.toNat)
    simp only [Cx.decF,if_neg hn,List.length_cons]
    rw [List.length_drop] at this
    omega
theorem m_first1 (w : World) : (method 321 185 (.agg #[]) "copyist/codec.first").run Tryz.prog w = .ok (166, .agg #[]) w := by kernel_rfl
theorem m_first2 (k : Int) (w : World) : (method 321 187 (.agg #[.int .i64 k]) "copyist/codec.first").run Tryz.prog w = .ok (181, .agg #[.int .i64 k]) w := by kernel_rfl
theorem m_first4 (w : World) : (method 321 188 (.agg #[]) "copyist/codec.first").run Tryz.prog w = .ok (193, .agg #[]) w := by kernel_rfl
theorem fst1_any (v:Value) (zs:List Int) (a:Int) (n:Nat) (w:World) (h:Rd .u8 w v zs) (hb:Byt zs) (hn:zs≠[]) (hf:Cx.fst 1 zs=(a,(n:Int))) :
  Calls Tryz.prog 166 #[.agg #[],v] w fun e w'=>e=.returned (.tuple #[.int .i64 a,.int .i64 n])∧Below w.heap.size w w':=by
 have:=first8_any v zs w h hb hn
 rwa [show Cx.first8 zs=(a,(n:Int)) from hf] at this
theorem fst2_any (v:Value) (zs:List Int) (a:Int) (n:Nat) (w:World) (h:Rd .u8 w v zs) (hb:Byt zs) (hn:zs≠[]) (hf:Cx.fst 2 zs=(a,(n:Int))) :
  Calls Tryz.prog 181 #[.agg #[.int .i64 0],v] w fun e w'=>e=.returned (.tuple #[.int .i64 a,.int .i64 n])∧Below w.heap.size w w':=by
 have:=first16_any 0 v zs w h hb (.inl rfl) hn
 rwa [show Cx.first16 0 zs=(a,(n:Int)) from hf] at this
theorem fst3_any (v:Value) (zs:List Int) (a:Int) (n:Nat) (w:World) (h:Rd .u8 w v zs) (hb:Byt zs) (hn:zs≠[]) (hf:Cx.fst 3 zs=(a,(n:Int))) :
  Calls Tryz.prog 181 #[.agg #[.int .i64 1],v] w fun e w'=>e=.returned (.tuple #[.int .i64 a,.int .i64 n])∧Below w.heap.size w w':=by
 have:=first16_any 1 v zs w h hb (.inr rfl) hn
 rwa [show Cx.first16 1 zs=(a,(n:Int)) from hf] at this
theorem fst4_any (v:Value) (zs:List Int) (a:Int) (n:Nat) (w:World) (h:Rd .u8 w v zs) (hb:Byt zs) (hn:zs≠[]) (hf:Cx.fst 4 zs=(a,(n:Int))) :
  Calls Tryz.prog 193 #[.agg #[],v] w fun e w'=>e=.returned (.tuple #[.int .i64 a,.int .i64 n])∧Below w.heap.size w w':=by
 have:=first4_any v zs w h hb hn
 have e:(Cx.c0 zs,(1:Int))=(a,(n:Int)):=hf
 rw [Prod.mk.injEq] at e
 rwa [e.1,e.2] at this
def lenOf:Value→Nat | .slice _ n _=>n | _=>0
theorem Rd.cut_same {k:IntKind} {w:World} {ao:Option Addr} {len cap n:Nat} {zs:List Int} (h:Rd k w (.slice ao len cap) zs) (hc:cap=n):Rd k w (.slice ao (len - n) (cap - n)) (zs.drop n):=by
 obtain ⟨ao',cap',hv,h1,h2,h3⟩:=h
 cases hv
 have hd:zs.drop n=[]:=List.drop_eq_nil_of_le (by omega)
 rw [hd]
 exact ⟨ao,cap - n,by simp;omega,by simp,by omega,fun h=>absurd rfl h⟩
theorem Rd.cut {k:IntKind} {w:World} {b off len cap n:Nat} {zs:List Int} (h:Rd k w (.slice (some ⟨b,off,none⟩) len cap) zs) (hn:n≤zs.length):Rd k w (.slice (some ⟨b,off + n,none⟩) (len - n) (cap - n)) (zs.drop n):=by
 obtain ⟨ao',cap',hv,h1,h2,h3⟩:=h
 cases hv
 refine ⟨_,cap - n,by rw [List.length_drop],by rw [List.length_drop];omega,by omega,fun hd=>?_⟩
 obtain ⟨b',off',ha,hb,hc⟩:=h3 (fun h=>hd (by rw [h];simp))
 cases ha
 refine ⟨b,off + n,rfl,hb,fun i hi=>?_⟩
 rw [List.length_drop] at hi
 rw [Nat.add_assoc,hc (n + i) (by omega),List.getElem?_drop]
theorem Rd.cut_if {k:IntKind} {w:World} {b off len cap n:Nat} {zs:List Int} (h:Rd k w (.slice (some ⟨b,off,none⟩) len cap) zs) (hn:n≤zs.length):Rd k w (.slice (if cap=n then some ⟨b,off,none⟩ else some ⟨b,off + n,none⟩) (len - n) (cap - n)) (zs.drop n):=by
 split
 ·exact h.cut_same (by assumption)
 ·exact h.cut hn
theorem snoc_map (l:List Int) (a:Int):l.map (Value.int .i64) ++ [Value.int .i64 a]=(l ++ [a]).map (Value.int .i64):=by simp
set_option maxRecDepth 100000 in
set_option maxHeartbeats 1000000 in
theorem decodeAll_1 (v:Value) (zs:List Int) (w:World) (h:Rd .u8 w v zs) (hb:Byt zs) (hz:zs.length * 8≤140737488355328) :
  Calls Tryz.prog 110 #[.iface 185 (.agg #[]),v] w fun e w'=>∃ v',e=.returned v'∧w'.ownsRow w.heap.size 3 1 v' (Cx.dec 1 zs).length ((Cx.dec 1 zs).map (Value.int .i64))∧Below w.heap.size w w':=by
 obtain ⟨i0,hi,hz0,hz1,hz2⟩:=info_parts Tryz.info_i64
 have HR:Hid (Rd .u8 w v zs):=h
 have HB:Hid (Byt zs):=hb
 clear h hb
 have hmt:=m_first1
 go_enter Tryz.func110,Tryz.ntmps110
 go_wp2_with fail
 go_loopw [1,5] (fun bv o wr=>∃ ys l:List Int,Hid (Cx.dec 1 zs=l ++ Cx.dec 1 ys)∧l.length + ys.length≤zs.length∧Hid (Rd .u8 w bv ys)∧Hid (Byt ys)∧wr.ownsRow w.heap.size 3 1 o l.length (l.map (Value.int .i64))∧Below w.heap.size w wr) (fun bv _ _=>lenOf bv)
 case atStart=>exact ⟨zs,[],rfl,by simp,HR.out,HB.out,World.ownsRow_nil _ _ _ _,Below.refl _ _⟩
 case round =>
  obtain ⟨ys,l,HD,hle,HY,HYB,hown,hbw⟩:=hrel
  have hw':w.heap.size≤wr.heap.size:=hbw.size
  have hylen:=HY.out.len
  by_cases hn:ys=[]
  ·have HE:Hid (Cx.dec 1 zs=l):=by unfold Hid;rw [HD.out,hn,Cx.dec_nil,List.append_nil]
   obtain ⟨ao,cap,hv,hlc,hcm,_⟩:=HY.out
   rw [hn] at hv
   subst hv
   clear HY HD HYB
   simp only [List.length_nil]
   go_wp2
   go_ret
   exact ⟨_,rfl,by rw [HE.out];exact hown,hbw⟩
  ·obtain ⟨a,n,hf,hn1,hn2⟩:∃ (a:Int) (n:Nat),Cx.fst 1 ys=(a,(n:Int))∧1≤n∧n≤ys.length:=by
    have:=Cx.fst_bd 1 ys hn
    exact ⟨_,(Cx.fst 1 ys).2.toNat,Prod.ext rfl (by simp only;omega),by omega,by omega⟩
   have HF:Hid (Cx.fst 1 ys=(a,(n:Int))):=hf
   have HD':Hid (Cx.dec 1 zs=(l ++ [a]) ++ Cx.dec 1 (ys.drop n)):=by unfold Hid;rw [HD.out,Cx.dec_cons 1 ys hn a n hf];simp
   have HNE:Hid (ys≠[]):=hn
   have hyp:0 < ys.length:=List.length_pos_iff.2 hn
   obtain ⟨ao,cap,hv,hlc,hcm,hrest⟩:=HY.out
   obtain ⟨b,off,hao,_⟩:=hrest hn
   subst hao
   subst hv
   have hcm':cap≤9223372036854775807:=hcm
   have HT:=snoc_map l a
   have HT':Hid (l.map (Value.int .i64) ++ [Value.int .i64 a]=(l ++ [a]).map (Value.int .i64)):=HT
   have hdl:(ys.drop n).length=ys.length - n:=List.length_drop
   clear hf hn hrest hcm HT HD
   generalize hml:l.map (Value.int .i64)=ml at *
   clear hml
   go_wp2_with fail
   refine (fst1_any _ ys a n _ (HY.out.ext hbw) HYB.out HNE.out HF.out).mono ?_
   rintro e w1 ⟨rfl,hb1⟩
   have hown1:=own_ext hown hb1
   have hbw1:Below w.heap.size w w1:=ext_trans hbw hb1
   have hw1:w.heap.size≤w1.heap.size:=hbw1.size
   clear hown hbw hb1
   go_wp2_with (at_builtin;refine wpList_append_own _ rfl _ _ 27 rfl w.heap.size 3 i0 (.int .i64 0) 1 8 Tryz.underlying27 hi hz0 hz1 hz2 rfl (by decide) _ _ _ rfl (hown1.alloc _) ⟨w1.heap.size,0,none⟩ 1 1 [.int .i64 a] rfl rfl (cell_one_new _ _ _) (one_i64 _) (by unfold maxLen;omega) (by omega) (by simp;omega) ?_;intro v' w' hown' hg' hx')
   all_goals refine ⟨⟨ys.drop n,l ++ [a],HD'.out,?_,?_,HYB.out.drop n,?_,below_push hbw1 hown1 hg'⟩,?_⟩
   all_goals first
    | exact HY.out.cut_if hn2
    | exact HY.out.cut hn2
    | exact HY.out.cut_same (by assumption)
    | (rw [hdl,List.length_append,List.length_singleton];omega)
    | (rw [List.length_append];rw [HT'.out] at hown';exact hown')
    | (simp only [lenOf];omega)
set_option maxRecDepth 100000 in
set_option maxHeartbeats 1000000 in
theorem decodeAll_2 (v:Value) (zs:List Int) (w:World) (h:Rd .u8 w v zs) (hb:Byt zs) (hz:zs.length * 8≤140737488355328) :
  Calls Tryz.prog 110 #[.iface 187 (.agg #[.int .i64 0]),v] w fun e w'=>∃ v',e=.returned v'∧w'.ownsRow w.heap.size 3 1 v' (Cx.dec 2 zs).length ((Cx.dec 2 zs).map (Value.int .i64))∧Below w.heap.size w w':=by
 obtain ⟨i0,hi,hz0,hz1,hz2⟩:=info_parts Tryz.info_i64
 have HR:Hid (Rd .u8 w v zs):=h
 have HB:Hid (Byt zs):=hb
 clear h hb
 have hmt:=m_first2
 go_enter Tryz.func110,Tryz.ntmps110
 go_wp2_with fail
 go_loopw [1,5] (fun bv o wr=>∃ ys l:List Int,Hid (Cx.dec 2 zs=l ++ Cx.dec 2 ys)∧l.length + ys.length≤zs.length∧Hid (Rd .u8 w bv ys)∧Hid (Byt ys)∧wr.ownsRow w.heap.size 3 1 o l.length (l.map (Value.int .i64))∧Below w.heap.size w wr) (fun bv _ _=>lenOf bv)
 case atStart=>exact ⟨zs,[],rfl,by simp,HR.out,HB.out,World.ownsRow_nil _ _ _ _,Below.refl _ _⟩
 case round =>
  obtain ⟨ys,l,HD,hle,HY,HYB,hown,hbw⟩:=hrel
  have hw':w.heap.size≤wr.heap.size:=hbw.size
  have hylen:=HY.out.len
  by_cases hn:ys=[]
  ·have HE:Hid (Cx.dec 2 zs=l):=by unfold Hid;rw [HD.out,hn,Cx.dec_nil,List.append_nil]
   obtain ⟨ao,cap,hv,hlc,hcm,_⟩:=HY.out
   rw [hn] at hv
   subst hv
   clear HY HD HYB
   simp only [List.length_nil]
   go_wp2
   go_ret
   exact ⟨_,rfl,by rw [HE.out];exact hown,hbw⟩
  ·obtain ⟨a,n,hf,hn1,hn2⟩:∃ (a:Int) (n:Nat),Cx.fst 2 ys=(a,(n:Int))∧1≤n∧n≤ys.length:=by
    have:=Cx.fst_bd 2 ys hn
    exact ⟨_,(Cx.fst 2 ys).2.toNat,Prod.ext rfl (by simp only;omega),by omega,by omega⟩
   have HF:Hid (Cx.fst 2 ys=(a,(n:Int))):=hf
   have HD':Hid (Cx.dec 2 zs=(l ++ [a]) ++ Cx.dec 2 (ys.drop n)):=by unfold Hid;rw [HD.out,Cx.dec_cons 2 ys hn a n hf];simp
   have HNE:Hid (ys≠[]):=hn
   have hyp:0 < ys.length:=List.length_pos_iff.2 hn
   obtain ⟨ao,cap,hv,hlc,hcm,hrest⟩:=HY.out
   obtain ⟨b,off,hao,_⟩:=hrest hn
   subst hao
   subst hv
   have hcm':cap≤9223372036854775807:=hcm
   have HT:=snoc_map l a
   have HT':Hid (l.map (Value.int .i64) ++ [Value.int .i64 a]=(l ++ [a]).map (Value.int .i64)):=HT
   have hdl:(ys.drop n).length=ys.length - n:=List.length_drop
   clear hf hn hrest hcm HT HD
   generalize hml:l.map (Value.int .i64)=ml at *
   clear hml
   go_wp2_with fail
   refine (fst2_any _ ys a n _ (HY.out.ext hbw) HYB.out HNE.out HF.out).mono ?_
   rintro e w1 ⟨rfl,hb1⟩
   have hown1:=own_ext hown hb1
   have hbw1:Below w.heap.size w w1:=ext_trans hbw hb1
   have hw1:w.heap.size≤w1.heap.size:=hbw1.size
   clear hown hbw hb1
   go_wp2_with (at_builtin;refine wpList_append_own _ rfl _ _ 27 rfl w.heap.size 3 i0 (.int .i64 0) 1 8 Tryz.underlying27 hi hz0 hz1 hz2 rfl (by decide) _ _ _ rfl (hown1.alloc _) ⟨w1.heap.size,0,none⟩ 1 1 [.int .i64 a] rfl rfl (cell_one_new _ _ _) (one_i64 _) (by unfold maxLen;omega) (by omega) (by simp;omega) ?_;intro v' w' hown' hg' hx')
   all_goals refine ⟨⟨ys.drop n,l ++ [a],HD'.out,?_,?_,HYB.out.drop n,?_,below_push hbw1 hown1 hg'⟩,?_⟩
   all_goals first
    | exact HY.out.cut_if hn2
    | exact HY.out.cut hn2
    | exact HY.out.cut_same (by assumption)
    | (rw [hdl,List.length_append,List.length_singleton];omega)
    | (rw [List.length_append];rw [HT'.out] at hown';exact hown')
    | (simp only [lenOf];omega)
set_option maxRecDepth 100000 in
set_option maxHeartbeats 1000000 in
theorem decodeAll_3 (v:Value) (zs:List Int) (w:World) (h:Rd .u8 w v zs) (hb:Byt zs) (hz:zs.length * 8≤140737488355328) :
  Calls Tryz.prog 110 #[.iface 187 (.agg #[.int .i64 1]),v] w fun e w'=>∃ v',e=.returned v'∧w'.ownsRow w.heap.size 3 1 v' (Cx.dec 3 zs).length ((Cx.dec 3 zs).map (Value.int .i64))∧Below w.heap.size w w':=by
 obtain ⟨i0,hi,hz0,hz1,hz2⟩:=info_parts Tryz.info_i64
 have HR:Hid (Rd .u8 w v zs):=h
 have HB:Hid (Byt zs):=hb
 clear h hb
 have hmt:=m_first2
 go_enter Tryz.func110,Tryz.ntmps110
 go_wp2_with fail
 go_loopw [1,5] (fun bv o wr=>∃ ys l:List Int,Hid (Cx.dec 3 zs=l ++ Cx.dec 3 ys)∧l.length + ys.length≤zs.length∧Hid (Rd .u8 w bv ys)∧Hid (Byt ys)∧wr.ownsRow w.heap.size 3 1 o l.length (l.map (Value.int .i64))∧Below w.heap.size w wr) (fun bv _ _=>lenOf bv)
 case atStart=>exact ⟨zs,[],rfl,by simp,HR.out,HB.out,World.ownsRow_nil _ _ _ _,Below.refl _ _⟩
 case round =>
  obtain ⟨ys,l,HD,hle,HY,HYB,hown,hbw⟩:=hrel
  have hw':w.heap.size≤wr.heap.size:=hbw.size
  have hylen:=HY.out.len
  by_cases hn:ys=[]
  ·have HE:Hid (Cx.dec 3 zs=l):=by unfold Hid;rw [HD.out,hn,Cx.dec_nil,List.append_nil]
   obtain ⟨ao,cap,hv,hlc,hcm,_⟩:=HY.out
   rw [hn] at hv
   subst hv
   clear HY HD HYB
   simp only [List.length_nil]
   go_wp2
   go_ret
   exact ⟨_,rfl,by rw [HE.out];exact hown,hbw⟩
  ·obtain ⟨a,n,hf,hn1,hn2⟩:∃ (a:Int) (n:Nat),Cx.fst 3 ys=(a,(n:Int))∧1≤n∧n≤ys.length:=by
    have:=Cx.fst_bd 3 ys hn
    exact ⟨_,(Cx.fst 3 ys).2.toNat,Prod.ext rfl (by simp only;omega),by omega,by omega⟩
   have HF:Hid (Cx.fst 3 ys=(a,(n:Int))):=hf
   have HD':Hid (Cx.dec 3 zs=(l ++ [a]) ++ Cx.dec 3 (ys.drop n)):=by unfold Hid;rw [HD.out,Cx.dec_cons 3 ys hn a n hf];simp
   have HNE:Hid (ys≠[]):=hn
   have hyp:0 < ys.length:=List.length_pos_iff.2 hn
   obtain ⟨ao,cap,hv,hlc,hcm,hrest⟩:=HY.out
   obtain ⟨b,off,hao,_⟩:=hrest hn
   subst hao
   subst hv
   have hcm':cap≤9223372036854775807:=hcm
   have HT:=snoc_map l a
   have HT':Hid (l.map (Value.int .i64) ++ [Value.int .i64 a]=(l ++ [a]).map (Value.int .i64)):=HT
   have hdl:(ys.drop n).length=ys.length - n:=List.length_drop
   clear hf hn hrest hcm HT HD
   generalize hml:l.map (Value.int .i64)=ml at *
   clear hml
   go_wp2_with fail
   refine (fst3_any _ ys a n _ (HY.out.ext hbw) HYB.out HNE.out HF.out).mono ?_
   rintro e w1 ⟨rfl,hb1⟩
   have hown1:=own_ext hown hb1
   have hbw1:Below w.heap.size w w1:=ext_trans hbw hb1
   have hw1:w.heap.size≤w1.heap.size:=hbw1.size
   clear hown hbw hb1
   go_wp2_with (at_builtin;refine wpList_append_own _ rfl _ _ 27 rfl w.heap.size 3 i0 (.int .i64 0) 1 8 Tryz.underlying27 hi hz0 hz1 hz2 rfl (by decide) _ _ _ rfl (hown1.alloc _) ⟨w1.heap.size,0,none⟩ 1 1 [.int .i64 a] rfl rfl (cell_one_new _ _ _) (one_i64 _) (by unfold maxLen;omega) (by omega) (by simp;omega) ?_;intro v' w' hown' hg' hx')
   all_goals refine ⟨⟨ys.drop n,l ++ [a],HD'.out,?_,?_,HYB.out.drop n,?_,below_push hbw1 hown1 hg'⟩,?_⟩
   all_goals first
    | exact HY.out.cut_if hn2
    | exact HY.out.cut hn2
    | exact HY.out.cut_same (by assumption)
    | (rw [hdl,List.length_append,List.length_singleton];omega)
    | (rw [List.length_append];rw [HT'.out] at hown';exact hown')
    | (simp only [lenOf];omega)
set_option maxRecDepth 100000 in
set_option maxHeartbeats 1000000 in
theorem decodeAll_4 (v:Value) (zs:List Int) (w:World) (h:Rd .u8 w v zs) (hb:Byt zs) (hz:zs.length * 8≤140737488355328) :
  Calls Tryz.prog 110 #[.iface 188 (.agg #[]),v] w fun e w'=>∃ v',e=.returned v'∧w'.ownsRow w.heap.size 3 1 v' (Cx.dec 4 zs).length ((Cx.dec 4 zs).map (Value.int .i64))∧Below w.heap.size w w':=by
 obtain ⟨i0,hi,hz0,hz1,hz2⟩:=info_parts Tryz.info_i64
 have HR:Hid (Rd .u8 w v zs):=h
 have HB:Hid (Byt zs):=hb
 clear h hb
 have hmt:=m_first4
 go_enter Tryz.func110,Tryz.ntmps110
 go_wp2_with fail
 go_loopw [1,5] (fun bv o wr=>∃ ys l:List Int,Hid (Cx.dec 4 zs=l ++ Cx.dec 4 ys)∧l.length + ys.length≤zs.length∧Hid (Rd .u8 w bv ys)∧Hid (Byt ys)∧wr.ownsRow w.heap.size 3 1 o l.length (l.map (Value.int .i64))∧Below w.heap.size w wr) (fun bv _ _=>lenOf bv)
 case atStart=>exact ⟨zs,[],rfl,by simp,HR.out,HB.out,World.ownsRow_nil _ _ _ _,Below.refl _ _⟩
 case round =>
  obtain ⟨ys,l,HD,hle,HY,HYB,hown,hbw⟩:=hrel
  have hw':w.heap.size≤wr.heap.size:=hbw.size
  have hylen:=HY.out.len
  by_cases hn:ys=[]
  ·have HE:Hid (Cx.dec 4 zs=l):=by unfold Hid;rw [HD.out,hn,Cx.dec_nil,List.append_nil]
   obtain ⟨ao,cap,hv,hlc,hcm,_⟩:=HY.out
   rw [hn] at hv
   subst hv
   clear HY HD HYB
   simp only [List.length_nil]
   go_wp2
   go_ret
   exact ⟨_,rfl,by rw [HE.out];exact hown,hbw⟩
  ·obtain ⟨a,n,hf,hn1,hn2⟩:∃ (a:Int) (n:Nat),Cx.fst 4 ys=(a,(n:Int))∧1≤n∧n≤ys.length:=by
    have:=Cx.fst_bd 4 ys hn
    exact ⟨_,(Cx.fst 4 ys).2.toNat,Prod.ext rfl (by simp only;omega),by omega,by omega⟩
   have HF:Hid (Cx.fst 4 ys=(a,(n:Int))):=hf
   have HD':Hid (Cx.dec 4 zs=(l ++ [a]) ++ Cx.dec 4 (ys.drop n)):=by unfold Hid;rw [HD.out,Cx.dec_cons 4 ys hn a n hf];simp
   have HNE:Hid (ys≠[]):=hn
   have hyp:0 < ys.length:=List.length_pos_iff.2 hn
   obtain ⟨ao,cap,hv,hlc,hcm,hrest⟩:=HY.out
   obtain ⟨b,off,hao,_⟩:=hrest hn
   subst hao
   subst hv
   have hcm':cap≤9223372036854775807:=hcm
   have HT:=snoc_map l a
   have HT':Hid (l.map (Value.int .i64) ++ [Value.int .i64 a]=(l ++ [a]).map (Value.int .i64)):=HT
   have hdl:(ys.drop n).length=ys.length - n:=List.length_drop
   clear hf hn hrest hcm HT HD
   generalize hml:l.map (Value.int .i64)=ml at *
   clear hml
   go_wp2_with fail
   refine (fst4_any _ ys a n _ (HY.out.ext hbw) HYB.out HNE.out HF.out).mono ?_
   rintro e w1 ⟨rfl,hb1⟩
   have hown1:=own_ext hown hb1
   have hbw1:Below w.heap.size w w1:=ext_trans hbw hb1
   have hw1:w.heap.size≤w1.heap.size:=hbw1.size
   clear hown hbw hb1
   go_wp2_with (at_builtin;refine wpList_append_own _ rfl _ _ 27 rfl w.heap.size 3 i0 (.int .i64 0) 1 8 Tryz.underlying27 hi hz0 hz1 hz2 rfl (by decide) _ _ _ rfl (hown1.alloc _) ⟨w1.heap.size,0,none⟩ 1 1 [.int .i64 a] rfl rfl (cell_one_new _ _ _) (one_i64 _) (by unfold maxLen;omega) (by omega) (by simp;omega) ?_;intro v' w' hown' hg' hx')
   all_goals refine ⟨⟨ys.drop n,l ++ [a],HD'.out,?_,?_,HYB.out.drop n,?_,below_push hbw1 hown1 hg'⟩,?_⟩
   all_goals first
    | exact HY.out.cut_if hn2
    | exact HY.out.cut hn2
    | exact HY.out.cut_same (by assumption)
    | (rw [hdl,List.length_append,List.length_singleton];omega)
    | (rw [List.length_append];rw [HT'.out] at hown';exact hown')
    | (simp only [lenOf];omega)
end Go.Proofs.YtjomfbegghgbdaaGreat

namespace Go.Proofs.YtjomfbegghgbdaaGreat
open Go.RowKit
def Cx.dd (enc:Int) (zs:List Int):List Int:=if Cx.known enc=true then Cx.dec enc zs else []
def Cx.er (enc:Int):Int:=if Cx.known enc=true then 0 else 10
theorem Cx.known_iff (enc:Int):Cx.known enc=true ↔ (enc=1∨enc=2∨enc=3∨enc=4):=by unfold Cx.known;simp;omega
theorem Cx.known_no (enc:Int) (h:Cx.known enc=false):enc≠1∧enc≠2∧enc≠3∧enc≠4:=by
 unfold Cx.known at h;simp at h;omega
theorem Cx.dd_yes (enc:Int) (zs:List Int) (h:Cx.known enc=true):Cx.dd enc zs=Cx.dec enc zs:=by unfold Cx.dd;rw [if_pos h]
theorem Cx.dd_no (enc:Int) (zs:List Int) (h:Cx.known enc=false):Cx.dd enc zs=[]:=by unfold Cx.dd;rw [h];rfl
theorem Decode_any (enc:Int) (v:Value) (zs:List Int) (w:World) (h:Rd .u8 w v zs) (hb:Byt zs) (hz:zs.length * 8≤140737488355328) :
  Calls Tryz.prog 75 #[.int .i64 enc,v] w fun e w'=>∃ v',e=.returned (.tuple #[v',.int .i64 (Cx.er enc)])∧w'.ownsRow w.heap.size 3 1 v' (Cx.dd enc zs).length ((Cx.dd enc zs).map (Value.int .i64))∧Below w.heap.size w w':=by
 have HR:Hid (Rd .u8 w v zs):=h
 have HB:Hid (Byt zs):=hb
 clear h hb
 cases hk:Cx.known enc
 ·have HE:Hid (Cx.dd enc zs=[]):=Cx.dd_no enc zs hk
  have HX:Hid (Cx.er enc=10):=by unfold Hid Cx.er;rw [hk];rfl
  obtain ⟨h1,h2,h3,h4⟩:=Cx.known_no enc hk
  clear hk
  go_enter Tryz.func75,Tryz.ntmps75
  go_wp2_with (go_at_call 109;refine (coderOf_no _ h1 h2 h3 h4 _).mono ?_;rintro e w' ⟨rfl,rfl⟩)
  go_ret2
  exact ⟨_,by rw [HX.out];rfl,by rw [HE.out];exact World.ownsRow_nil _ _ _ _,Below.refl _ _⟩
 ·have HX:Hid (Cx.er enc=0):=by unfold Hid Cx.er;rw [hk];rfl
  have HE:Hid (Cx.dd enc zs=Cx.dec enc zs):=Cx.dd_yes enc zs hk
  rcases (Cx.known_iff enc).1 hk with rfl | rfl | rfl | rfl
  ·clear hk
   go_enter Tryz.func75,Tryz.ntmps75
   go_wp2_with (first | (go_at_call 109;refine (coderOf_1 _).mono ?_;rintro e w' ⟨rfl,rfl⟩) | (go_at_call 110;refine (decodeAll_1 _ zs _ HR.out HB.out hz).mono ?_;rintro e w' ⟨v',rfl,hown,hbw⟩))
   go_ret2
   exact ⟨_,by rw [HX.out];rfl,by rw [HE.out];assumption,by assumption⟩
  ·clear hk
   go_enter Tryz.func75,Tryz.ntmps75
   go_wp2_with (first | (go_at_call 109;refine (coderOf_2 _).mono ?_;rintro e w' ⟨rfl,rfl⟩) | (go_at_call 110;refine (decodeAll_2 _ zs _ HR.out HB.out hz).mono ?_;rintro e w' ⟨v',rfl,hown,hbw⟩))
   go_ret2
   exact ⟨_,by rw [HX.out];rfl,by rw [HE.out];assumption,by assumption⟩
  ·clear hk
   go_enter Tryz.func75,Tryz.ntmps75
   go_wp2_with (first | (go_at_call 109;refine (coderOf_3 _).mono ?_;rintro e w' ⟨rfl,rfl⟩) | (go_at_call 110;refine (decodeAll_3 _ zs _ HR.out HB.out hz).mono ?_;rintro e w' ⟨v',rfl,hown,hbw⟩))
   go_ret2
   exact ⟨_,by rw [HX.out];rfl,by rw [HE.out];assumption,by assumption⟩
  ·clear hk
   go_enter Tryz.func75,Tryz.ntmps75
   go_wp2_with (first | (go_at_call 109;refine (coderOf_4 _).mono ?_;rintro e w' ⟨rfl,rfl⟩) | (go_at_call 110;refine (decodeAll_4 _ zs _ HR.out HB.out hz).mono ?_;rintro e w' ⟨v',rfl,hown,hbw⟩))
   go_ret2
   exact ⟨_,by rw [HX.out];rfl,by rw [HE.out];assumption,by assumption⟩
theorem rknown_any (enc:Int) (w:World):Calls Tryz.prog 73 #[.int .i64 enc] w fun e w'=>e=.returned (.bool (Cx.known enc))∧w'=w:=by
 unfold Cx.known
 by_cases h1:1≤enc
 ·go_enter Tryz.func73,Tryz.ntmps73
  go_wp2
  go_ret
  exact ⟨by rw [decide_eq_true h1,Bool.true_and];rfl,rfl⟩
 ·have hd:decide (1≤enc)=false:=by simp;omega
  go_enter Tryz.func73,Tryz.ntmps73
  go_wp2
  go_ret
  exact ⟨rfl,rfl⟩
theorem At_fst (enc:Int) (v:Value) (zs:List Int) (at':Nat) (a:Int) (n:Nat) (w:World) (h:Rd .u8 w v zs) (hb:Byt zs) (he:enc=1∨enc=2∨enc=3∨enc=4) (hl:at' < zs.length) (hm:zs.length≤4611686018427387000) (hf:Cx.fst enc (zs.drop at')=(a,(n:Int))) :
  Calls Tryz.prog 74 #[.int .i64 enc,v,.int .i64 at'] w fun e w'=>e=.returned (.tuple #[.int .i64 a,.int .i64 n])∧Below w.heap.size w w':=by
 have:=At_any enc v zs at' w h hb he hl hm
 rwa [hf] at this
end Go.Proofs.YtjomfbegghgbdaaGreat

namespace Go.Proofs.YtjomfbegghgbdaaGreat
open Go.RowKit
def Cx.bad (enc:Int):Nat→List Int→Option Nat
 | _,[]=>none
 | i,a :: l=>if Cx.fits enc a=true then Cx.bad enc (i + 1) l else some i
def Cx.encB (enc:Int) (l:List Int):List Int:=l.flatMap (Cx.put enc)
def Cx.encR (enc:Int) (l:List Int):List Int × Int × Int :=
 if Cx.known enc=true then (match Cx.bad enc 0 l with | some i=>([],(i:Int),11) | none=>(Cx.encB enc l,0,0)) else ([],0,10)
theorem Cx.bad_at (enc:Int):∀ (l:List Int) (i k:Nat),k < l.length→(∀ j,j < k→Cx.fits enc (l[j]?.getD 0)=true)→Cx.fits enc (l[k]?.getD 0)=false→Cx.bad enc i l=some (i + k):=by
 intro l
 induction l with
 | nil=>intro i k hk;simp at hk
 | cons a l ih =>
   intro i k hk hj hf
   unfold Cx.bad
   cases k with
   | zero=>simp at hf;simp [hf]
   | succ k =>
     have h0:=hj 0 (by omega)
     simp at h0
     rw [if_pos h0,ih (i + 1) k (by simpa using hk) (fun j hjk=>by simpa using hj (j + 1) (by omega)) (by simpa using hf)]
     congr 1;omega
theorem Cx.bad_none (enc:Int):∀ (l:List Int) (i:Nat),(∀ j,j < l.length→Cx.fits enc (l[j]?.getD 0)=true)→Cx.bad enc i l=none:=by
 intro l
 induction l with
 | nil=>intro i _;rfl
 | cons a l ih =>
   intro i hj
   unfold Cx.bad
   have h0:=hj 0 (by simp)
   simp at h0
   rw [if_pos h0]
   exact ih (i + 1) (fun j hjk=>by simpa using hj (j + 1) (by simpa using hjk))
theorem Cx.encB_len (enc:Int) (l:List Int):(Cx.encB enc l).length≤4 * l.length:=by
 unfold Cx.encB
 induction l with
 | nil=>simp
 | cons a l ih =>
   have:=(Cx.put_len enc a).2
   simp only [List.flatMap_cons,List.length_append,List.length_cons]
   omega
theorem Cx.encB_succ (enc:Int) (l:List Int) (k:Nat) (h:k < l.length):Cx.encB enc (l.take (k + 1))=Cx.encB enc (l.take k) ++ Cx.put enc (l[k]?.getD 0):=by
 unfold Cx.encB
 rw [List.take_succ_eq_append_getElem h,List.flatMap_append]
 simp [h]
theorem Cx.encR_bad (enc:Int) (l:List Int) (k:Nat) (hk:Cx.known enc=true) (h1:k < l.length) (h2:∀ j,j < k→Cx.fits enc (l[j]?.getD 0)=true) (h3:Cx.fits enc (l[k]?.getD 0)=false):Cx.encR enc l=([],(k:Int),11):=by
 unfold Cx.encR;rw [if_pos hk,Cx.bad_at enc l 0 k h1 h2 h3];simp
theorem Cx.encR_all (enc:Int) (l:List Int) (hk:Cx.known enc=true) (h2:∀ j,j < l.length→Cx.fits enc (l[j]?.getD 0)=true):Cx.encR enc l=(Cx.encB enc l,0,0):=by
 unfold Cx.encR;rw [if_pos hk,Cx.bad_none enc l 0 h2]
theorem m_put1 (w : World) : (method 321 185 (.agg #[]) "copyist/codec.put").run Tryz.prog w = .ok (169, .agg #[]) w := by kernel_rfl
theorem m_put2 (k : Int) (w : World) : (method 321 187 (.agg #[.int .i64 k]) "copyist/codec.put").run Tryz.prog w = .ok (184, .agg #[.int .i64 k]) w := by kernel_rfl
theorem m_put4 (w : World) : (method 321 188 (.agg #[]) "copyist/codec.put").run Tryz.prog w = .ok (196, .agg #[]) w := by kernel_rfl
theorem Cx.size_zero (enc a:Int):(Cx.size enc a == 0)=!Cx.fits enc a:=by
 have:=Cx.put_len enc a
 unfold Cx.size
 cases h:Cx.fits enc a
 ·simp
 ·simp;intro h';rw [h'] at this;simp at this
theorem sizeE_1 (a:Int) (w:World):Calls Tryz.prog 170 #[.agg #[],.int .i64 a] w fun e w'=>e=.returned (.int .i64 (Cx.size 1 a))∧Below w.heap.size w w':=by rw [Cx.size1];exact nsize_any a w
theorem sizeE_2 (a:Int) (w:World):Calls Tryz.prog 185 #[.agg #[.int .i64 0],.int .i64 a] w fun e w'=>e=.returned (.int .i64 (Cx.size 2 a))∧Below w.heap.size w w':=by rw [Cx.sizeW _ _ (.inl rfl)];exact wsize_any 0 a w
theorem sizeE_3 (a:Int) (w:World):Calls Tryz.prog 185 #[.agg #[.int .i64 1],.int .i64 a] w fun e w'=>e=.returned (.int .i64 (Cx.size 3 a))∧Below w.heap.size w w':=by rw [Cx.sizeW _ _ (.inr rfl)];exact wsize_any 1 a w
theorem sizeE_4 (a:Int) (w:World):Calls Tryz.prog 197 #[.agg #[],.int .i64 a] w fun e w'=>e=.returned (.int .i64 (Cx.size 4 a))∧Below w.heap.size w w':=by rw [Cx.size4];exact lsize_any a w
set_option maxRecDepth 100000 in
set_option maxHeartbeats 1000000 in
theorem Encode_1 (v:Value) (l:List Int) (w:World) (h:Rd .i64 w v l) (hz:l.length * 8 + 320≤140737488355328) :
  Calls Tryz.prog 119 #[.int .i64 1,v] w fun e w'=>∃ v',e=.returned (.tuple #[v',.int .i64 (Cx.encR 1 l).2.1,.int .i64 (Cx.encR 1 l).2.2])∧w'.ownsRow w.heap.size 5 1 v' (Cx.encR 1 l).1.length ((Cx.encR 1 l).1.map (Value.int .u8))∧Below w.heap.size w w':=by
 have hlen:=h.len
 obtain ⟨ao,cap,rfl,hlc,hcm,hc⟩:=h
 have hms:=m_size1
 have hmp:=m_put1
 have HA:Hid ((∀ j,j < l.length→Cx.fits 1 (l[j]?.getD 0)=true)→Cx.encR 1 l=(Cx.encB 1 l,0,0)):=Cx.encR_all 1 l rfl
 have HF:Hid (∀ k,k < l.length→(∀ j,j < k→Cx.fits 1 (l[j]?.getD 0)=true)→Cx.fits 1 (l[k]?.getD 0)=false→Cx.encR 1 l=([],(k:Int),11)):=fun k=>Cx.encR_bad 1 l k rfl
 clear hcm
 go_enter Tryz.func119,Tryz.ntmps119
 go_wp2_with (go_at_call 109;refine (coderOf_1 _).mono ?_;rintro e w0 ⟨rfl,rfl⟩)
 go_loopw [9,21] (fun o i wr=>∃ k:Nat,k≤l.length∧i=.int .i64 k∧Hid (∀ j,j < k→Cx.fits 1 (l[j]?.getD 0)=true)∧wr.ownsRow w0.heap.size 5 1 o (Cx.encB 1 (l.take k)).length ((Cx.encB 1 (l.take k)).map (Value.int .u8))∧Below w0.heap.size w0 wr) (fun _ i _=>l.length - (intOf i).toNat)
 case atStart=>exact ⟨0,Nat.zero_le _,rfl,fun j hj=>by omega,World.ownsRow_nil _ _ _ _,Below.refl _ _⟩
 case round =>
  obtain ⟨k,hk,rfl,HJ,hown,hbw⟩:=hrel
  by_cases hlt:k < l.length
  ·obtain ⟨b,off,rfl,hbl,hcl⟩:=hc (List.length_pos_iff.1 (by omega))
   have hcx:wr.cell? ⟨b,off + k,none⟩=some (.int .i64 (l[k]?.getD 0)):=(hbw.cell (p:=⟨b,off + k,none⟩) hbl).trans (hcl k hlt)
   have hel:=Cx.encB_len 1 (l.take k)
   have htk:(l.take k).length=k:=by rw [List.length_take];omega
   have HS:=Cx.encB_succ 1 l k hlt
   have HF':=HF.out k hlt HJ.out
   have hsz:=Cx.size_zero 1 (l[k]?.getD 0)
   cases hf:Cx.fits 1 (l[k]?.getD 0)
   ·rw [hf] at hsz
    have HT:Hid (Cx.encR 1 l=([],(k:Int),11)):=HF' hf
    generalize l[k]?.getD 0=a at *
    clear hc hcl HS HF' HF HA hf
    go_wp2_with fail
    refine (sizeE_1 _ _).mono ?_
    rintro e w1 ⟨rfl,hb1⟩
    have HW1:Hid (Below w0.heap.size w0 w1):=ext_trans hbw hb1
    clear hb1
    go_wp2_with fail
    go_ret3
    exact ⟨_,by rw [HT.out];rfl,by rw [HT.out];exact World.ownsRow_nil _ _ _ _,HW1.out⟩
   ·rw [hf] at hsz
    have HX:Hid (∀ j,j < k + 1→Cx.fits 1 (l[j]?.getD 0)=true):=fun j hj=>by
     by_cases hjk:j=k
     ·rw [hjk];exact hf
     ·exact HJ.out j (by omega)
    have HFT:Hid (Cx.fits 1 (l[k]?.getD 0)=true):=hf
    have HS':Hid (Cx.encB 1 (l.take (k + 1))=Cx.encB 1 (l.take k) ++ Cx.put 1 (l[k]?.getD 0)):=HS
    generalize l[k]?.getD 0=a at *
    generalize Cx.encB 1 (l.take k)=xs at *
    clear hc hcl HS HF' HF HA hf HJ
    go_wp2_with fail
    refine (sizeE_1 _ _).mono ?_
    rintro e w1 ⟨rfl,hb1⟩
    have hbw1:Below w0.heap.size w0 w1:=ext_trans hbw hb1
    have hown1:=own_ext hown hb1
    have hs1:w0.heap.size≤w1.heap.size:=hbw1.size
    clear hb1 hown hbw
    go_wp2_with fail
    refine (put1_any _ xs w0.heap.size a _ hown1 hs1 (by omega) HFT.out).mono ?_
    rintro e w2 ⟨v2,rfl,hown2,hb2⟩
    go_wp2_with fail
    go_roundw
    case rel=>exact ⟨k + 1,by omega,by go_num,HX.out,by rw [HS'.out];exact hown2,hbw1.trans hb2⟩
    case measure=>simp [intOf];omega
  ·have hke:k=l.length:=by omega
   subst hke
   have HT:Hid (Cx.encR 1 l=(Cx.encB 1 l,0,0)):=HA.out HJ.out
   rw [List.take_length] at hown
   clear hc HF HA HJ
   go_wp2
   go_ret3
   exact ⟨_,by rw [HT.out];rfl,by rw [HT.out];exact hown,hbw⟩
set_option maxRecDepth 100000 in
set_option maxHeartbeats 1000000 in
theorem Encode_2 (v:Value) (l:List Int) (w:World) (h:Rd .i64 w v l) (hz:l.length * 8 + 320≤140737488355328) :
  Calls Tryz.prog 119 #[.int .i64 2,v] w fun e w'=>∃ v',e=.returned (.tuple #[v',.int .i64 (Cx.encR 2 l).2.1,.int .i64 (Cx.encR 2 l).2.2])∧w'.ownsRow w.heap.size 5 1 v' (Cx.encR 2 l).1.length ((Cx.encR 2 l).1.map (Value.int .u8))∧Below w.heap.size w w':=by
 have hlen:=h.len
 obtain ⟨ao,cap,rfl,hlc,hcm,hc⟩:=h
 have hms:=m_size2
 have hmp:=m_put2
 have HA:Hid ((∀ j,j < l.length→Cx.fits 2 (l[j]?.getD 0)=true)→Cx.encR 2 l=(Cx.encB 2 l,0,0)):=Cx.encR_all 2 l rfl
 have HF:Hid (∀ k,k < l.length→(∀ j,j < k→Cx.fits 2 (l[j]?.getD 0)=true)→Cx.fits 2 (l[k]?.getD 0)=false→Cx.encR 2 l=([],(k:Int),11)):=fun k=>Cx.encR_bad 2 l k rfl
 clear hcm
 go_enter Tryz.func119,Tryz.ntmps119
 go_wp2_with (go_at_call 109;refine (coderOf_2 _).mono ?_;rintro e w0 ⟨rfl,rfl⟩)
 go_loopw [9,21] (fun o i wr=>∃ k:Nat,k≤l.length∧i=.int .i64 k∧Hid (∀ j,j < k→Cx.fits 2 (l[j]?.getD 0)=true)∧wr.ownsRow w0.heap.size 5 1 o (Cx.encB 2 (l.take k)).length ((Cx.encB 2 (l.take k)).map (Value.int .u8))∧Below w0.heap.size w0 wr) (fun _ i _=>l.length - (intOf i).toNat)
 case atStart=>exact ⟨0,Nat.zero_le _,rfl,fun j hj=>by omega,World.ownsRow_nil _ _ _ _,Below.refl _ _⟩
 case round =>
  obtain ⟨k,hk,rfl,HJ,hown,hbw⟩:=hrel
  by_cases hlt:k < l.length
  ·obtain ⟨b,off,rfl,hbl,hcl⟩:=hc (List.length_pos_iff.1 (by omega))
   have hcx:wr.cell? ⟨b,off + k,none⟩=some (.int .i64 (l[k]?.getD 0)):=(hbw.cell (p:=⟨b,off + k,none⟩) hbl).trans (hcl k hlt)
   have hel:=Cx.encB_len 2 (l.take k)
   have htk:(l.take k).length=k:=by rw [List.length_take];omega
   have HS:=Cx.encB_succ 2 l k hlt
   have HF':=HF.out k hlt HJ.out
   have hsz:=Cx.size_zero 2 (l[k]?.getD 0)
   cases hf:Cx.fits 2 (l[k]?.getD 0)
   ·rw [hf] at hsz
    have HT:Hid (Cx.encR 2 l=([],(k:Int),11)):=HF' hf
    generalize l[k]?.getD 0=a at *
    clear hc hcl HS HF' HF HA hf
    go_wp2_with fail
    refine (sizeE_2 _ _).mono ?_
    rintro e w1 ⟨rfl,hb1⟩
    have HW1:Hid (Below w0.heap.size w0 w1):=ext_trans hbw hb1
    clear hb1
    go_wp2_with fail
    go_ret3
    exact ⟨_,by rw [HT.out];rfl,by rw [HT.out];exact World.ownsRow_nil _ _ _ _,HW1.out⟩
   ·rw [hf] at hsz
    have HX:Hid (∀ j,j < k + 1→Cx.fits 2 (l[j]?.getD 0)=true):=fun j hj=>by
     by_cases hjk:j=k
     ·rw [hjk];exact hf
     ·exact HJ.out j (by omega)
    have HFT:Hid (Cx.fits 2 (l[k]?.getD 0)=true):=hf
    have HS':Hid (Cx.encB 2 (l.take (k + 1))=Cx.encB 2 (l.take k) ++ Cx.put 2 (l[k]?.getD 0)):=HS
    generalize l[k]?.getD 0=a at *
    generalize Cx.encB 2 (l.take k)=xs at *
    clear hc hcl HS HF' HF HA hf HJ
    go_wp2_with fail
    refine (sizeE_2 _ _).mono ?_
    rintro e w1 ⟨rfl,hb1⟩
    have hbw1:Below w0.heap.size w0 w1:=ext_trans hbw hb1
    have hown1:=own_ext hown hb1
    have hs1:w0.heap.size≤w1.heap.size:=hbw1.size
    clear hb1 hown hbw
    go_wp2_with fail
    refine (put2_any 0 (.inl rfl) _ xs w0.heap.size a _ hown1 hs1 (by omega) HFT.out).mono ?_
    rintro e w2 ⟨v2,rfl,hown2,hb2⟩
    go_wp2_with fail
    go_roundw
    case rel=>exact ⟨k + 1,by omega,by go_num,HX.out,by rw [HS'.out];exact hown2,hbw1.trans hb2⟩
    case measure=>simp [intOf];omega
  ·have hke:k=l.length:=by omega
   subst hke
   have HT:Hid (Cx.encR 2 l=(Cx.encB 2 l,0,0)):=HA.out HJ.out
   rw [List.take_length] at hown
   clear hc HF HA HJ
   go_wp2
   go_ret3
   exact ⟨_,by rw [HT.out];rfl,by rw [HT.out];exact hown,hbw⟩
set_option maxRecDepth 100000 in
set_option maxHeartbeats 1000000 in
theorem Encode_3 (v:Value) (l:List Int) (w:World) (h:Rd .i64 w v l) (hz:l.length * 8 + 320≤140737488355328) :
  Calls Tryz.prog 119 #[.int .i64 3,v] w fun e w'=>∃ v',e=.returned (.tuple #[v',.int .i64 (Cx.encR 3 l).2.1,.int .i64 (Cx.encR 3 l).2.2])∧w'.ownsRow w.heap.size 5 1 v' (Cx.encR 3 l).1.length ((Cx.encR 3 l).1.map (Value.int .u8))∧Below w.heap.size w w':=by
 have hlen:=h.len
 obtain ⟨ao,cap,rfl,hlc,hcm,hc⟩:=h
 have hms:=m_size2
 have hmp:=m_put2
 have HA:Hid ((∀ j,j < l.length→Cx.fits 3 (l[j]?.getD 0)=true)→Cx.encR 3 l=(Cx.encB 3 l,0,0)):=Cx.encR_all 3 l rfl
 have HF:Hid (∀ k,k < l.length→(∀ j,j < k→Cx.fits 3 (l[j]?.getD 0)=true)→Cx.fits 3 (l[k]?.getD 0)=false→Cx.encR 3 l=([],(k:Int),11)):=fun k=>Cx.encR_bad 3 l k rfl
 clear hcm
 go_enter Tryz.func119,Tryz.ntmps119
 go_wp2_with (go_at_call 109;refine (coderOf_3 _).mono ?_;rintro e w0 ⟨rfl,rfl⟩)
 go_loopw [9,21] (fun o i wr=>∃ k:Nat,k≤l.length∧i=.int .i64 k∧Hid (∀ j,j < k→Cx.fits 3 (l[j]?.getD 0)=true)∧wr.ownsRow w0.heap.size 5 1 o (Cx.encB 3 (l.take k)).length ((Cx.encB 3 (l.take k)).map (Value.int .u8))∧Below w0.heap.size w0 wr) (fun _ i _=>l.length - (intOf i).toNat)
 case atStart=>exact ⟨0,Nat.zero_le _,rfl,fun j hj=>by omega,World.ownsRow_nil _ _ _ _,Below.refl _ _⟩
 case round =>
  obtain ⟨k,hk,rfl,HJ,hown,hbw⟩:=hrel
  by_cases hlt:k < l.length
  ·obtain ⟨b,off,rfl,hbl,hcl⟩:=hc (List.length_pos_iff.1 (by omega))
   have hcx:wr.cell? ⟨b,off + k,none⟩=some (.int .i64 (l[k]?.getD 0)):=(hbw.cell (p:=⟨b,off + k,none⟩) hbl).trans (hcl k hlt)
   have hel:=Cx.encB_len 3 (l.take k)
   have htk:(l.take k).length=k:=by rw [List.length_take];omega
   have HS:=Cx.encB_succ 3 l k hlt
   have HF':=HF.out k hlt HJ.out
   have hsz:=Cx.size_zero 3 (l[k]?.getD 0)
   cases hf:Cx.fits 3 (l[k]?.getD 0)
   ·rw [hf] at hsz
    have HT:Hid (Cx.encR 3 l=([],(k:Int),11)):=HF' hf
    generalize l[k]?.getD 0=a at *
    clear hc hcl HS HF' HF HA hf
    go_wp2_with fail
    refine (sizeE_3 _ _).mono ?_
    rintro e w1 ⟨rfl,hb1⟩
    have HW1:Hid (Below w0.heap.size w0 w1):=ext_trans hbw hb1
    clear hb1
    go_wp2_with fail
    go_ret3
    exact ⟨_,by rw [HT.out];rfl,by rw [HT.out];exact World.ownsRow_nil _ _ _ _,HW1.out⟩
   ·rw [hf] at hsz
    have HX:Hid (∀ j,j < k + 1→Cx.fits 3 (l[j]?.getD 0)=true):=fun j hj=>by
     by_cases hjk:j=k
     ·rw [hjk];exact hf
     ·exact HJ.out j (by omega)
    have HFT:Hid (Cx.fits 3 (l[k]?.getD 0)=true):=hf
    have HS':Hid (Cx.encB 3 (l.take (k + 1))=Cx.encB 3 (l.take k) ++ Cx.put 3 (l[k]?.getD 0)):=HS
    generalize l[k]?.getD 0=a at *
    generalize Cx.encB 3 (l.take k)=xs at *
    clear hc hcl HS HF' HF HA hf HJ
    go_wp2_with fail
    refine (sizeE_3 _ _).mono ?_
    rintro e w1 ⟨rfl,hb1⟩
    have hbw1:Below w0.heap.size w0 w1:=ext_trans hbw hb1
    have hown1:=own_ext hown hb1
    have hs1:w0.heap.size≤w1.heap.size:=hbw1.size
    clear hb1 hown hbw
    go_wp2_with fail
    refine (put2_any 1 (.inr rfl) _ xs w0.heap.size a _ hown1 hs1 (by omega) HFT.out).mono ?_
    rintro e w2 ⟨v2,rfl,hown2,hb2⟩
    go_wp2_with fail
    go_roundw
    case rel=>exact ⟨k + 1,by omega,by go_num,HX.out,by rw [HS'.out];exact hown2,hbw1.trans hb2⟩
    case measure=>simp [intOf];omega
  ·have hke:k=l.length:=by omega
   subst hke
   have HT:Hid (Cx.encR 3 l=(Cx.encB 3 l,0,0)):=HA.out HJ.out
   rw [List.take_length] at hown
   clear hc HF HA HJ
   go_wp2
   go_ret3
   exact ⟨_,by rw [HT.out];rfl,by rw [HT.out];exact hown,hbw⟩
set_option maxRecDepth 100000 in
set_option maxHeartbeats 1000000 in
theorem Encode_4 (v:Value) (l:List Int) (w:World) (h:Rd .i64 w v l) (hz:l.length * 8 + 320≤140737488355328) :
  Calls Tryz.prog 119 #[.int .i64 4,v] w fun e w'=>∃ v',e=.returned (.tuple #[v',.int .i64 (Cx.encR 4 l).2.1,.int .i64 (Cx.encR 4 l).2.2])∧w'.ownsRow w.heap.size 5 1 v' (Cx.encR 4 l).1.length ((Cx.encR 4 l).1.map (Value.int .u8))∧Below w.heap.size w w':=by
 have hlen:=h.len
 obtain ⟨ao,cap,rfl,hlc,hcm,hc⟩:=h
 have hms:=m_size4
 have hmp:=m_put4
 have HA:Hid ((∀ j,j < l.length→Cx.fits 4 (l[j]?.getD 0)=true)→Cx.encR 4 l=(Cx.encB 4 l,0,0)):=Cx.encR_all 4 l rfl
 have HF:Hid (∀ k,k < l.length→(∀ j,j < k→Cx.fits 4 (l[j]?.getD 0)=true)→Cx.fits 4 (l[k]?.getD 0)=false→Cx.encR 4 l=([],(k:Int),11)):=fun k=>Cx.encR_bad 4 l k rfl
 clear hcm
 go_enter Tryz.func119,Tryz.ntmps119
 go_wp2_with (go_at_call 109;refine (coderOf_4 _).mono ?_;rintro e w0 ⟨rfl,rfl⟩)
 go_loopw [9,21] (fun o i wr=>∃ k:Nat,k≤l.length∧i=.int .i64 k∧Hid (∀ j,j < k→Cx.fits 4 (l[j]?.getD 0)=true)∧wr.ownsRow w0.heap.size 5 1 o (Cx.encB 4 (l.take k)).length ((Cx.encB 4 (l.take k)).map (Value.int .u8))∧Below w0.heap.size w0 wr) (fun _ i _=>l.length - (intOf i).toNat)
 case atStart=>exact ⟨0,Nat.zero_le _,rfl,fun j hj=>by omega,World.ownsRow_nil _ _ _ _,Below.refl _ _⟩
 case round =>
  obtain ⟨k,hk,rfl,HJ,hown,hbw⟩:=hrel
  by_cases hlt:k < l.length
  ·obtain ⟨b,off,rfl,hbl,hcl⟩:=hc (List.length_pos_iff.1 (by omega))
   have hcx:wr.cell? ⟨b,off + k,none⟩=some (.int .i64 (l[k]?.getD 0)):=(hbw.cell (p:=⟨b,off + k,none⟩) hbl).trans (hcl k hlt)
   have hel:=Cx.encB_len 4 (l.take k)
   have htk:(l.take k).length=k:=by rw [List.length_take];omega
   have HS:=Cx.encB_succ 4 l k hlt
   have HF':=HF.out k hlt HJ.out
   have hsz:=Cx.size_zero 4 (l[k]?.getD 0)
   cases hf:Cx.fits 4 (l[k]?.getD 0)
   ·rw [hf] at hsz
    have HT:Hid (Cx.encR 4 l=([],(k:Int),11)):=HF' hf
    generalize l[k]?.getD 0=a at *
    clear hc hcl HS HF' HF HA hf
    go_wp2_with fail
    refine (sizeE_4 _ _).mono ?_
    rintro e w1 ⟨rfl,hb1⟩
    have HW1:Hid (Below w0.heap.size w0 w1):=ext_trans hbw hb1
    clear hb1
    go_wp2_with fail
    go_ret3
    exact ⟨_,by rw [HT.out];rfl,by rw [HT.out];exact World.ownsRow_nil _ _ _ _,HW1.out⟩
   ·rw [hf] at hsz
    have HX:Hid (∀ j,j < k + 1→Cx.fits 4 (l[j]?.getD 0)=true):=fun j hj=>by
     by_cases hjk:j=k
     ·rw [hjk];exact hf
     ·exact HJ.out j (by omega)
    have HFT:Hid (Cx.fits 4 (l[k]?.getD 0)=true):=hf
    have HS':Hid (Cx.encB 4 (l.take (k + 1))=Cx.encB 4 (l.take k) ++ Cx.put 4 (l[k]?.getD 0)):=HS
    generalize l[k]?.getD 0=a at *
    generalize Cx.encB 4 (l.take k)=xs at *
    clear hc hcl HS HF' HF HA hf HJ
    go_wp2_with fail
    refine (sizeE_4 _ _).mono ?_
    rintro e w1 ⟨rfl,hb1⟩
    have hbw1:Below w0.heap.size w0 w1:=ext_trans hbw hb1
    have hown1:=own_ext hown hb1
    have hs1:w0.heap.size≤w1.heap.size:=hbw1.size
    clear hb1 hown hbw
    go_wp2_with fail
    refine (put4_any _ xs w0.heap.size a _ hown1 hs1 (by omega) HFT.out).mono ?_
    rintro e w2 ⟨v2,rfl,hown2,hb2⟩
    go_wp2_with fail
    go_roundw
    case rel=>exact ⟨k + 1,by omega,by go_num,HX.out,by rw [HS'.out];exact hown2,hbw1.trans hb2⟩
    case measure=>simp [intOf];omega
  ·have hke:k=l.length:=by omega
   subst hke
   have HT:Hid (Cx.encR 4 l=(Cx.encB 4 l,0,0)):=HA.out HJ.out
   rw [List.take_length] at hown
   clear hc HF HA HJ
   go_wp2
   go_ret3
   exact ⟨_,by rw [HT.out];rfl,by rw [HT.out];exact hown,hbw⟩
end Go.Proofs.YtjomfbegghgbdaaGreat
