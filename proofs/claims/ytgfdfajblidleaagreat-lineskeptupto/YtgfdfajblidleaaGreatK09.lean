import Derived.Test.YtgfdfajblidleaaGreatK08
set_option maxRecDepth 100000
namespace Go.Proofs.YtgfdfajblidleaaGreat
open Go.RowKit
theorem Cx.fst_bd (enc:Int) (b:List Int) (hn:b≠[]):1≤(Cx.fst enc b).2∧(Cx.fst enc b).2≤4∧(Cx.fst enc b).2≤b.length:=by
 have hpos:0 < b.length:=List.length_pos_iff.2 hn
 have h16:∀ k,1≤(Cx.first16 k b).2∧(Cx.first16 k b).2≤4∧(Cx.first16 k b).2≤b.length:=by
  intro k
  unfold Cx.first16
  split
  ·simp;omega
  ·split
   ·rename_i hp
    unfold Cx.isP at hp
    simp only [Bool.and_eq_true,decide_eq_true_eq] at hp
    have:=hp.1.1
    simp only;omega
   ·simp only;omega
 unfold Cx.fst
 split
 ·have:=Cx.mtch_bd b
  unfold Cx.first8
  split
  ·simp only;omega
  ·simp only;omega
 ·split
  ·exact h16 0
  ·split
   ·exact h16 1
   ·simp only;omega
def Cx.decF (enc:Int):Nat→List Int→List Int
 | 0,_=>[]
 | f + 1,b=>if b=[] then [] else (Cx.fst enc b).1 :: Cx.decF enc f (b.drop (Cx.fst enc b).2.toNat)
def Cx.dec (enc:Int) (b:List Int):List Int:=Cx.decF enc b.length b
theorem Cx.decF_more (enc:Int):∀ (f g:Nat) (b:List Int),b.length≤f→b.length≤g→Cx.decF enc f b=Cx.decF enc g b:=by
 intro f
 induction f with
 | zero =>
   intro g b hf _
   have:b=[]:=List.length_eq_zero_iff.1 (by omega)
   subst this
   cases g with
   | zero=>rfl
   | succ g=>simp [Cx.decF]
 | succ f ih =>
   intro g b hf hg
   by_cases hn:b=[]
   ·subst hn
    cases g with
    | zero=>simp [Cx.decF]
    | succ g=>simp [Cx.decF]
   ·have hp:0 < b.length:=List.length_pos_iff.2 hn
    have hb:=Cx.fst_bd enc b hn
    cases g with
    | zero=>omega
    | succ g =>
      simp only [Cx.decF,if_neg hn]
      rw [ih g (b.drop (Cx.fst enc b).2.toNat) (by rw [List.length_drop];omega) (by rw [List.length_drop];omega)]
theorem Cx.dec_nil (enc:Int):Cx.dec enc []=[]:=rfl
theorem Cx.dec_cons (enc:Int) (b:List Int) (hn:b≠[]) (a:Int) (n:Nat) (hf:Cx.fst enc b=(a,(n:Int))):Cx.dec enc b=a :: Cx.dec enc (b.drop n):=by
 have hp:0 < b.length:=List.length_pos_iff.2 hn
 have hb:=Cx.fst_bd enc b hn
 rw [hf] at hb
 unfold Cx.dec
 obtain ⟨m,hm⟩:∃ m,b.length=m + 1:=⟨b.length - 1,by omega⟩
 rw [hm]
 simp only [Cx.decF,if_neg hn,hf]
 rw [Int.toNat_natCast,Cx.decF_more enc m (b.drop n).length (b.drop n) (by rw [List.length_drop];simp only at hb;omega) (Nat.le_refl _)]
theorem Cx.dec_len (enc:Int):∀ (f:Nat) (b:List Int),(Cx.decF enc f b).length≤b.length:=by
 intro f
 induction f with
 | zero=>intro b;simp [Cx.decF]
 | succ f ih =>
   intro b
   by_cases hn:b=[]
   ·simp [Cx.decF,hn]
   ·have hb:=Cx.fst_bd enc b hn
    have:=ih (b.drop (Cx.fst enc b).2.toNat)
    simp only [Cx.decF,if_neg hn,List.length_cons]
    rw [List.length_drop] at this
    omega
theorem m_first1 (w : World) : (method 305 161 (.agg #[]) "copyist/codec.first").run Tryz.prog w = .ok (131, .agg #[]) w := by kernel_rfl
theorem m_first2 (k : Int) (w : World) : (method 305 163 (.agg #[.int .i64 k]) "copyist/codec.first").run Tryz.prog w = .ok (146, .agg #[.int .i64 k]) w := by kernel_rfl
theorem m_first4 (w : World) : (method 305 164 (.agg #[]) "copyist/codec.first").run Tryz.prog w = .ok (158, .agg #[]) w := by kernel_rfl
theorem fst1_any (v:Value) (zs:List Int) (a:Int) (n:Nat) (w:World) (h:Rd .u8 w v zs) (hb:Byt zs) (hn:zs≠[]) (hf:Cx.fst 1 zs=(a,(n:Int))) :
  Calls Tryz.prog 131 #[.agg #[],v] w fun e w'=>e=.returned (.tuple #[.int .i64 a,.int .i64 n])∧Below w.heap.size w w':=by
 have:=first8_any v zs w h hb hn
 rwa [show Cx.first8 zs=(a,(n:Int)) from hf] at this
theorem fst2_any (v:Value) (zs:List Int) (a:Int) (n:Nat) (w:World) (h:Rd .u8 w v zs) (hb:Byt zs) (hn:zs≠[]) (hf:Cx.fst 2 zs=(a,(n:Int))) :
  Calls Tryz.prog 146 #[.agg #[.int .i64 0],v] w fun e w'=>e=.returned (.tuple #[.int .i64 a,.int .i64 n])∧Below w.heap.size w w':=by
 have:=first16_any 0 v zs w h hb (.inl rfl) hn
 rwa [show Cx.first16 0 zs=(a,(n:Int)) from hf] at this
theorem fst3_any (v:Value) (zs:List Int) (a:Int) (n:Nat) (w:World) (h:Rd .u8 w v zs) (hb:Byt zs) (hn:zs≠[]) (hf:Cx.fst 3 zs=(a,(n:Int))) :
  Calls Tryz.prog 146 #[.agg #[.int .i64 1],v] w fun e w'=>e=.returned (.tuple #[.int .i64 a,.int .i64 n])∧Below w.heap.size w w':=by
 have:=first16_any 1 v zs w h hb (.inr rfl) hn
 rwa [show Cx.first16 1 zs=(a,(n:Int)) from hf] at this
theorem fst4_any (v:Value) (zs:List Int) (a:Int) (n:Nat) (w:World) (h:Rd .u8 w v zs) (hb:Byt zs) (hn:zs≠[]) (hf:Cx.fst 4 zs=(a,(n:Int))) :
  Calls Tryz.prog 158 #[.agg #[],v] w fun e w'=>e=.returned (.tuple #[.int .i64 a,.int .i64 n])∧Below w.heap.size w w':=by
 have:=first4_any v zs w h hb hn
 have e:(Cx.c0 zs,(1:Int))=(a,(n:Int)):=hf
 rw [Prod.mk.injEq] at e
 rwa [e.1,e.2] at this
def lenOf:Value→Nat | .slice _ n _=>n | _=>0
theorem Rd.cut_same {k:IntKind} {w:World} {ao:Option Addr} {len cap n:Nat} {zs:List Int} (h:Rd k w (.slice ao len cap) zs) (hc:cap=n):Rd k w (.slice ao (len - n) (cap - n)) (zs.drop n):=by
 obtain ⟨ao',cap',hv,h1,h2,h3⟩:=h
 cases hv
 have hd:zs.drop n=[]:=List.drop_eq_nil_of_le (by omega)
 rw [hd]
 exact ⟨ao,cap - n,by simp;omega,by simp,by omega,fun h=>absurd rfl h⟩
theorem Rd.cut {k:IntKind} {w:World} {b off len cap n:Nat} {zs:List Int} (h:Rd k w (.slice (some ⟨b,off,none⟩) len cap) zs) (hn:n≤zs.length):Rd k w (.slice (some ⟨b,off + n,none⟩) (len - n) (cap - n)) (zs.drop n):=by
 obtain ⟨ao',cap',hv,h1,h2,h3⟩:=h
 cases hv
 refine ⟨_,cap - n,by rw [List.length_drop],by rw [List.length_drop];omega,by omega,fun hd=>?_⟩
 obtain ⟨b',off',ha,hb,hc⟩:=h3 (fun h=>hd (by rw [h];simp))
 cases ha
 refine ⟨b,off + n,rfl,hb,fun i hi=>?_⟩
 rw [List.length_drop] at hi
 rw [Nat.add_assoc,hc (n + i) (by omega),List.getElem?_drop]
theorem Rd.cut_if {k:IntKind} {w:World} {b off len cap n:Nat} {zs:List Int} (h:Rd k w (.slice (some ⟨b,off,none⟩) len cap) zs) (hn:n≤zs.length):Rd k w (.slice (if cap=n then some ⟨b,off,none⟩ else some ⟨b,off + n,none⟩) (len - n) (cap - n)) (zs.drop n):=by
 split
 ·exact h.cut_same (by assumption)
 ·exact h.cut hn
theorem snoc_map (l:List Int) (a:Int):l.map (Value.int .i64) ++ [Value.int .i64 a]=(l ++ [a]).map (Value.int .i64):=by simp
set_option maxHeartbeats 1000000 in
theorem decodeAll_1 (v:Value) (zs:List Int) (w:World) (h:Rd .u8 w v zs) (hb:Byt zs) (hz:zs.length * 8≤140737488355328) :
  Calls Tryz.prog 74 #[.iface 161 (.agg #[]),v] w fun e w'=>∃ v',e=.returned v'∧w'.ownsRow w.heap.size 3 1 v' (Cx.dec 1 zs).length ((Cx.dec 1 zs).map (Value.int .i64))∧Below w.heap.size w w':=by
 obtain ⟨i0,hi,hz0,hz1,hz2⟩:=info_parts Tryz.info_i64
 have HR:Hid (Rd .u8 w v zs):=h
 have HB:Hid (Byt zs):=hb
 clear h hb
 have hmt:=m_first1
 go_enter Tryz.func74,Tryz.ntmps74
 go_wp2_with fail
 go_loopw [1,5] (fun bv o wr=>∃ ys l:List Int,Hid (Cx.dec 1 zs=l ++ Cx.dec 1 ys)∧l.length + ys.length≤zs.length∧Hid (Rd .u8 w bv ys)∧Hid (Byt ys)∧wr.ownsRow w.heap.size 3 1 o l.length (l.map (Value.int .i64))∧Below w.heap.size w wr) (fun bv _ _=>lenOf bv)
 case atStart=>exact ⟨zs,[],rfl,by simp,HR.out,HB.out,World.ownsRow_nil _ _ _ _,Below.refl _ _⟩
 case round =>
  obtain ⟨ys,l,HD,hle,HY,HYB,hown,hbw⟩:=hrel
  have hw':w.heap.size≤wr.heap.size:=hbw.size
  have hylen:=HY.out.len
  by_cases hn:ys=[]
  ·have HE:Hid (Cx.dec 1 zs=l):=by unfold Hid;rw [HD.out,hn,Cx.dec_nil,List.append_nil]
   obtain ⟨ao,cap,hv,hlc,hcm,_⟩:=HY.out
   rw [hn] at hv
   subst hv
   clear HY HD HYB
   simp only [List.length_nil]
   go_wp2
   go_ret
   exact ⟨_,rfl,by rw [HE.out];exact hown,hbw⟩
  ·obtain ⟨a,n,hf,hn1,hn2⟩:∃ (a:Int) (n:Nat),Cx.fst 1 ys=(a,(n:Int))∧1≤n∧n≤ys.length:=by
    have:=Cx.fst_bd 1 ys hn
    exact ⟨_,(Cx.fst 1 ys).2.toNat,Prod.ext rfl (by simp only;omega),by omega,by omega⟩
   have HF:Hid (Cx.fst 1 ys=(a,(n:Int))):=hf
   have HD':Hid (Cx.dec 1 zs=(l ++ [a]) ++ Cx.dec 1 (ys.drop n)):=by unfold Hid;rw [HD.out,Cx.dec_cons 1 ys hn a n hf];simp
   have HNE:Hid (ys≠[]):=hn
   have hyp:0 < ys.length:=List.length_pos_iff.2 hn
   obtain ⟨ao,cap,hv,hlc,hcm,hrest⟩:=HY.out
   obtain ⟨b,off,hao,_⟩:=hrest hn
   subst hao
   subst hv
   have hcm':cap≤9223372036854775807:=hcm
   have HT:=snoc_map l a
   have HT':Hid (l.map (Value.int .i64) ++ [Value.int .i64 a]=(l ++ [a]).map (Value.int .i64)):=HT
   have hdl:(ys.drop n).length=ys.length - n:=List.length_drop
   clear hf hn hrest hcm HT HD
   generalize hml:l.map (Value.int .i64)=ml at *
   clear hml
   go_wp2_with fail
   refine (fst1_any _ ys a n _ (HY.out.ext hbw) HYB.out HNE.out HF.out).mono ?_
   rintro e w1 ⟨rfl,hb1⟩
   have hown1:=own_ext hown hb1
   have hbw1:Below w.heap.size w w1:=zxt hbw hb1
   have hw1:w.heap.size≤w1.heap.size:=hbw1.size
   clear hown hbw hb1
   go_wp2_with (at_builtin;refine wpList_append_own _ rfl _ _ 27 rfl w.heap.size 3 i0 (.int .i64 0) 1 8 Tryz.underlying27 hi hz0 hz1 hz2 rfl (by decide) _ _ _ rfl (hown1.alloc _) ⟨w1.heap.size,0,none⟩ 1 1 [.int .i64 a] rfl rfl (cell_one_new _ _ _) (one_i64 _) (by unfold maxLen;omega) (by omega) (by simp;omega) ?_;intro v' w' hown' hg' hx')
   all_goals refine ⟨⟨ys.drop n,l ++ [a],HD'.out,?_,?_,HYB.out.drop n,?_,below_push hbw1 hown1 hg'⟩,?_⟩
   all_goals first
    | exact HY.out.cut_if hn2
    | exact HY.out.cut hn2
    | exact HY.out.cut_same (by assumption)
    | (rw [hdl,List.length_append,List.length_singleton];omega)
    | (rw [List.length_append];rw [HT'.out] at hown';exact hown')
    | (simp only [lenOf];omega)
set_option maxHeartbeats 1000000 in
theorem decodeAll_2 (v:Value) (zs:List Int) (w:World) (h:Rd .u8 w v zs) (hb:Byt zs) (hz:zs.length * 8≤140737488355328) :
  Calls Tryz.prog 74 #[.iface 163 (.agg #[.int .i64 0]),v] w fun e w'=>∃ v',e=.returned v'∧w'.ownsRow w.heap.size 3 1 v' (Cx.dec 2 zs).length ((Cx.dec 2 zs).map (Value.int .i64))∧Below w.heap.size w w':=by
 obtain ⟨i0,hi,hz0,hz1,hz2⟩:=info_parts Tryz.info_i64
 have HR:Hid (Rd .u8 w v zs):=h
 have HB:Hid (Byt zs):=hb
 clear h hb
 have hmt:=m_first2
 go_enter Tryz.func74,Tryz.ntmps74
 go_wp2_with fail
 go_loopw [1,5] (fun bv o wr=>∃ ys l:List Int,Hid (Cx.dec 2 zs=l ++ Cx.dec 2 ys)∧l.length + ys.length≤zs.length∧Hid (Rd .u8 w bv ys)∧Hid (Byt ys)∧wr.ownsRow w.heap.size 3 1 o l.length (l.map (Value.int .i64))∧Below w.heap.size w wr) (fun bv _ _=>lenOf bv)
 case atStart=>exact ⟨zs,[],rfl,by simp,HR.out,HB.out,World.ownsRow_nil _ _ _ _,Below.refl _ _⟩
 case round =>
  obtain ⟨ys,l,HD,hle,HY,HYB,hown,hbw⟩:=hrel
  have hw':w.heap.size≤wr.heap.size:=hbw.size
  have hylen:=HY.out.len
  by_cases hn:ys=[]
  ·have HE:Hid (Cx.dec 2 zs=l):=by unfold Hid;rw [HD.out,hn,Cx.dec_nil,List.append_nil]
   obtain ⟨ao,cap,hv,hlc,hcm,_⟩:=HY.out
   rw [hn] at hv
   subst hv
   clear HY HD HYB
   simp only [List.length_nil]
   go_wp2
   go_ret
   exact ⟨_,rfl,by rw [HE.out];exact hown,hbw⟩
  ·obtain ⟨a,n,hf,hn1,hn2⟩:∃ (a:Int) (n:Nat),Cx.fst 2 ys=(a,(n:Int))∧1≤n∧n≤ys.length:=by
    have:=Cx.fst_bd 2 ys hn
    exact ⟨_,(Cx.fst 2 ys).2.toNat,Prod.ext rfl (by simp only;omega),by omega,by omega⟩
   have HF:Hid (Cx.fst 2 ys=(a,(n:Int))):=hf
   have HD':Hid (Cx.dec 2 zs=(l ++ [a]) ++ Cx.dec 2 (ys.drop n)):=by unfold Hid;rw [HD.out,Cx.dec_cons 2 ys hn a n hf];simp
   have HNE:Hid (ys≠[]):=hn
   have hyp:0 < ys.length:=List.length_pos_iff.2 hn
   obtain ⟨ao,cap,hv,hlc,hcm,hrest⟩:=HY.out
   obtain ⟨b,off,hao,_⟩:=hrest hn
   subst hao
   subst hv
   have hcm':cap≤9223372036854775807:=hcm
   have HT:=snoc_map l a
   have HT':Hid (l.map (Value.int .i64) ++ [Value.int .i64 a]=(l ++ [a]).map (Value.int .i64)):=HT
   have hdl:(ys.drop n).length=ys.length - n:=List.length_drop
   clear hf hn hrest hcm HT HD
   generalize hml:l.map (Value.int .i64)=ml at *
   clear hml
   go_wp2_with fail
   refine (fst2_any _ ys a n _ (HY.out.ext hbw) HYB.out HNE.out HF.out).mono ?_
   rintro e w1 ⟨rfl,hb1⟩
   have hown1:=own_ext hown hb1
   have hbw1:Below w.heap.size w w1:=zxt hbw hb1
   have hw1:w.heap.size≤w1.heap.size:=hbw1.size
   clear hown hbw hb1
   go_wp2_with (at_builtin;refine wpList_append_own _ rfl _ _ 27 rfl w.heap.size 3 i0 (.int .i64 0) 1 8 Tryz.underlying27 hi hz0 hz1 hz2 rfl (by decide) _ _ _ rfl (hown1.alloc _) ⟨w1.heap.size,0,none⟩ 1 1 [.int .i64 a] rfl rfl (cell_one_new _ _ _) (one_i64 _) (by unfold maxLen;omega) (by omega) (by simp;omega) ?_;intro v' w' hown' hg' hx')
   all_goals refine ⟨⟨ys.drop n,l ++ [a],HD'.out,?_,?_,HYB.out.drop n,?_,below_push hbw1 hown1 hg'⟩,?_⟩
   all_goals first
    | exact HY.out.cut_if hn2
    | exact HY.out.cut hn2
    | exact HY.out.cut_same (by assumption)
    | (rw [hdl,List.length_append,List.length_singleton];omega)
    | (rw [List.length_append];rw [HT'.out] at hown';exact hown')
    | (simp only [lenOf];omega)
set_option maxHeartbeats 1000000 in
theorem decodeAll_3 (v:Value) (zs:List Int) (w:World) (h:Rd .u8 w v zs) (hb:Byt zs) (hz:zs.length * 8≤140737488355328) :
  Calls Tryz.prog 74 #[.iface 163 (.agg #[.int .i64 1]),v] w fun e w'=>∃ v',e=.returned v'∧w'.ownsRow w.heap.size 3 1 v' (Cx.dec 3 zs).length ((Cx.dec 3 zs).map (Value.int .i64))∧Below w.heap.size w w':=by
 obtain ⟨i0,hi,hz0,hz1,hz2⟩:=info_parts Tryz.info_i64
 have HR:Hid (Rd .u8 w v zs):=h
 have HB:Hid (Byt zs):=hb
 clear h hb
 have hmt:=m_first2
 go_enter Tryz.func74,Tryz.ntmps74
 go_wp2_with fail
 go_loopw [1,5] (fun bv o wr=>∃ ys l:List Int,Hid (Cx.dec 3 zs=l ++ Cx.dec 3 ys)∧l.length + ys.length≤zs.length∧Hid (Rd .u8 w bv ys)∧Hid (Byt ys)∧wr.ownsRow w.heap.size 3 1 o l.length (l.map (Value.int .i64))∧Below w.heap.size w wr) (fun bv _ _=>lenOf bv)
 case atStart=>exact ⟨zs,[],rfl,by simp,HR.out,HB.out,World.ownsRow_nil _ _ _ _,Below.refl _ _⟩
 case round =>
  obtain ⟨ys,l,HD,hle,HY,HYB,hown,hbw⟩:=hrel
  have hw':w.heap.size≤wr.heap.size:=hbw.size
  have hylen:=HY.out.len
  by_cases hn:ys=[]
  ·have HE:Hid (Cx.dec 3 zs=l):=by unfold Hid;rw [HD.out,hn,Cx.dec_nil,List.append_nil]
   obtain ⟨ao,cap,hv,hlc,hcm,_⟩:=HY.out
   rw [hn] at hv
   subst hv
   clear HY HD HYB
   simp only [List.length_nil]
   go_wp2
   go_ret
   exact ⟨_,rfl,by rw [HE.out];exact hown,hbw⟩
  ·obtain ⟨a,n,hf,hn1,hn2⟩:∃ (a:Int) (n:Nat),Cx.fst 3 ys=(a,(n:Int))∧1≤n∧n≤ys.length:=by
    have:=Cx.fst_bd 3 ys hn
    exact ⟨_,(Cx.fst 3 ys).2.toNat,Prod.ext rfl (by simp only;omega),by omega,by omega⟩
   have HF:Hid (Cx.fst 3 ys=(a,(n:Int))):=hf
   have HD':Hid (Cx.dec 3 zs=(l ++ [a]) ++ Cx.dec 3 (ys.drop n)):=by unfold Hid;rw [HD.out,Cx.dec_cons 3 ys hn a n hf];simp
   have HNE:Hid (ys≠[]):=hn
   have hyp:0 < ys.length:=List.length_pos_iff.2 hn
   obtain ⟨ao,cap,hv,hlc,hcm,hrest⟩:=HY.out
   obtain ⟨b,off,hao,_⟩:=hrest hn
   subst hao
   subst hv
   have hcm':cap≤9223372036854775807:=hcm
   have HT:=snoc_map l a
   have HT':Hid (l.map (Value.int .i64) ++ [Value.int .i64 a]=(l ++ [a]).map (Value.int .i64)):=HT
   have hdl:(ys.drop n).length=ys.length - n:=List.length_drop
   clear hf hn hrest hcm HT HD
   generalize hml:l.map (Value.int .i64)=ml at *
   clear hml
   go_wp2_with fail
   refine (fst3_any _ ys a n _ (HY.out.ext hbw) HYB.out HNE.out HF.out).mono ?_
   rintro e w1 ⟨rfl,hb1⟩
   have hown1:=own_ext hown hb1
   have hbw1:Below w.heap.size w w1:=zxt hbw hb1
   have hw1:w.heap.size≤w1.heap.size:=hbw1.size
   clear hown hbw hb1
   go_wp2_with (at_builtin;refine wpList_append_own _ rfl _ _ 27 rfl w.heap.size 3 i0 (.int .i64 0) 1 8 Tryz.underlying27 hi hz0 hz1 hz2 rfl (by decide) _ _ _ rfl (hown1.alloc _) ⟨w1.heap.size,0,none⟩ 1 1 [.int .i64 a] rfl rfl (cell_one_new _ _ _) (one_i64 _) (by unfold maxLen;omega) (by omega) (by simp;omega) ?_;intro v' w' hown' hg' hx')
   all_goals refine ⟨⟨ys.drop n,l ++ [a],HD'.out,?_,?_,HYB.out.drop n,?_,below_push hbw1 hown1 hg'⟩,?_⟩
   all_goals first
    | exact HY.out.cut_if hn2
    | exact HY.out.cut hn2
    | exact HY.out.cut_same (by assumption)
    | (rw [hdl,List.length_append,List.length_singleton];omega)
    | (rw [List.length_append];rw [HT'.out] at hown';exact hown')
    | (simp only [lenOf];omega)
set_option maxHeartbeats 1000000 in
theorem decodeAll_4 (v:Value) (zs:List Int) (w:World) (h:Rd .u8 w v zs) (hb:Byt zs) (hz:zs.length * 8≤140737488355328) :
  Calls Tryz.prog 74 #[.iface 164 (.agg #[]),v] w fun e w'=>∃ v',e=.returned v'∧w'.ownsRow w.heap.size 3 1 v' (Cx.dec 4 zs).length ((Cx.dec 4 zs).map (Value.int .i64))∧Below w.heap.size w w':=by
 obtain ⟨i0,hi,hz0,hz1,hz2⟩:=info_parts Tryz.info_i64
 have HR:Hid (Rd .u8 w v zs):=h
 have HB:Hid (Byt zs):=hb
 clear h hb
 have hmt:=m_first4
 go_enter Tryz.func74,Tryz.ntmps74
 go_wp2_with fail
 go_loopw [1,5] (fun bv o wr=>∃ ys l:List Int,Hid (Cx.dec 4 zs=l ++ Cx.dec 4 ys)∧l.length + ys.length≤zs.length∧Hid (Rd .u8 w bv ys)∧Hid (Byt ys)∧wr.ownsRow w.heap.size 3 1 o l.length (l.map (Value.int .i64))∧Below w.heap.size w wr) (fun bv _ _=>lenOf bv)
 case atStart=>exact ⟨zs,[],rfl,by simp,HR.out,HB.out,World.ownsRow_nil _ _ _ _,Below.refl _ _⟩
 case round =>
  obtain ⟨ys,l,HD,hle,HY,HYB,hown,hbw⟩:=hrel
  have hw':w.heap.size≤wr.heap.size:=hbw.size
  have hylen:=HY.out.len
  by_cases hn:ys=[]
  ·have HE:Hid (Cx.dec 4 zs=l):=by unfold Hid;rw [HD.out,hn,Cx.dec_nil,List.append_nil]
   obtain ⟨ao,cap,hv,hlc,hcm,_⟩:=HY.out
   rw [hn] at hv
   subst hv
   clear HY HD HYB
   simp only [List.length_nil]
   go_wp2
   go_ret
   exact ⟨_,rfl,by rw [HE.out];exact hown,hbw⟩
  ·obtain ⟨a,n,hf,hn1,hn2⟩:∃ (a:Int) (n:Nat),Cx.fst 4 ys=(a,(n:Int))∧1≤n∧n≤ys.length:=by
    have:=Cx.fst_bd 4 ys hn
    exact ⟨_,(Cx.fst 4 ys).2.toNat,Prod.ext rfl (by simp only;omega),by omega,by omega⟩
   have HF:Hid (Cx.fst 4 ys=(a,(n:Int))):=hf
   have HD':Hid (Cx.dec 4 zs=(l ++ [a]) ++ Cx.dec 4 (ys.drop n)):=by unfold Hid;rw [HD.out,Cx.dec_cons 4 ys hn a n hf];simp
   have HNE:Hid (ys≠[]):=hn
   have hyp:0 < ys.length:=List.length_pos_iff.2 hn
   obtain ⟨ao,cap,hv,hlc,hcm,hrest⟩:=HY.out
   obtain ⟨b,off,hao,_⟩:=hrest hn
   subst hao
   subst hv
   have hcm':cap≤9223372036854775807:=hcm
   have HT:=snoc_map l a
   have HT':Hid (l.map (Value.int .i64) ++ [Value.int .i64 a]=(l ++ [a]).map (Value.int .i64)):=HT
   have hdl:(ys.drop n).length=ys.length - n:=List.length_drop
   clear hf hn hrest hcm HT HD
   generalize hml:l.map (Value.int .i64)=ml at *
   clear hml
   go_wp2_with fail
   refine (fst4_any _ ys a n _ (HY.out.ext hbw) HYB.out HNE.out HF.out).mono ?_
   rintro e w1 ⟨rfl,hb1⟩
   have hown1:=own_ext hown hb1
   have hbw1:Below w.heap.size w w1:=zxt hbw hb1
   have hw1:w.heap.size≤w1.heap.size:=hbw1.size
   clear hown hbw hb1
   go_wp2_with (at_builtin;refine wpList_append_own _ rfl _ _ 27 rfl w.heap.size 3 i0 (.int .i64 0) 1 8 Tryz.underlying27 hi hz0 hz1 hz2 rfl (by decide) _ _ _ rfl (hown1.alloc _) ⟨w1.heap.size,0,none⟩ 1 1 [.int .i64 a] rfl rfl (cell_one_new _ _ _) (one_i64 _) (by unfold maxLen;omega) (by omega) (by simp;omega) ?_;intro v' w' hown' hg' hx')
   all_goals refine ⟨⟨ys.drop n,l ++ [a],HD'.out,?_,?_,HYB.out.drop n,?_,below_push hbw1 hown1 hg'⟩,?_⟩
   all_goals first
    | exact HY.out.cut_if hn2
    | exact HY.out.cut hn2
    | exact HY.out.cut_same (by assumption)
    | (rw [hdl,List.length_append,List.length_singleton];omega)
    | (rw [List.length_append];rw [HT'.out] at hown';exact hown')
    | (simp only [lenOf];omega)
open Go.RowKit
def Cx.dd (enc:Int) (zs:List Int):List Int:=if Cx.known enc=true then Cx.dec enc zs else []
def Cx.er (enc:Int):Int:=if Cx.known enc=true then 0 else 10
theorem Cx.known_iff (enc:Int):Cx.known enc=true ↔ (enc=1∨enc=2∨enc=3∨enc=4):=by unfold Cx.known;simp;omega
theorem Cx.known_no (enc:Int) (h:Cx.known enc=false):enc≠1∧enc≠2∧enc≠3∧enc≠4:=by
 unfold Cx.known at h;simp at h;omega
theorem Cx.dd_yes (enc:Int) (zs:List Int) (h:Cx.known enc=true):Cx.dd enc zs=Cx.dec enc zs:=by unfold Cx.dd;rw [if_pos h]
theorem Cx.dd_no (enc:Int) (zs:List Int) (h:Cx.known enc=false):Cx.dd enc zs=[]:=by unfold Cx.dd;rw [h];rfl
theorem Decode_any (enc:Int) (v:Value) (zs:List Int) (w:World) (h:Rd .u8 w v zs) (hb:Byt zs) (hz:zs.length * 8≤140737488355328) :
  Calls Tryz.prog 50 #[.int .i64 enc,v] w fun e w'=>∃ v',e=.returned (.tuple #[v',.int .i64 (Cx.er enc)])∧w'.ownsRow w.heap.size 3 1 v' (Cx.dd enc zs).length ((Cx.dd enc zs).map (Value.int .i64))∧Below w.heap.size w w':=by
 have HR:Hid (Rd .u8 w v zs):=h
 have HB:Hid (Byt zs):=hb
 clear h hb
 cases hk:Cx.known enc
 ·have HE:Hid (Cx.dd enc zs=[]):=Cx.dd_no enc zs hk
  have HX:Hid (Cx.er enc=10):=by unfold Hid Cx.er;rw [hk];rfl
  obtain ⟨h1,h2,h3,h4⟩:=Cx.known_no enc hk
  clear hk
  go_enter Tryz.func50,Tryz.ntmps50
  go_wp2_with (go_at_call 73;refine (coderOf_no _ h1 h2 h3 h4 _).mono ?_;rintro e w' ⟨rfl,rfl⟩)
  go_ret2
  exact ⟨_,by rw [HX.out];rfl,by rw [HE.out];exact World.ownsRow_nil _ _ _ _,Below.refl _ _⟩
 ·have HX:Hid (Cx.er enc=0):=by unfold Hid Cx.er;rw [hk];rfl
  have HE:Hid (Cx.dd enc zs=Cx.dec enc zs):=Cx.dd_yes enc zs hk
  rcases (Cx.known_iff enc).1 hk with rfl | rfl | rfl | rfl
  ·clear hk
   go_enter Tryz.func50,Tryz.ntmps50
   go_wp2_with (first | (go_at_call 73;refine (coderOf_1 _).mono ?_;rintro e w' ⟨rfl,rfl⟩) | (go_at_call 74;refine (decodeAll_1 _ zs _ HR.out HB.out hz).mono ?_;rintro e w' ⟨v',rfl,hown,hbw⟩))
   go_ret2
   exact ⟨_,by rw [HX.out];rfl,by rw [HE.out];assumption,by assumption⟩
  ·clear hk
   go_enter Tryz.func50,Tryz.ntmps50
   go_wp2_with (first | (go_at_call 73;refine (coderOf_2 _).mono ?_;rintro e w' ⟨rfl,rfl⟩) | (go_at_call 74;refine (decodeAll_2 _ zs _ HR.out HB.out hz).mono ?_;rintro e w' ⟨v',rfl,hown,hbw⟩))
   go_ret2
   exact ⟨_,by rw [HX.out];rfl,by rw [HE.out];assumption,by assumption⟩
  ·clear hk
   go_enter Tryz.func50,Tryz.ntmps50
   go_wp2_with (first | (go_at_call 73;refine (coderOf_3 _).mono ?_;rintro e w' ⟨rfl,rfl⟩) | (go_at_call 74;refine (decodeAll_3 _ zs _ HR.out HB.out hz).mono ?_;rintro e w' ⟨v',rfl,hown,hbw⟩))
   go_ret2
   exact ⟨_,by rw [HX.out];rfl,by rw [HE.out];assumption,by assumption⟩
  ·clear hk
   go_enter Tryz.func50,Tryz.ntmps50
   go_wp2_with (first | (go_at_call 73;refine (coderOf_4 _).mono ?_;rintro e w' ⟨rfl,rfl⟩) | (go_at_call 74;refine (decodeAll_4 _ zs _ HR.out HB.out hz).mono ?_;rintro e w' ⟨v',rfl,hown,hbw⟩))
   go_ret2
   exact ⟨_,by rw [HX.out];rfl,by rw [HE.out];assumption,by assumption⟩
theorem rknown_any (enc:Int) (w:World):Calls Tryz.prog 48 #[.int .i64 enc] w fun e w'=>e=.returned (.bool (Cx.known enc))∧w'=w:=by
 unfold Cx.known
 by_cases h1:1≤enc
 ·go_enter Tryz.func48,Tryz.ntmps48
  go_wp2
  go_ret
  exact ⟨by rw [decide_eq_true h1,Bool.true_and];rfl,rfl⟩
 ·have hd:decide (1≤enc)=false:=by simp;omega
  go_enter Tryz.func48,Tryz.ntmps48
  go_wp2
  go_ret
  exact ⟨rfl,rfl⟩
theorem At_fst (enc:Int) (v:Value) (zs:List Int) (at':Nat) (a:Int) (n:Nat) (w:World) (h:Rd .u8 w v zs) (hb:Byt zs) (he:enc=1∨enc=2∨enc=3∨enc=4) (hl:at' < zs.length) (hm:zs.length≤4611686018427387000) (hf:Cx.fst enc (zs.drop at')=(a,(n:Int))) :
  Calls Tryz.prog 49 #[.int .i64 enc,v,.int .i64 at'] w fun e w'=>e=.returned (.tuple #[.int .i64 a,.int .i64 n])∧Below w.heap.size w w':=by
 have:=At_any enc v zs at' w h hb he hl hm
 rwa [hf] at this
open Go.RowKit
def Cx.encB (enc:Int) (l:List Int):List Int:=l.flatMap (Cx.put enc)
end Go.Proofs.YtgfdfajblidleaaGreat
namespace Go.Proofs.YtgfdfajblidleaaGreat
theorem Cx.pre_take (m b:List Int) (h:m.isPrefixOf b=true):b.take m.length=m:=by
 rw [List.isPrefixOf_iff_prefix] at h
 exact (List.prefix_iff_eq_take.1 h).symm
theorem Cx.c0_take (b:List Int) (hn:b≠[]):b.take 1=[Cx.c0 b]:=by
 cases b with
 | nil=>exact absurd rfl hn
 | cons a l=>rfl
theorem Cx.back1 (b:List Int) (hb:Byt b) (hn:b≠[]):Cx.fits 1 (Cx.first8 b).1=true∧Cx.put 1 (Cx.first8 b).1=b.take (Cx.first8 b).2.toNat:=by
 have hbd:=Cx.mtch_bd b
 have h0:=hb.at 0
 change 0≤Cx.c0 b∧Cx.c0 b≤255 at h0
 by_cases hm:0 < Cx.mtch b∧Cx.mtch b≤b.length
 ·have hh:=(Cx.hit_iff b hb (Cx.mtch b).toNat (by omega) (by omega)).2 ⟨by omega,by omega⟩
  rw [Cx.hitB_iff b _ _ rfl] at hh
  obtain ⟨_,hs,hl,hp⟩:=hh
  have e:=Cx.first8_hit b hb (Cx.mtch b).toNat (by omega) (by omega) ((Cx.hit_iff b hb (Cx.mtch b).toNat (by omega) (by omega)).2 ⟨by omega,by omega⟩)
  rw [e]
  simp only [Int.toNat_natCast]
  have ht:=Cx.pre_take _ _ hp
  rw [hl] at ht
  have hs0:=(Cx.sc_iff _).1 hs
  refine ⟨by unfold Cx.fits;rw [if_pos rfl,hs,Bool.true_or],?_⟩
  unfold Cx.put
  rw [if_neg (by omega),if_pos rfl]
  exact ht.symm
 ·have e:Cx.first8 b=(-1 - Cx.c0 b,1):=by unfold Cx.first8;rw [if_neg hm]
  have h128:128≤Cx.c0 b:=by
   rcases Classical.em (128≤Cx.c0 b) with h | h
   ·exact h
   ·exfalso
    have r:Cx.rowN (Cx.c0 b)=1:=by unfold Cx.rowN;rw [if_pos (by omega)]
    have hy:=Cx.mtch_yes b 1 (fun j h1 h2=>by omega) (.inl (by rw [r];decide))
    rw [r] at hy
    have hp:0 < b.length:=List.length_pos_iff.2 hn
    exact hm ⟨by omega,by omega⟩
  rw [e]
  refine ⟨?_,?_⟩
  ·unfold Cx.fits;rw [if_pos rfl];simp;omega
  ·unfold Cx.put
   rw [if_pos (by simp only;omega)]
   show [-1 - (-1 - Cx.c0 b)]=b.take 1
   rw [Cx.c0_take b hn]
   congr 1;omega
theorem Cx.unit_wv (enc:Int) (b:List Int) (hb:Byt b) (h2:2≤b.length) (he:enc=2∨enc=3):Cx.unit enc (Cx.wv (Cx.lowOf enc) b)=b.take 2:=by
 match b,h2 with
 | x :: y :: l,_ =>
   have hx:=hb x (by simp)
   have hy:=hb y (by simp)
   rcases he with rfl | rfl
   ·simp only [Cx.unit,Cx.wv,Cx.lowOf,if_true,List.getElem?_cons_succ,List.getElem?_cons_zero,Option.getD_some,List.take_succ_cons,List.take_zero]
    have e1:(y * 256 + x) % 256=x:=by omega
    have e2:(y * 256 + x) / 256=y:=by omega
    rw [e1,e2]
   ·simp only [Cx.unit,Cx.wv,Cx.lowOf,show ¬ ((3:Int)=2) from by decide,show ¬ ((1:Int)=0) from by decide,if_false,List.getElem?_cons_succ,List.getElem?_cons_zero,Option.getD_some,List.take_succ_cons,List.take_zero]
    have e1:(x * 256 + y) % 256=y:=by omega
    have e2:(x * 256 + y) / 256=x:=by omega
    rw [e1,e2]
theorem Cx.back2 (enc:Int) (b:List Int) (hb:Byt b) (hn:b≠[]) (he:enc=2∨enc=3):Cx.fits enc (Cx.first16 (Cx.lowOf enc) b).1=true∧Cx.put enc (Cx.first16 (Cx.lowOf enc) b).1=b.take (Cx.first16 (Cx.lowOf enc) b).2.toNat:=by
 have h0:=hb.at 0
 change 0≤Cx.c0 b∧Cx.c0 b≤255 at h0
 have hp:0 < b.length:=List.length_pos_iff.2 hn
 have ft:∀ a:Int,-256≤a→a≤1114111→Cx.fits enc a=true:=by
  intro a h1 h2
  unfold Cx.fits
  rw [if_neg (by omega),if_pos he];simp;omega
 unfold Cx.first16
 by_cases h1:b.length=1
 ·rw [if_pos h1]
  refine ⟨ft _ (by simp only;omega) (by simp only;omega),?_⟩
  unfold Cx.put
  rw [if_pos (by simp only;omega)]
  show [-1 - (-1 - Cx.c0 b)]=b.take 1
  rw [Cx.c0_take b hn]
  congr 1;omega
 ·rw [if_neg h1]
  have hu:=Cx.wv_bd (Cx.lowOf enc) b hb
  have hw:=Cx.unit_wv enc b hb (by omega) he
  cases hP:Cx.isP (Cx.lowOf enc) b
  ·rw [if_neg (by simp)]
   refine ⟨ft _ (by simp only;omega) (by simp only;omega),?_⟩
   unfold Cx.put
   rw [if_neg (by simp only;omega),if_neg (by omega),if_neg (by omega),if_neg (by simp only;omega)]
   exact hw
  ·rw [if_pos rfl]
   unfold Cx.isP Cx.hiU Cx.loU at hP
   simp only [Bool.and_eq_true,decide_eq_true_eq] at hP
   obtain ⟨⟨h4,h5,h6⟩,h7,h8⟩:=hP
   have hw2:=Cx.unit_wv enc (b.drop 2) (hb.drop 2) (by rw [List.length_drop];omega) he
   have hpv:Cx.pairV (Cx.lowOf enc) b=65536 + (Cx.wv (Cx.lowOf enc) b - 55296) * 1024 + (Cx.wv (Cx.lowOf enc) (b.drop 2) - 56320):=rfl
   generalize Cx.pairV (Cx.lowOf enc) b=p at *
   refine ⟨ft _ (by simp only;omega) (by simp only;omega),?_⟩
   unfold Cx.put
   rw [if_neg (by simp only;omega),if_neg (by omega),if_neg (by omega),if_pos (by simp only;omega)]
   simp only
   rw [show 55296 + (p - 65536) / 1024=Cx.wv (Cx.lowOf enc) b from by omega,show 56320 + p % 1024=Cx.wv (Cx.lowOf enc) (b.drop 2) from by omega,hw,hw2]
   show b.take 2 ++ (b.drop 2).take 2=b.take (2 + 2)
   rw [List.take_add]
theorem Cx.back (enc:Int) (b:List Int) (hb:Byt b) (hn:b≠[]) (he:enc=1∨enc=2∨enc=3∨enc=4):Cx.fits enc (Cx.fst enc b).1=true∧Cx.put enc (Cx.fst enc b).1=b.take (Cx.fst enc b).2.toNat:=by
 rcases he with rfl | rfl | rfl | rfl
 ·exact Cx.back1 b hb hn
 ·exact Cx.back2 2 b hb hn (.inl rfl)
 ·exact Cx.back2 3 b hb hn (.inr rfl)
 ·have h0:=hb.at 0
  change 0≤Cx.c0 b∧Cx.c0 b≤255 at h0
  refine ⟨?_,?_⟩
  ·show Cx.fits 4 (Cx.c0 b)=true
   unfold Cx.fits;simp;omega
  ·show Cx.put 4 (Cx.c0 b)=b.take 1
   unfold Cx.put;rw [if_neg (by omega),Cx.c0_take b hn];rfl
theorem Cx.back_all (enc:Int) (he:enc=1∨enc=2∨enc=3∨enc=4):∀ (m:Nat) (b:List Int),b.length≤m→Byt b→Cx.encB enc (Cx.dec enc b)=b∧∀ a ∈ Cx.dec enc b,Cx.fits enc a=true:=by
 intro m
 induction m with
 | zero =>
   intro b h _
   have:b=[]:=List.length_eq_zero_iff.1 (by omega)
   subst this
   rw [Cx.dec_nil]
   exact ⟨rfl,by simp⟩
 | succ m ih =>
   intro b h hb
   by_cases hn:b=[]
   ·subst hn
    rw [Cx.dec_nil]
    exact ⟨rfl,by simp⟩
   ·have hbd:=Cx.fst_bd enc b hn
    obtain ⟨hf,hp⟩:=Cx.back enc b hb hn he
    have e:Cx.fst enc b=((Cx.fst enc b).1,((Cx.fst enc b).2.toNat:Int)):=Prod.ext rfl (by simp only;omega)
    rw [Cx.dec_cons enc b hn _ _ e]
    obtain ⟨i1,i2⟩:=ih (b.drop (Cx.fst enc b).2.toNat) (by rw [List.length_drop];omega) (hb.drop _)
    refine ⟨?_,?_⟩
    ·unfold Cx.encB at i1 ⊢
     rw [List.flatMap_cons,i1,hp,List.take_append_drop]
    ·intro a ha
     rcases List.mem_cons.1 ha with rfl | ha
     ·exact hf
     ·exact i2 a ha
end Go.Proofs.YtgfdfajblidleaaGreat
