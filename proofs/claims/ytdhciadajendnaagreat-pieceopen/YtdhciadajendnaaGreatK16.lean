import Derived.Test.YtdhciadajendnaaGreatK15
set_option maxRecDepth 100000
namespace Go.Proofs.YtdhciadajendnaaGreat
open Go.RowKit
abbrev Cx.En (enc:Int):Prop:=enc=1∨enc=2∨enc=3∨enc=4
theorem Cx.encB_app (enc:Int) (a b:List Int):Cx.encB enc (a ++ b)=Cx.encB enc a ++ Cx.encB enc b:=by simp [Cx.encB]
theorem Cx.encB_cons (enc:Int) (a:Int) (l:List Int):Cx.encB enc (a :: l)=Cx.put enc a ++ Cx.encB enc l:=by simp [Cx.encB]
theorem Cx.dec_step (enc:Int) (he:Cx.En enc) (b:List Int) (hb:Byt b) (hn:b≠[]):∃ (a:Int) (s:Nat),Cx.fst enc b=(a,(s:Int))∧1≤s∧s≤b.length∧Cx.put enc a=b.take s∧(Cx.put enc a).length=s∧Cx.fits enc a=true∧Cx.dec enc b=a :: Cx.dec enc (b.drop s):=by
 obtain ⟨h1,h2,h3⟩:=Cx.fst_bd enc b hn
 obtain ⟨k1,k2⟩:=Cx.back enc b hb hn he
 have e:Cx.fst enc b=((Cx.fst enc b).1,(((Cx.fst enc b).2.toNat:Nat):Int)):=by rw [Int.toNat_of_nonneg (by omega)]
 refine ⟨(Cx.fst enc b).1,(Cx.fst enc b).2.toNat,e,by omega,by omega,k2,?_,k1,Cx.dec_cons enc b hn _ _ e⟩
 rw [k2,List.length_take]
 omega
theorem Cx.dec_cut (enc:Int) (he:Cx.En enc):∀ (n:Nat) (b:List Int),Byt b→n≤(Cx.dec enc b).length →
  (Cx.encB enc ((Cx.dec enc b).take n)).length≤b.length∧Cx.dec enc (b.drop (Cx.encB enc ((Cx.dec enc b).take n)).length)=(Cx.dec enc b).drop n∧Cx.dec enc (b.take (Cx.encB enc ((Cx.dec enc b).take n)).length)=(Cx.dec enc b).take n:=by
 intro n
 induction n with
 | zero =>
   intro b hb _
   simp only [List.take_zero,List.drop_zero]
   exact ⟨Nat.zero_le _,rfl,Cx.dec_nil enc⟩
 | succ n ih =>
   intro b hb hn
   by_cases h0:b=[]
   ·subst h0;rw [Cx.dec_nil] at hn;simp at hn
   obtain ⟨a,s,hf,s1,s2,hp,hl,_,hd⟩:=Cx.dec_step enc he b hb h0
   rw [hd,List.length_cons] at hn
   obtain ⟨i1,i2,i3⟩:=ih (b.drop s) (hb.drop s) (by omega)
   rw [hd,List.take_succ_cons,List.drop_succ_cons,Cx.encB_cons,List.length_append,hl]
   rw [List.length_drop] at i1
   generalize hk:(Cx.encB enc ((Cx.dec enc (b.drop s)).take n)).length=k at *
   refine ⟨by omega,?_,?_⟩
   ·rw [← List.drop_drop];exact i2
   ·have hne:b.take (s + k)≠[]:=by
     intro e
     have:=congrArg List.length e
     rw [List.length_take,List.length_nil] at this
     omega
    have hft:=Cx.fst_take enc b hb h0 (s + k) (by rw [hf];simp only;omega)
    rw [Cx.dec_cons enc (b.take (s + k)) hne a s (by rw [hft];exact hf)]
    congr 1
    rw [List.drop_take,show s + k - s=k by omega]
    exact i3
theorem Cx.dec_last (enc:Int) (he:Cx.En enc):∀ (m:Nat) (b:List Int),b.length≤m→Byt b→b≠[]→∃ l,Cx.dec enc b=l ++ [(Cx.lst enc b).1]:=by
 intro m
 induction m with
 | zero=>intro b h _ hn;exact absurd (List.length_eq_zero_iff.1 (by omega)) hn
 | succ m ih =>
   intro b h hb hn
   obtain ⟨a,s,hf,s1,s2,hp,hl,_,hd⟩:=Cx.dec_step enc he b hb hn
   by_cases hs:s=b.length
   ·have:=Cx.last_one enc b hb hn he (by rw [hf,hs])
    rw [this,hf]
    refine ⟨[],?_⟩
    rw [hd,hs,List.drop_length,Cx.dec_nil]
    rfl
   ·have:=Cx.last_more enc b hb hn he s (by rw [hf]) (by omega)
    rw [this,hd]
    obtain ⟨l,hl'⟩:=ih (b.drop s) (by rw [List.length_drop];omega) (hb.drop s) (by
     intro e
     have:=congrArg List.length e
     rw [List.length_drop,List.length_nil] at this
     omega)
    exact ⟨a :: l,by rw [hl'];rfl⟩
theorem Cx.dec_snoc (enc:Int) (he:Cx.En enc) (b:List Int) (a:Int) (hb:Byt b) (hp:Byt (Cx.put enc a)) (hn:Cx.put enc a≠[]) (h:(Cx.lst enc (b ++ Cx.put enc a)).1=a):Cx.dec enc (b ++ Cx.put enc a)=Cx.dec enc b ++ [a]:=by
 have hB:Byt (b ++ Cx.put enc a):=fun x hx=>(List.mem_append.1 hx).elim (hb x) (hp x)
 obtain ⟨l,hl⟩:=Cx.dec_last enc he _ _ (Nat.le_refl _) hB (by simp [hn])
 rw [h] at hl
 have he1:=(Cx.back_all enc he _ _ (Nat.le_refl _) hB).1
 rw [hl,Cx.encB_app] at he1
 have e2:Cx.encB enc l=b:=by
  have:Cx.encB enc [a]=Cx.put enc a:=by simp [Cx.encB]
  rw [this] at he1
  exact List.append_cancel_right he1
 obtain ⟨_,_,k3⟩:=Cx.dec_cut enc he l.length (b ++ Cx.put enc a) hB (by rw [hl];simp)
 rw [hl,List.take_left' rfl,e2,List.take_left' rfl] at k3
 rw [hl,k3]
open Go.RowKit
theorem m_last1 (w : World) : (method 323 151 (.agg #[]) "copyist/codec.last").run Tryz.prog w = .ok (164, .agg #[]) w := by kernel_rfl
theorem m_last2 (k : Int) (w : World) : (method 323 153 (.agg #[.int .i64 k]) "copyist/codec.last").run Tryz.prog w = .ok (179, .agg #[.int .i64 k]) w := by kernel_rfl
theorem m_last4 (w : World) : (method 323 154 (.agg #[]) "copyist/codec.last").run Tryz.prog w = .ok (191, .agg #[]) w := by kernel_rfl
theorem n_first1 (w : World) : (nilAhead 323 151 (.agg #[]) "copyist/codec.first").run Tryz.prog w = .ok (some false) w := by kernel_rfl
theorem n_first2 (k : Int) (w : World) : (nilAhead 323 153 (.agg #[.int .i64 k]) "copyist/codec.first").run Tryz.prog w = .ok (some false) w := by kernel_rfl
theorem n_first4 (w : World) : (nilAhead 323 154 (.agg #[]) "copyist/codec.first").run Tryz.prog w = .ok (some false) w := by kernel_rfl
theorem n_last1 (w : World) : (nilAhead 323 151 (.agg #[]) "copyist/codec.last").run Tryz.prog w = .ok (some false) w := by kernel_rfl
theorem n_last2 (k : Int) (w : World) : (nilAhead 323 153 (.agg #[.int .i64 k]) "copyist/codec.last").run Tryz.prog w = .ok (some false) w := by kernel_rfl
theorem n_last4 (w : World) : (nilAhead 323 154 (.agg #[]) "copyist/codec.last").run Tryz.prog w = .ok (some false) w := by kernel_rfl
def Cx.nx (enc:Int) (zs:List Int) (a:Int):Int × Int:=if Cx.known enc=true∧0≤a∧a < zs.length then Cx.fst enc (zs.drop a.toNat) else (0,0)
def Cx.pv (enc:Int) (zs:List Int) (a:Int):Int × Int:=if Cx.known enc=true∧0 < a∧a≤zs.length then Cx.lst enc (zs.take a.toNat) else (0,0)
theorem lst1_any (v:Value) (zs:List Int) (w:World) (h:Rd .u8 w v zs) (hb:Byt zs) (hn:zs≠[]) :
  Calls Tryz.prog 164 #[.agg #[],v] w fun e w'=>e=.returned (.tuple #[.int .i64 (Cx.lst 1 zs).1,.int .i64 (Cx.lst 1 zs).2])∧Below w.heap.size w w':=by
 rw [show Cx.lst 1 zs=Cx.lst8 zs by unfold Cx.lst;rw [if_pos rfl]]
 exact last8_any v zs w h hb hn
theorem lst2_any (v:Value) (zs:List Int) (w:World) (h:Rd .u8 w v zs) (hb:Byt zs) (hn:zs≠[]) :
  Calls Tryz.prog 179 #[.agg #[.int .i64 0],v] w fun e w'=>e=.returned (.tuple #[.int .i64 (Cx.lst 2 zs).1,.int .i64 (Cx.lst 2 zs).2])∧Below w.heap.size w w':=by
 rw [show Cx.lst 2 zs=Cx.lst16 0 zs by unfold Cx.lst;rw [if_neg (by decide),if_pos rfl]]
 exact last16_any 0 v zs w h hb (.inl rfl) hn
theorem lst3_any (v:Value) (zs:List Int) (w:World) (h:Rd .u8 w v zs) (hb:Byt zs) (hn:zs≠[]) :
  Calls Tryz.prog 179 #[.agg #[.int .i64 1],v] w fun e w'=>e=.returned (.tuple #[.int .i64 (Cx.lst 3 zs).1,.int .i64 (Cx.lst 3 zs).2])∧Below w.heap.size w w':=by
 rw [show Cx.lst 3 zs=Cx.lst16 1 zs by unfold Cx.lst;rw [if_neg (by decide),if_neg (by decide),if_pos rfl]]
 exact last16_any 1 v zs w h hb (.inr rfl) hn
theorem lst4_any (v:Value) (zs:List Int) (w:World) (h:Rd .u8 w v zs) (hb:Byt zs) (hn:zs≠[]) :
  Calls Tryz.prog 191 #[.agg #[],v] w fun e w'=>e=.returned (.tuple #[.int .i64 (Cx.lst 4 zs).1,.int .i64 (Cx.lst 4 zs).2])∧Below w.heap.size w w':=by
 rw [show Cx.lst 4 zs=(Cx.lb zs,1) by unfold Cx.lst;rw [if_neg (by decide),if_neg (by decide),if_neg (by decide)]]
 exact last4_any v zs w h hb hn
open Go.RowKit
set_option maxHeartbeats 2000000 in
theorem Next_1 (v:Value) (zs:List Int) (n:Nat) (w:World) (h:Rd .u8 w v zs) (hb:Byt zs) (hn:n < zs.length) :
  Calls Tryz.prog 33 #[.int .i64 1,v,.int .i64 n] w fun e w'=>e=.returned (.tuple #[.int .i64 (Cx.fst 1 (zs.drop n)).1,.int .i64 (Cx.fst 1 (zs.drop n)).2])∧Below w.heap.size w w':=by
 have HR:Hid (Rd .u8 w v zs):=h
 have HB:Hid (Byt zs):=hb
 have hlen:=h.len
 obtain ⟨ao,cap,rfl,hl,hm,hc⟩:=h
 obtain ⟨b,off,rfl,_⟩:=hc (List.length_pos_iff.1 (by omega))
 have HN:Hid (zs.drop n≠[]):=List.length_pos_iff.1 (by rw [List.length_drop];omega)
 obtain ⟨a,m,hf⟩:∃ (a:Int) (m:Nat),Cx.fst 1 (zs.drop n)=(a,(m:Int)):=by
  have:=Cx.fst_bd 1 (zs.drop n) HN.out
  exact ⟨_,(Cx.fst 1 (zs.drop n)).2.toNat,Prod.ext rfl (by simp only;omega)⟩
 have HF:Hid (Cx.fst 1 (zs.drop n)=(a,(m:Int))):=hf
 have hcn:¬ cap=n:=by omega
 have HC:Hid (Rd .u8 w (.slice (some ⟨b,off + n,none⟩) (zs.length - n) (cap - n)) (zs.drop n)):=HR.out.cut (by omega)
 have hcm:cap≤9223372036854775807:=hm
 rw [hf]
 clear hb hc hf hm
 have hmt:=m_first1
 have hnt:=n_first1
 go_enter Tryz.func33,Tryz.ntmps33
 go_wp2_with fail
 refine (coderOf_1 _).mono ?_
 rintro e w' ⟨rfl,rfl⟩
 go_wp2_with fail
 first | go_region_with (go_at_call 163;refine (fst1_any _ (zs.drop n) a m _ (HC.out.ext (by repeat (first | exact Below.refl _ _ | apply below_drewN | refine zxa ?_ _ | apply Below.drew))) (HB.out.drop n) HN.out HF.out).mono ?_;rintro e w1 ⟨rfl,hb1⟩;have HW1:Hid (Below w'.heap.size w' w1):=zxt (by repeat (first | exact Below.refl _ _ | apply below_drewN | refine zxa ?_ _ | apply Below.drew)) hb1;clear hb1) | fail
 all_goals
  go_wp2
  go_ret2
  exact ⟨rfl,(by repeat (first | exact HW1.out | exact Below.refl _ _ | apply below_drewN | refine zxa ?_ _ | apply Below.drew))⟩
set_option maxHeartbeats 2000000 in
theorem Next_2 (v:Value) (zs:List Int) (n:Nat) (w:World) (h:Rd .u8 w v zs) (hb:Byt zs) (hn:n < zs.length) :
  Calls Tryz.prog 33 #[.int .i64 2,v,.int .i64 n] w fun e w'=>e=.returned (.tuple #[.int .i64 (Cx.fst 2 (zs.drop n)).1,.int .i64 (Cx.fst 2 (zs.drop n)).2])∧Below w.heap.size w w':=by
 have HR:Hid (Rd .u8 w v zs):=h
 have HB:Hid (Byt zs):=hb
 have hlen:=h.len
 obtain ⟨ao,cap,rfl,hl,hm,hc⟩:=h
 obtain ⟨b,off,rfl,_⟩:=hc (List.length_pos_iff.1 (by omega))
 have HN:Hid (zs.drop n≠[]):=List.length_pos_iff.1 (by rw [List.length_drop];omega)
 obtain ⟨a,m,hf⟩:∃ (a:Int) (m:Nat),Cx.fst 2 (zs.drop n)=(a,(m:Int)):=by
  have:=Cx.fst_bd 2 (zs.drop n) HN.out
  exact ⟨_,(Cx.fst 2 (zs.drop n)).2.toNat,Prod.ext rfl (by simp only;omega)⟩
 have HF:Hid (Cx.fst 2 (zs.drop n)=(a,(m:Int))):=hf
 have hcn:¬ cap=n:=by omega
 have HC:Hid (Rd .u8 w (.slice (some ⟨b,off + n,none⟩) (zs.length - n) (cap - n)) (zs.drop n)):=HR.out.cut (by omega)
 have hcm:cap≤9223372036854775807:=hm
 rw [hf]
 clear hb hc hf hm
 have hmt:=m_first2
 have hnt:=n_first2
 go_enter Tryz.func33,Tryz.ntmps33
 go_wp2_with fail
 refine (coderOf_2 _).mono ?_
 rintro e w' ⟨rfl,rfl⟩
 go_wp2_with fail
 first | go_region_with (go_at_call 178;refine (fst2_any _ (zs.drop n) a m _ (HC.out.ext (by repeat (first | exact Below.refl _ _ | apply below_drewN | refine zxa ?_ _ | apply Below.drew))) (HB.out.drop n) HN.out HF.out).mono ?_;rintro e w1 ⟨rfl,hb1⟩;have HW1:Hid (Below w'.heap.size w' w1):=zxt (by repeat (first | exact Below.refl _ _ | apply below_drewN | refine zxa ?_ _ | apply Below.drew)) hb1;clear hb1) | fail
 all_goals
  go_wp2
  go_ret2
  exact ⟨rfl,(by repeat (first | exact HW1.out | exact Below.refl _ _ | apply below_drewN | refine zxa ?_ _ | apply Below.drew))⟩
set_option maxHeartbeats 2000000 in
theorem Next_3 (v:Value) (zs:List Int) (n:Nat) (w:World) (h:Rd .u8 w v zs) (hb:Byt zs) (hn:n < zs.length) :
  Calls Tryz.prog 33 #[.int .i64 3,v,.int .i64 n] w fun e w'=>e=.returned (.tuple #[.int .i64 (Cx.fst 3 (zs.drop n)).1,.int .i64 (Cx.fst 3 (zs.drop n)).2])∧Below w.heap.size w w':=by
 have HR:Hid (Rd .u8 w v zs):=h
 have HB:Hid (Byt zs):=hb
 have hlen:=h.len
 obtain ⟨ao,cap,rfl,hl,hm,hc⟩:=h
 obtain ⟨b,off,rfl,_⟩:=hc (List.length_pos_iff.1 (by omega))
 have HN:Hid (zs.drop n≠[]):=List.length_pos_iff.1 (by rw [List.length_drop];omega)
 obtain ⟨a,m,hf⟩:∃ (a:Int) (m:Nat),Cx.fst 3 (zs.drop n)=(a,(m:Int)):=by
  have:=Cx.fst_bd 3 (zs.drop n) HN.out
  exact ⟨_,(Cx.fst 3 (zs.drop n)).2.toNat,Prod.ext rfl (by simp only;omega)⟩
 have HF:Hid (Cx.fst 3 (zs.drop n)=(a,(m:Int))):=hf
 have hcn:¬ cap=n:=by omega
 have HC:Hid (Rd .u8 w (.slice (some ⟨b,off + n,none⟩) (zs.length - n) (cap - n)) (zs.drop n)):=HR.out.cut (by omega)
 have hcm:cap≤9223372036854775807:=hm
 rw [hf]
 clear hb hc hf hm
 have hmt:=m_first2
 have hnt:=n_first2
 go_enter Tryz.func33,Tryz.ntmps33
 go_wp2_with fail
 refine (coderOf_3 _).mono ?_
 rintro e w' ⟨rfl,rfl⟩
 go_wp2_with fail
 first | go_region_with (go_at_call 178;refine (fst3_any _ (zs.drop n) a m _ (HC.out.ext (by repeat (first | exact Below.refl _ _ | apply below_drewN | refine zxa ?_ _ | apply Below.drew))) (HB.out.drop n) HN.out HF.out).mono ?_;rintro e w1 ⟨rfl,hb1⟩;have HW1:Hid (Below w'.heap.size w' w1):=zxt (by repeat (first | exact Below.refl _ _ | apply below_drewN | refine zxa ?_ _ | apply Below.drew)) hb1;clear hb1) | fail
 all_goals
  go_wp2
  go_ret2
  exact ⟨rfl,(by repeat (first | exact HW1.out | exact Below.refl _ _ | apply below_drewN | refine zxa ?_ _ | apply Below.drew))⟩
set_option maxHeartbeats 2000000 in
theorem Next_4 (v:Value) (zs:List Int) (n:Nat) (w:World) (h:Rd .u8 w v zs) (hb:Byt zs) (hn:n < zs.length) :
  Calls Tryz.prog 33 #[.int .i64 4,v,.int .i64 n] w fun e w'=>e=.returned (.tuple #[.int .i64 (Cx.fst 4 (zs.drop n)).1,.int .i64 (Cx.fst 4 (zs.drop n)).2])∧Below w.heap.size w w':=by
 have HR:Hid (Rd .u8 w v zs):=h
 have HB:Hid (Byt zs):=hb
 have hlen:=h.len
 obtain ⟨ao,cap,rfl,hl,hm,hc⟩:=h
 obtain ⟨b,off,rfl,_⟩:=hc (List.length_pos_iff.1 (by omega))
 have HN:Hid (zs.drop n≠[]):=List.length_pos_iff.1 (by rw [List.length_drop];omega)
 obtain ⟨a,m,hf⟩:∃ (a:Int) (m:Nat),Cx.fst 4 (zs.drop n)=(a,(m:Int)):=by
  have:=Cx.fst_bd 4 (zs.drop n) HN.out
  exact ⟨_,(Cx.fst 4 (zs.drop n)).2.toNat,Prod.ext rfl (by simp only;omega)⟩
 have HF:Hid (Cx.fst 4 (zs.drop n)=(a,(m:Int))):=hf
 have hcn:¬ cap=n:=by omega
 have HC:Hid (Rd .u8 w (.slice (some ⟨b,off + n,none⟩) (zs.length - n) (cap - n)) (zs.drop n)):=HR.out.cut (by omega)
 have hcm:cap≤9223372036854775807:=hm
 rw [hf]
 clear hb hc hf hm
 have hmt:=m_first4
 have hnt:=n_first4
 go_enter Tryz.func33,Tryz.ntmps33
 go_wp2_with fail
 refine (coderOf_4 _).mono ?_
 rintro e w' ⟨rfl,rfl⟩
 go_wp2_with fail
 first | go_region_with (go_at_call 190;refine (fst4_any _ (zs.drop n) a m _ (HC.out.ext (by repeat (first | exact Below.refl _ _ | apply below_drewN | refine zxa ?_ _ | apply Below.drew))) (HB.out.drop n) HN.out HF.out).mono ?_;rintro e w1 ⟨rfl,hb1⟩;have HW1:Hid (Below w'.heap.size w' w1):=zxt (by repeat (first | exact Below.refl _ _ | apply below_drewN | refine zxa ?_ _ | apply Below.drew)) hb1;clear hb1) | fail
 all_goals
  go_wp2
  go_ret2
  exact ⟨rfl,(by repeat (first | exact HW1.out | exact Below.refl _ _ | apply below_drewN | refine zxa ?_ _ | apply Below.drew))⟩
open Go.RowKit
set_option maxHeartbeats 2000000 in
theorem Prev_1 (v:Value) (zs:List Int) (n:Nat) (w:World) (h:Rd .u8 w v zs) (hb:Byt zs) (h0:0 < n) (hn:n≤zs.length) :
  Calls Tryz.prog 111 #[.int .i64 1,v,.int .i64 n] w fun e w'=>e=.returned (.tuple #[.int .i64 (Cx.lst 1 (zs.take n)).1,.int .i64 (Cx.lst 1 (zs.take n)).2])∧Below w.heap.size w w':=by
 have HR:Hid (Rd .u8 w v zs):=h
 have HB:Hid (Byt zs):=hb
 have hlen:=h.len
 obtain ⟨ao,cap,rfl,hl,hm,hc⟩:=h
 obtain ⟨b,off,rfl,_⟩:=hc (List.length_pos_iff.1 (by omega))
 have HN:Hid (zs.take n≠[]):=List.length_pos_iff.1 (by rw [List.length_take];omega)
 have hcm:cap≤9223372036854775807:=hm
 have hnc:n≤cap:=by omega
 have HX:Hid (∀ w':World,Below w.heap.size w w'→Calls Tryz.prog 164 #[.agg #[],.slice (some ⟨b,off,none⟩) n cap] w' fun e w''=>e=.returned (.tuple #[.int .i64 (Cx.lst 1 (zs.take n)).1,.int .i64 (Cx.lst 1 (zs.take n)).2])∧Below w'.heap.size w' w''):=fun w' hw=>lst1_any (.slice (some ⟨b,off,none⟩) n cap) (zs.take n) w' ((HR.out.take n hn).ext hw) (HB.out.take n) HN.out
 generalize (Cx.lst 1 (zs.take n)).1=x at *
 generalize (Cx.lst 1 (zs.take n)).2=y at *
 clear hb hc hm
 have hmt:=m_last1
 have hnt:=n_last1
 go_enter Tryz.func111,Tryz.ntmps111
 go_wp2_with fail
 refine (coderOf_1 _).mono ?_
 rintro e w' ⟨rfl,rfl⟩
 go_wp2_with fail
 first | go_region_with (go_at_call 164;refine (HX.out _ (by repeat (first | exact Below.refl _ _ | apply below_drewN | refine zxa ?_ _ | apply Below.drew))).mono ?_;rintro e w1 ⟨rfl,hb1⟩;have HW1:Hid (Below w'.heap.size w' w1):=zxt (by repeat (first | exact Below.refl _ _ | apply below_drewN | refine zxa ?_ _ | apply Below.drew)) hb1;clear hb1) | fail
 all_goals
  go_wp2
  go_ret2
  exact ⟨rfl,(by repeat (first | exact HW1.out | exact Below.refl _ _ | apply below_drewN | refine zxa ?_ _ | apply Below.drew))⟩
set_option maxHeartbeats 2000000 in
theorem Prev_2 (v:Value) (zs:List Int) (n:Nat) (w:World) (h:Rd .u8 w v zs) (hb:Byt zs) (h0:0 < n) (hn:n≤zs.length) :
  Calls Tryz.prog 111 #[.int .i64 2,v,.int .i64 n] w fun e w'=>e=.returned (.tuple #[.int .i64 (Cx.lst 2 (zs.take n)).1,.int .i64 (Cx.lst 2 (zs.take n)).2])∧Below w.heap.size w w':=by
 have HR:Hid (Rd .u8 w v zs):=h
 have HB:Hid (Byt zs):=hb
 have hlen:=h.len
 obtain ⟨ao,cap,rfl,hl,hm,hc⟩:=h
 obtain ⟨b,off,rfl,_⟩:=hc (List.length_pos_iff.1 (by omega))
 have HN:Hid (zs.take n≠[]):=List.length_pos_iff.1 (by rw [List.length_take];omega)
 have hcm:cap≤9223372036854775807:=hm
 have hnc:n≤cap:=by omega
 have HX:Hid (∀ w':World,Below w.heap.size w w'→Calls Tryz.prog 179 #[.agg #[.int .i64 0],.slice (some ⟨b,off,none⟩) n cap] w' fun e w''=>e=.returned (.tuple #[.int .i64 (Cx.lst 2 (zs.take n)).1,.int .i64 (Cx.lst 2 (zs.take n)).2])∧Below w'.heap.size w' w''):=fun w' hw=>lst2_any (.slice (some ⟨b,off,none⟩) n cap) (zs.take n) w' ((HR.out.take n hn).ext hw) (HB.out.take n) HN.out
 generalize (Cx.lst 2 (zs.take n)).1=x at *
 generalize (Cx.lst 2 (zs.take n)).2=y at *
 clear hb hc hm
 have hmt:=m_last2
 have hnt:=n_last2
 go_enter Tryz.func111,Tryz.ntmps111
 go_wp2_with fail
 refine (coderOf_2 _).mono ?_
 rintro e w' ⟨rfl,rfl⟩
 go_wp2_with fail
 first | go_region_with (go_at_call 179;refine (HX.out _ (by repeat (first | exact Below.refl _ _ | apply below_drewN | refine zxa ?_ _ | apply Below.drew))).mono ?_;rintro e w1 ⟨rfl,hb1⟩;have HW1:Hid (Below w'.heap.size w' w1):=zxt (by repeat (first | exact Below.refl _ _ | apply below_drewN | refine zxa ?_ _ | apply Below.drew)) hb1;clear hb1) | fail
 all_goals
  go_wp2
  go_ret2
  exact ⟨rfl,(by repeat (first | exact HW1.out | exact Below.refl _ _ | apply below_drewN | refine zxa ?_ _ | apply Below.drew))⟩
set_option maxHeartbeats 2000000 in
theorem Prev_3 (v:Value) (zs:List Int) (n:Nat) (w:World) (h:Rd .u8 w v zs) (hb:Byt zs) (h0:0 < n) (hn:n≤zs.length) :
  Calls Tryz.prog 111 #[.int .i64 3,v,.int .i64 n] w fun e w'=>e=.returned (.tuple #[.int .i64 (Cx.lst 3 (zs.take n)).1,.int .i64 (Cx.lst 3 (zs.take n)).2])∧Below w.heap.size w w':=by
 have HR:Hid (Rd .u8 w v zs):=h
 have HB:Hid (Byt zs):=hb
 have hlen:=h.len
 obtain ⟨ao,cap,rfl,hl,hm,hc⟩:=h
 obtain ⟨b,off,rfl,_⟩:=hc (List.length_pos_iff.1 (by omega))
 have HN:Hid (zs.take n≠[]):=List.length_pos_iff.1 (by rw [List.length_take];omega)
 have hcm:cap≤9223372036854775807:=hm
 have hnc:n≤cap:=by omega
 have HX:Hid (∀ w':World,Below w.heap.size w w'→Calls Tryz.prog 179 #[.agg #[.int .i64 1],.slice (some ⟨b,off,none⟩) n cap] w' fun e w''=>e=.returned (.tuple #[.int .i64 (Cx.lst 3 (zs.take n)).1,.int .i64 (Cx.lst 3 (zs.take n)).2])∧Below w'.heap.size w' w''):=fun w' hw=>lst3_any (.slice (some ⟨b,off,none⟩) n cap) (zs.take n) w' ((HR.out.take n hn).ext hw) (HB.out.take n) HN.out
 generalize (Cx.lst 3 (zs.take n)).1=x at *
 generalize (Cx.lst 3 (zs.take n)).2=y at *
 clear hb hc hm
 have hmt:=m_last2
 have hnt:=n_last2
 go_enter Tryz.func111,Tryz.ntmps111
 go_wp2_with fail
 refine (coderOf_3 _).mono ?_
 rintro e w' ⟨rfl,rfl⟩
 go_wp2_with fail
 first | go_region_with (go_at_call 179;refine (HX.out _ (by repeat (first | exact Below.refl _ _ | apply below_drewN | refine zxa ?_ _ | apply Below.drew))).mono ?_;rintro e w1 ⟨rfl,hb1⟩;have HW1:Hid (Below w'.heap.size w' w1):=zxt (by repeat (first | exact Below.refl _ _ | apply below_drewN | refine zxa ?_ _ | apply Below.drew)) hb1;clear hb1) | fail
 all_goals
  go_wp2
  go_ret2
  exact ⟨rfl,(by repeat (first | exact HW1.out | exact Below.refl _ _ | apply below_drewN | refine zxa ?_ _ | apply Below.drew))⟩
set_option maxHeartbeats 2000000 in
theorem Prev_4 (v:Value) (zs:List Int) (n:Nat) (w:World) (h:Rd .u8 w v zs) (hb:Byt zs) (h0:0 < n) (hn:n≤zs.length) :
  Calls Tryz.prog 111 #[.int .i64 4,v,.int .i64 n] w fun e w'=>e=.returned (.tuple #[.int .i64 (Cx.lst 4 (zs.take n)).1,.int .i64 (Cx.lst 4 (zs.take n)).2])∧Below w.heap.size w w':=by
 have HR:Hid (Rd .u8 w v zs):=h
 have HB:Hid (Byt zs):=hb
 have hlen:=h.len
 obtain ⟨ao,cap,rfl,hl,hm,hc⟩:=h
 obtain ⟨b,off,rfl,_⟩:=hc (List.length_pos_iff.1 (by omega))
 have HN:Hid (zs.take n≠[]):=List.length_pos_iff.1 (by rw [List.length_take];omega)
 have hcm:cap≤9223372036854775807:=hm
 have hnc:n≤cap:=by omega
 have HX:Hid (∀ w':World,Below w.heap.size w w'→Calls Tryz.prog 191 #[.agg #[],.slice (some ⟨b,off,none⟩) n cap] w' fun e w''=>e=.returned (.tuple #[.int .i64 (Cx.lst 4 (zs.take n)).1,.int .i64 (Cx.lst 4 (zs.take n)).2])∧Below w'.heap.size w' w''):=fun w' hw=>lst4_any (.slice (some ⟨b,off,none⟩) n cap) (zs.take n) w' ((HR.out.take n hn).ext hw) (HB.out.take n) HN.out
 generalize (Cx.lst 4 (zs.take n)).1=x at *
 generalize (Cx.lst 4 (zs.take n)).2=y at *
 clear hb hc hm
 have hmt:=m_last4
 have hnt:=n_last4
 go_enter Tryz.func111,Tryz.ntmps111
 go_wp2_with fail
 refine (coderOf_4 _).mono ?_
 rintro e w' ⟨rfl,rfl⟩
 go_wp2_with fail
 first | go_region_with (go_at_call 191;refine (HX.out _ (by repeat (first | exact Below.refl _ _ | apply below_drewN | refine zxa ?_ _ | apply Below.drew))).mono ?_;rintro e w1 ⟨rfl,hb1⟩;have HW1:Hid (Below w'.heap.size w' w1):=zxt (by repeat (first | exact Below.refl _ _ | apply below_drewN | refine zxa ?_ _ | apply Below.drew)) hb1;clear hb1) | fail
 all_goals
  go_wp2
  go_ret2
  exact ⟨rfl,(by repeat (first | exact HW1.out | exact Below.refl _ _ | apply below_drewN | refine zxa ?_ _ | apply Below.drew))⟩
end Go.Proofs.YtdhciadajendnaaGreat
namespace Go.Proofs.YtdhciadajendnaaGreat
theorem Cx.put_byt (enc a:Int) (hf:Cx.fits enc a=true):Byt (Cx.put enc a):=by
 have hfb:-256≤a∧a≤1114111∧(enc=4→a≤255):=by
  unfold Cx.fits Cx.isSc at hf
  repeat' split at hf
  all_goals simp at hf
  all_goals omega
 intro z hz
 unfold Cx.put Cx.put8 Cx.unit at hz
 repeat' split at hz
 all_goals simp at hz
 all_goals omega
theorem Cx.mean_put8 (a:Int) (h:Cx.isSc a=true):Cx.mean (Cx.put8 a)=a:=by
 have:=(Cx.sc_iff a).1 h
 rcases (show a < 128∨(128≤a∧a < 2048)∨(2048≤a∧a < 65536)∨65536≤a from by omega) with h | ⟨h,h'⟩ | ⟨h,h'⟩ | h
 ·rw [Cx.put8_1 a h];rfl
 ·rw [Cx.put8_2 a h h'];simp only [Cx.mean];omega
 ·rw [Cx.put8_3 a h h'];simp only [Cx.mean];omega
 ·rw [Cx.put8_4 a h];simp only [Cx.mean];omega
theorem Cx.read1 (a:Int) (r:List Int) (h:Cx.isSc a=true) (hr:Byt r):Cx.first8 (Cx.put 1 a ++ r)=(a,((Cx.put 1 a).length:Int)):=by
 have hs:=(Cx.sc_iff a).1 h
 have e:Cx.put 1 a=Cx.put8 a:=by unfold Cx.put;rw [if_neg (by omega),if_pos rfl]
 have hb:Byt (Cx.put 1 a ++ r):=by
  intro z hz
  rcases List.mem_append.1 hz with hz | hz
  ·exact Cx.put_byt 1 a (by unfold Cx.fits;rw [if_pos rfl,h,Bool.true_or]) z hz
  ·exact hr z hz
 have ht:(Cx.put 1 a ++ r).take (Cx.put 1 a).length=Cx.put8 a:=by rw [List.take_left',e];rfl
 have hl:=Cx.put_len 1 a
 have hm:Cx.mean ((Cx.put 1 a ++ r).take (Cx.put 1 a).length)=a:=by rw [ht,Cx.mean_put8 a h]
 have hh:Cx.hitB (Cx.put 1 a ++ r) (Cx.put 1 a).length=true:=by
  rw [Cx.hitB_iff _ _ a hm]
  refine ⟨by rw [List.length_append];omega,h,by rw [e],?_⟩
  rw [List.isPrefixOf_iff_prefix,e]
  exact List.prefix_append _ _
 rw [Cx.first8_hit _ hb _ hl.1 hl.2 hh,hm]
theorem Cx.wv_unit (enc u:Int) (r:List Int) (he:enc=2∨enc=3):Cx.wv (Cx.lowOf enc) (Cx.unit enc u ++ r)=u:=by
 rcases he with rfl | rfl
 ·simp only [Cx.wv,Cx.lowOf,Cx.unit,if_true,List.cons_append,List.nil_append,List.getElem?_cons_succ,List.getElem?_cons_zero,Option.getD_some]
  omega
 ·simp only [Cx.wv,Cx.lowOf,Cx.unit,show ¬ ((3:Int)=2) from by decide,show ¬ ((1:Int)=0) from by decide,if_false,List.cons_append,List.nil_append,List.getElem?_cons_succ,List.getElem?_cons_zero,Option.getD_some]
  omega
theorem Cx.unit_len (enc u:Int):(Cx.unit enc u).length=2:=by unfold Cx.unit;split <;> rfl
theorem Cx.read2 (enc a:Int) (r:List Int) (h:Cx.isSc a=true) (he:enc=2∨enc=3):Cx.first16 (Cx.lowOf enc) (Cx.put enc a ++ r)=(a,((Cx.put enc a).length:Int)):=by
 have hs:=(Cx.sc_iff a).1 h
 by_cases hb:65536≤a
 ·have e:Cx.put enc a=Cx.unit enc (55296 + (a - 65536) / 1024) ++ Cx.unit enc (56320 + a % 1024):=by
   unfold Cx.put;rw [if_neg (by omega),if_neg (by omega),if_neg (by omega),if_pos hb]
  have l1:=Cx.unit_len enc (55296 + (a - 65536) / 1024)
  have l2:=Cx.unit_len enc (56320 + a % 1024)
  rw [e,List.append_assoc]
  have e1:=Cx.wv_unit enc (55296 + (a - 65536) / 1024) (Cx.unit enc (56320 + a % 1024) ++ r) he
  have e2:Cx.wv (Cx.lowOf enc) ((Cx.unit enc (55296 + (a - 65536) / 1024) ++ (Cx.unit enc (56320 + a % 1024) ++ r)).drop 2)=56320 + a % 1024:=by
   rw [← l1,List.drop_left];exact Cx.wv_unit enc _ r he
  have hP:Cx.isP (Cx.lowOf enc) (Cx.unit enc (55296 + (a - 65536) / 1024) ++ (Cx.unit enc (56320 + a % 1024) ++ r))=true:=by
   unfold Cx.isP
   rw [e1,e2]
   unfold Cx.hiU Cx.loU
   simp only [List.length_append,l1,l2,Bool.and_eq_true,decide_eq_true_eq]
   omega
  unfold Cx.first16
  rw [if_neg (by simp only [List.length_append,l1,l2];omega),hP,if_pos rfl]
  unfold Cx.pairV
  rw [e1,e2,List.length_append,l1,l2]
  refine Prod.ext (by simp only;omega) rfl
 ·have e:Cx.put enc a=Cx.unit enc a:=by
   unfold Cx.put;rw [if_neg (by omega),if_neg (by omega),if_neg (by omega),if_neg hb]
  have l1:=Cx.unit_len enc a
  have e1:=Cx.wv_unit enc a r he
  rw [e]
  have hP:Cx.isP (Cx.lowOf enc) (Cx.unit enc a ++ r)=false:=by
   unfold Cx.isP
   rw [e1]
   have:Cx.hiU a=false:=by unfold Cx.hiU;simp;omega
   rw [this,Bool.and_false,Bool.false_and]
  unfold Cx.first16
  rw [if_neg (by simp only [List.length_append,l1];omega),hP,if_neg (by simp),e1,l1]
  rfl
theorem Cx.read (enc a:Int) (r:List Int) (h:Cx.isSc a=true) (hf:Cx.fits enc a=true) (hr:Byt r) (he:enc=1∨enc=2∨enc=3∨enc=4):Cx.fst enc (Cx.put enc a ++ r)=(a,((Cx.put enc a).length:Int)):=by
 rcases he with rfl | rfl | rfl | rfl
 ·exact Cx.read1 a r h hr
 ·exact Cx.read2 2 a r h (.inl rfl)
 ·exact Cx.read2 3 a r h (.inr rfl)
 ·have hs:=(Cx.sc_iff a).1 h
  have e:Cx.put 4 a=[a]:=by unfold Cx.put;rw [if_neg (by omega)];rfl
  rw [e];rfl
open Go.RowKit
theorem Cx.put_ne (enc a:Int):Cx.put enc a≠[]:=by
 unfold Cx.put Cx.put8 Cx.unit
 repeat' split
 all_goals simp
theorem Cx.fst_put16 (enc a:Int) (he:enc=2∨enc=3) (hf:-256≤a∧a≤1114111) (hns:¬ ((0≤a∧a < 55296)∨(57343 < a∧a≤1114111))):Cx.fst enc (Cx.put enc a)=(a,((Cx.put enc a).length:Int)):=by
 rw [Cx.fst_low enc _ he]
 by_cases h0:a < 0
 ·have hp:Cx.put enc a=[-1 - a]:=by unfold Cx.put;rw [if_pos h0]
  rw [hp]
  unfold Cx.first16
  rw [if_pos (show [-1 - a].length=1 from rfl)]
  simp [Cx.c0]
  omega
 ·have hp:Cx.put enc a=Cx.unit enc a:=by unfold Cx.put;rw [if_neg h0,if_neg (by omega),if_neg (by omega),if_neg (by omega)]
  have hl:=Cx.unit_len enc a
  have hw:=Cx.wv_unit enc a [] he
  rw [List.append_nil] at hw
  rw [hp]
  unfold Cx.first16
  rw [if_neg (by omega),hl]
  have hP:Cx.isP (Cx.lowOf enc) (Cx.unit enc a)=false:=by unfold Cx.isP;rw [hl];simp
  rw [hP,hw]
  rfl
theorem Cx.fst_put (enc a:Int) (he:Cx.En enc) (hf:Cx.fits enc a=true):Cx.fst enc (Cx.put enc a)=(a,((Cx.put enc a).length:Int)):=by
 by_cases hs:Cx.isSc a=true
 ·have:=Cx.read enc a [] hs hf (fun _ h=>by cases h) he
  rwa [List.append_nil] at this
 ·have hns:¬ ((0≤a∧a < 55296)∨(57343 < a∧a≤1114111)):=fun h=>hs ((Cx.sc_iff a).2 h)
  rcases he with rfl | rfl | rfl | rfl
  ·have hf':-256≤a∧a≤-129:=by
    unfold Cx.fits at hf
    simp [hs] at hf
    omega
   have hp:Cx.put 1 a=[-1 - a]:=by unfold Cx.put;rw [if_pos (by omega)]
   rw [hp]
   show Cx.first8 [-1 - a]=_
   rcases Cx.fst8_cases [-1 - a] with ⟨h1,h2,_⟩ | ⟨_,h2⟩
   ·have hm:Cx.mtch [-1 - a]=1:=by simp at h2;omega
    rw [Cx.mtch_eq] at hm
    split at hm
    ·unfold Cx.rowN Cx.c0 at hm
     simp at hm
     repeat' split at hm
     all_goals omega
    ·omega
   ·rw [h2]
    simp [Cx.c0]
    omega
  ·exact Cx.fst_put16 2 a (.inl rfl) (by unfold Cx.fits at hf;simp at hf;omega) hns
  ·exact Cx.fst_put16 3 a (.inr rfl) (by unfold Cx.fits at hf;simp at hf;omega) hns
  ·exfalso
   unfold Cx.fits at hf
   simp at hf
   omega
theorem Cx.dec_put (enc a:Int) (he:Cx.En enc) (hf:Cx.fits enc a=true):Cx.dec enc (Cx.put enc a)=[a]:=by
 rw [Cx.dec_cons enc (Cx.put enc a) (Cx.put_ne enc a) a _ (Cx.fst_put enc a he hf),List.drop_length,Cx.dec_nil]
theorem Cx.lst_put (enc a:Int) (he:Cx.En enc) (hf:Cx.fits enc a=true):(Cx.lst enc (Cx.put enc a)).1=a:=by
 obtain ⟨l,hl⟩:=Cx.dec_last enc he _ (Cx.put enc a) (Nat.le_refl _) (Cx.put_byt enc a hf) (Cx.put_ne enc a)
 rw [Cx.dec_put enc a he hf] at hl
 have:=congrArg List.getLast? hl
 simp at this
 exact this.symm
end Go.Proofs.YtdhciadajendnaaGreat
