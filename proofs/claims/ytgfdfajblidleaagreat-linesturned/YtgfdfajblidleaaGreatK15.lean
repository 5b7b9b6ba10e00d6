import Derived.Test.YtgfdfajblidleaaGreatK14
set_option maxRecDepth 100000
namespace Go.Proofs.YtgfdfajblidleaaGreat
open Go.RowKit
def Cx.bad (enc:Int):Nat→List Int→Option Nat
 | _,[]=>none
 | i,a :: l=>if Cx.fits enc a=true then Cx.bad enc (i + 1) l else some i
def Cx.encB (enc:Int) (l:List Int):List Int:=l.flatMap (Cx.put enc)
def Cx.encR (enc:Int) (l:List Int):List Int × Int × Int :=
 if Cx.known enc=true then (match Cx.bad enc 0 l with | some i=>([],(i:Int),11) | none=>(Cx.encB enc l,0,0)) else ([],0,10)
theorem Cx.bad_at (enc:Int):∀ (l:List Int) (i k:Nat),k < l.length→(∀ j,j < k→Cx.fits enc (l[j]?.getD 0)=true)→Cx.fits enc (l[k]?.getD 0)=false→Cx.bad enc i l=some (i + k):=by
 intro l
 induction l with
 | nil=>intro i k hk;simp at hk
 | cons a l ih =>
   intro i k hk hj hf
   unfold Cx.bad
   cases k with
   | zero=>simp at hf;simp [hf]
   | succ k =>
     have h0:=hj 0 (by omega)
     simp at h0
     rw [if_pos h0,ih (i + 1) k (by simpa using hk) (fun j hjk=>by simpa using hj (j + 1) (by omega)) (by simpa using hf)]
     congr 1;omega
theorem Cx.bad_none (enc:Int):∀ (l:List Int) (i:Nat),(∀ j,j < l.length→Cx.fits enc (l[j]?.getD 0)=true)→Cx.bad enc i l=none:=by
 intro l
 induction l with
 | nil=>intro i _;rfl
 | cons a l ih =>
   intro i hj
   unfold Cx.bad
   have h0:=hj 0 (by simp)
   simp at h0
   rw [if_pos h0]
   exact ih (i + 1) (fun j hjk=>by simpa using hj (j + 1) (by simpa using hjk))
theorem Cx.encB_len (enc:Int) (l:List Int):(Cx.encB enc l).length≤4 * l.length:=by
 unfold Cx.encB
 induction l with
 | nil=>simp
 | cons a l ih =>
   have:=(Cx.put_len enc a).2
   simp only [List.flatMap_cons,List.length_append,List.length_cons]
   omega
theorem Cx.encB_succ (enc:Int) (l:List Int) (k:Nat) (h:k < l.length):Cx.encB enc (l.take (k + 1))=Cx.encB enc (l.take k) ++ Cx.put enc (l[k]?.getD 0):=by
 unfold Cx.encB
 rw [List.take_succ_eq_append_getElem h,List.flatMap_append]
 simp [h]
theorem Cx.encR_bad (enc:Int) (l:List Int) (k:Nat) (hk:Cx.known enc=true) (h1:k < l.length) (h2:∀ j,j < k→Cx.fits enc (l[j]?.getD 0)=true) (h3:Cx.fits enc (l[k]?.getD 0)=false):Cx.encR enc l=([],(k:Int),11):=by
 unfold Cx.encR;rw [if_pos hk,Cx.bad_at enc l 0 k h1 h2 h3];simp
theorem Cx.encR_all (enc:Int) (l:List Int) (hk:Cx.known enc=true) (h2:∀ j,j < l.length→Cx.fits enc (l[j]?.getD 0)=true):Cx.encR enc l=(Cx.encB enc l,0,0):=by
 unfold Cx.encR;rw [if_pos hk,Cx.bad_none enc l 0 h2]
theorem m_put1 (w : World) : (method 305 161 (.agg #[]) "copyist/codec.put").run Tryz.prog w = .ok (134, .agg #[]) w := by kernel_rfl
theorem m_put2 (k : Int) (w : World) : (method 305 163 (.agg #[.int .i64 k]) "copyist/codec.put").run Tryz.prog w = .ok (149, .agg #[.int .i64 k]) w := by kernel_rfl
theorem m_put4 (w : World) : (method 305 164 (.agg #[]) "copyist/codec.put").run Tryz.prog w = .ok (161, .agg #[]) w := by kernel_rfl
theorem Cx.size_zero (enc a:Int):(Cx.size enc a == 0)=!Cx.fits enc a:=by
 have:=Cx.put_len enc a
 unfold Cx.size
 cases h:Cx.fits enc a
 ·simp
 ·simp;intro h';rw [h'] at this;simp at this
theorem sizeE_1 (a:Int) (w:World):Calls Tryz.prog 135 #[.agg #[],.int .i64 a] w fun e w'=>e=.returned (.int .i64 (Cx.size 1 a))∧Below w.heap.size w w':=by rw [Cx.size1];exact nsize_any a w
theorem sizeE_2 (a:Int) (w:World):Calls Tryz.prog 150 #[.agg #[.int .i64 0],.int .i64 a] w fun e w'=>e=.returned (.int .i64 (Cx.size 2 a))∧Below w.heap.size w w':=by rw [Cx.sizeW _ _ (.inl rfl)];exact wsize_any 0 a w
theorem sizeE_3 (a:Int) (w:World):Calls Tryz.prog 150 #[.agg #[.int .i64 1],.int .i64 a] w fun e w'=>e=.returned (.int .i64 (Cx.size 3 a))∧Below w.heap.size w w':=by rw [Cx.sizeW _ _ (.inr rfl)];exact wsize_any 1 a w
theorem sizeE_4 (a:Int) (w:World):Calls Tryz.prog 162 #[.agg #[],.int .i64 a] w fun e w'=>e=.returned (.int .i64 (Cx.size 4 a))∧Below w.heap.size w w':=by rw [Cx.size4];exact lsize_any a w
set_option maxHeartbeats 1000000 in
theorem Encode_1 (v:Value) (l:List Int) (w:World) (h:Rd .i64 w v l) (hz:l.length * 8 + 320≤140737488355328) :
  Calls Tryz.prog 97 #[.int .i64 1,v] w fun e w'=>∃ v',e=.returned (.tuple #[v',.int .i64 (Cx.encR 1 l).2.1,.int .i64 (Cx.encR 1 l).2.2])∧w'.ownsRow w.heap.size 5 1 v' (Cx.encR 1 l).1.length ((Cx.encR 1 l).1.map (Value.int .u8))∧Below w.heap.size w w':=by
 have hlen:=h.len
 obtain ⟨ao,cap,rfl,hlc,hcm,hc⟩:=h
 have hms:=m_size1
 have hmp:=m_put1
 have HA:Hid ((∀ j,j < l.length→Cx.fits 1 (l[j]?.getD 0)=true)→Cx.encR 1 l=(Cx.encB 1 l,0,0)):=Cx.encR_all 1 l rfl
 have HF:Hid (∀ k,k < l.length→(∀ j,j < k→Cx.fits 1 (l[j]?.getD 0)=true)→Cx.fits 1 (l[k]?.getD 0)=false→Cx.encR 1 l=([],(k:Int),11)):=fun k=>Cx.encR_bad 1 l k rfl
 clear hcm
 go_enter Tryz.func97,Tryz.ntmps97
 go_wp2_with (go_at_call 73;refine (coderOf_1 _).mono ?_;rintro e w0 ⟨rfl,rfl⟩)
 go_loopw [9,21] (fun o i wr=>∃ k:Nat,k≤l.length∧i=.int .i64 k∧Hid (∀ j,j < k→Cx.fits 1 (l[j]?.getD 0)=true)∧wr.ownsRow w0.heap.size 5 1 o (Cx.encB 1 (l.take k)).length ((Cx.encB 1 (l.take k)).map (Value.int .u8))∧Below w0.heap.size w0 wr) (fun _ i _=>l.length - (intOf i).toNat)
 case atStart=>exact ⟨0,Nat.zero_le _,rfl,fun j hj=>by omega,World.ownsRow_nil _ _ _ _,Below.refl _ _⟩
 case round =>
  obtain ⟨k,hk,rfl,HJ,hown,hbw⟩:=hrel
  by_cases hlt:k < l.length
  ·obtain ⟨b,off,rfl,hbl,hcl⟩:=hc (List.length_pos_iff.1 (by omega))
   have hcx:wr.cell? ⟨b,off + k,none⟩=some (.int .i64 (l[k]?.getD 0)):=(hbw.cell (p:=⟨b,off + k,none⟩) hbl).trans (hcl k hlt)
   have hel:=Cx.encB_len 1 (l.take k)
   have htk:(l.take k).length=k:=by rw [List.length_take];omega
   have HS:=Cx.encB_succ 1 l k hlt
   have HF':=HF.out k hlt HJ.out
   have hsz:=Cx.size_zero 1 (l[k]?.getD 0)
   cases hf:Cx.fits 1 (l[k]?.getD 0)
   ·rw [hf] at hsz
    have HT:Hid (Cx.encR 1 l=([],(k:Int),11)):=HF' hf
    generalize l[k]?.getD 0=a at *
    clear hc hcl HS HF' HF HA hf
    go_wp2_with fail
    refine (sizeE_1 _ _).mono ?_
    rintro e w1 ⟨rfl,hb1⟩
    have HW1:Hid (Below w0.heap.size w0 w1):=zxt hbw hb1
    clear hb1
    go_wp2_with fail
    go_ret3
    exact ⟨_,by rw [HT.out];rfl,by rw [HT.out];exact World.ownsRow_nil _ _ _ _,HW1.out⟩
   ·rw [hf] at hsz
    have HX:Hid (∀ j,j < k + 1→Cx.fits 1 (l[j]?.getD 0)=true):=fun j hj=>by
     by_cases hjk:j=k
     ·rw [hjk];exact hf
     ·exact HJ.out j (by omega)
    have HFT:Hid (Cx.fits 1 (l[k]?.getD 0)=true):=hf
    have HS':Hid (Cx.encB 1 (l.take (k + 1))=Cx.encB 1 (l.take k) ++ Cx.put 1 (l[k]?.getD 0)):=HS
    generalize l[k]?.getD 0=a at *
    generalize Cx.encB 1 (l.take k)=xs at *
    clear hc hcl HS HF' HF HA hf HJ
    go_wp2_with fail
    refine (sizeE_1 _ _).mono ?_
    rintro e w1 ⟨rfl,hb1⟩
    have hbw1:Below w0.heap.size w0 w1:=zxt hbw hb1
    have hown1:=own_ext hown hb1
    have hs1:w0.heap.size≤w1.heap.size:=hbw1.size
    clear hb1 hown hbw
    go_wp2_with fail
    refine (put1_any _ xs w0.heap.size a _ hown1 hs1 (by omega) HFT.out).mono ?_
    rintro e w2 ⟨v2,rfl,hown2,hb2⟩
    go_wp2_with fail
    go_roundw
    case rel=>exact ⟨k + 1,by omega,by go_num,HX.out,by rw [HS'.out];exact hown2,hbw1.trans hb2⟩
    case measure=>simp [intOf];omega
  ·have hke:k=l.length:=by omega
   subst hke
   have HT:Hid (Cx.encR 1 l=(Cx.encB 1 l,0,0)):=HA.out HJ.out
   rw [List.take_length] at hown
   clear hc HF HA HJ
   go_wp2
   go_ret3
   exact ⟨_,by rw [HT.out];rfl,by rw [HT.out];exact hown,hbw⟩
set_option maxHeartbeats 1000000 in
theorem Encode_2 (v:Value) (l:List Int) (w:World) (h:Rd .i64 w v l) (hz:l.length * 8 + 320≤140737488355328) :
  Calls Tryz.prog 97 #[.int .i64 2,v] w fun e w'=>∃ v',e=.returned (.tuple #[v',.int .i64 (Cx.encR 2 l).2.1,.int .i64 (Cx.encR 2 l).2.2])∧w'.ownsRow w.heap.size 5 1 v' (Cx.encR 2 l).1.length ((Cx.encR 2 l).1.map (Value.int .u8))∧Below w.heap.size w w':=by
 have hlen:=h.len
 obtain ⟨ao,cap,rfl,hlc,hcm,hc⟩:=h
 have hms:=m_size2
 have hmp:=m_put2
 have HA:Hid ((∀ j,j < l.length→Cx.fits 2 (l[j]?.getD 0)=true)→Cx.encR 2 l=(Cx.encB 2 l,0,0)):=Cx.encR_all 2 l rfl
 have HF:Hid (∀ k,k < l.length→(∀ j,j < k→Cx.fits 2 (l[j]?.getD 0)=true)→Cx.fits 2 (l[k]?.getD 0)=false→Cx.encR 2 l=([],(k:Int),11)):=fun k=>Cx.encR_bad 2 l k rfl
 clear hcm
 go_enter Tryz.func97,Tryz.ntmps97
 go_wp2_with (go_at_call 73;refine (coderOf_2 _).mono ?_;rintro e w0 ⟨rfl,rfl⟩)
 go_loopw [9,21] (fun o i wr=>∃ k:Nat,k≤l.length∧i=.int .i64 k∧Hid (∀ j,j < k→Cx.fits 2 (l[j]?.getD 0)=true)∧wr.ownsRow w0.heap.size 5 1 o (Cx.encB 2 (l.take k)).length ((Cx.encB 2 (l.take k)).map (Value.int .u8))∧Below w0.heap.size w0 wr) (fun _ i _=>l.length - (intOf i).toNat)
 case atStart=>exact ⟨0,Nat.zero_le _,rfl,fun j hj=>by omega,World.ownsRow_nil _ _ _ _,Below.refl _ _⟩
 case round =>
  obtain ⟨k,hk,rfl,HJ,hown,hbw⟩:=hrel
  by_cases hlt:k < l.length
  ·obtain ⟨b,off,rfl,hbl,hcl⟩:=hc (List.length_pos_iff.1 (by omega))
   have hcx:wr.cell? ⟨b,off + k,none⟩=some (.int .i64 (l[k]?.getD 0)):=(hbw.cell (p:=⟨b,off + k,none⟩) hbl).trans (hcl k hlt)
   have hel:=Cx.encB_len 2 (l.take k)
   have htk:(l.take k).length=k:=by rw [List.length_take];omega
   have HS:=Cx.encB_succ 2 l k hlt
   have HF':=HF.out k hlt HJ.out
   have hsz:=Cx.size_zero 2 (l[k]?.getD 0)
   cases hf:Cx.fits 2 (l[k]?.getD 0)
   ·rw [hf] at hsz
    have HT:Hid (Cx.encR 2 l=([],(k:Int),11)):=HF' hf
    generalize l[k]?.getD 0=a at *
    clear hc hcl HS HF' HF HA hf
    go_wp2_with fail
    refine (sizeE_2 _ _).mono ?_
    rintro e w1 ⟨rfl,hb1⟩
    have HW1:Hid (Below w0.heap.size w0 w1):=zxt hbw hb1
    clear hb1
    go_wp2_with fail
    go_ret3
    exact ⟨_,by rw [HT.out];rfl,by rw [HT.out];exact World.ownsRow_nil _ _ _ _,HW1.out⟩
   ·rw [hf] at hsz
    have HX:Hid (∀ j,j < k + 1→Cx.fits 2 (l[j]?.getD 0)=true):=fun j hj=>by
     by_cases hjk:j=k
     ·rw [hjk];exact hf
     ·exact HJ.out j (by omega)
    have HFT:Hid (Cx.fits 2 (l[k]?.getD 0)=true):=hf
    have HS':Hid (Cx.encB 2 (l.take (k + 1))=Cx.encB 2 (l.take k) ++ Cx.put 2 (l[k]?.getD 0)):=HS
    generalize l[k]?.getD 0=a at *
    generalize Cx.encB 2 (l.take k)=xs at *
    clear hc hcl HS HF' HF HA hf HJ
    go_wp2_with fail
    refine (sizeE_2 _ _).mono ?_
    rintro e w1 ⟨rfl,hb1⟩
    have hbw1:Below w0.heap.size w0 w1:=zxt hbw hb1
    have hown1:=own_ext hown hb1
    have hs1:w0.heap.size≤w1.heap.size:=hbw1.size
    clear hb1 hown hbw
    go_wp2_with fail
    refine (put2_any 0 (.inl rfl) _ xs w0.heap.size a _ hown1 hs1 (by omega) HFT.out).mono ?_
    rintro e w2 ⟨v2,rfl,hown2,hb2⟩
    go_wp2_with fail
    go_roundw
    case rel=>exact ⟨k + 1,by omega,by go_num,HX.out,by rw [HS'.out];exact hown2,hbw1.trans hb2⟩
    case measure=>simp [intOf];omega
  ·have hke:k=l.length:=by omega
   subst hke
   have HT:Hid (Cx.encR 2 l=(Cx.encB 2 l,0,0)):=HA.out HJ.out
   rw [List.take_length] at hown
   clear hc HF HA HJ
   go_wp2
   go_ret3
   exact ⟨_,by rw [HT.out];rfl,by rw [HT.out];exact hown,hbw⟩
set_option maxHeartbeats 1000000 in
theorem Encode_3 (v:Value) (l:List Int) (w:World) (h:Rd .i64 w v l) (hz:l.length * 8 + 320≤140737488355328) :
  Calls Tryz.prog 97 #[.int .i64 3,v] w fun e w'=>∃ v',e=.returned (.tuple #[v',.int .i64 (Cx.encR 3 l).2.1,.int .i64 (Cx.encR 3 l).2.2])∧w'.ownsRow w.heap.size 5 1 v' (Cx.encR 3 l).1.length ((Cx.encR 3 l).1.map (Value.int .u8))∧Below w.heap.size w w':=by
 have hlen:=h.len
 obtain ⟨ao,cap,rfl,hlc,hcm,hc⟩:=h
 have hms:=m_size2
 have hmp:=m_put2
 have HA:Hid ((∀ j,j < l.length→Cx.fits 3 (l[j]?.getD 0)=true)→Cx.encR 3 l=(Cx.encB 3 l,0,0)):=Cx.encR_all 3 l rfl
 have HF:Hid (∀ k,k < l.length→(∀ j,j < k→Cx.fits 3 (l[j]?.getD 0)=true)→Cx.fits 3 (l[k]?.getD 0)=false→Cx.encR 3 l=([],(k:Int),11)):=fun k=>Cx.encR_bad 3 l k rfl
 clear hcm
 go_enter Tryz.func97,Tryz.ntmps97
 go_wp2_with (go_at_call 73;refine (coderOf_3 _).mono ?_;rintro e w0 ⟨rfl,rfl⟩)
 go_loopw [9,21] (fun o i wr=>∃ k:Nat,k≤l.length∧i=.int .i64 k∧Hid (∀ j,j < k→Cx.fits 3 (l[j]?.getD 0)=true)∧wr.ownsRow w0.heap.size 5 1 o (Cx.encB 3 (l.take k)).length ((Cx.encB 3 (l.take k)).map (Value.int .u8))∧Below w0.heap.size w0 wr) (fun _ i _=>l.length - (intOf i).toNat)
 case atStart=>exact ⟨0,Nat.zero_le _,rfl,fun j hj=>by omega,World.ownsRow_nil _ _ _ _,Below.refl _ _⟩
 case round =>
  obtain ⟨k,hk,rfl,HJ,hown,hbw⟩:=hrel
  by_cases hlt:k < l.length
  ·obtain ⟨b,off,rfl,hbl,hcl⟩:=hc (List.length_pos_iff.1 (by omega))
   have hcx:wr.cell? ⟨b,off + k,none⟩=some (.int .i64 (l[k]?.getD 0)):=(hbw.cell (p:=⟨b,off + k,none⟩) hbl).trans (hcl k hlt)
   have hel:=Cx.encB_len 3 (l.take k)
   have htk:(l.take k).length=k:=by rw [List.length_take];omega
   have HS:=Cx.encB_succ 3 l k hlt
   have HF':=HF.out k hlt HJ.out
   have hsz:=Cx.size_zero 3 (l[k]?.getD 0)
   cases hf:Cx.fits 3 (l[k]?.getD 0)
   ·rw [hf] at hsz
    have HT:Hid (Cx.encR 3 l=([],(k:Int),11)):=HF' hf
    generalize l[k]?.getD 0=a at *
    clear hc hcl HS HF' HF HA hf
    go_wp2_with fail
    refine (sizeE_3 _ _).mono ?_
    rintro e w1 ⟨rfl,hb1⟩
    have HW1:Hid (Below w0.heap.size w0 w1):=zxt hbw hb1
    clear hb1
    go_wp2_with fail
    go_ret3
    exact ⟨_,by rw [HT.out];rfl,by rw [HT.out];exact World.ownsRow_nil _ _ _ _,HW1.out⟩
   ·rw [hf] at hsz
    have HX:Hid (∀ j,j < k + 1→Cx.fits 3 (l[j]?.getD 0)=true):=fun j hj=>by
     by_cases hjk:j=k
     ·rw [hjk];exact hf
     ·exact HJ.out j (by omega)
    have HFT:Hid (Cx.fits 3 (l[k]?.getD 0)=true):=hf
    have HS':Hid (Cx.encB 3 (l.take (k + 1))=Cx.encB 3 (l.take k) ++ Cx.put 3 (l[k]?.getD 0)):=HS
    generalize l[k]?.getD 0=a at *
    generalize Cx.encB 3 (l.take k)=xs at *
    clear hc hcl HS HF' HF HA hf HJ
    go_wp2_with fail
    refine (sizeE_3 _ _).mono ?_
    rintro e w1 ⟨rfl,hb1⟩
    have hbw1:Below w0.heap.size w0 w1:=zxt hbw hb1
    have hown1:=own_ext hown hb1
    have hs1:w0.heap.size≤w1.heap.size:=hbw1.size
    clear hb1 hown hbw
    go_wp2_with fail
    refine (put2_any 1 (.inr rfl) _ xs w0.heap.size a _ hown1 hs1 (by omega) HFT.out).mono ?_
    rintro e w2 ⟨v2,rfl,hown2,hb2⟩
    go_wp2_with fail
    go_roundw
    case rel=>exact ⟨k + 1,by omega,by go_num,HX.out,by rw [HS'.out];exact hown2,hbw1.trans hb2⟩
    case measure=>simp [intOf];omega
  ·have hke:k=l.length:=by omega
   subst hke
   have HT:Hid (Cx.encR 3 l=(Cx.encB 3 l,0,0)):=HA.out HJ.out
   rw [List.take_length] at hown
   clear hc HF HA HJ
   go_wp2
   go_ret3
   exact ⟨_,by rw [HT.out];rfl,by rw [HT.out];exact hown,hbw⟩
set_option maxHeartbeats 1000000 in
theorem Encode_4 (v:Value) (l:List Int) (w:World) (h:Rd .i64 w v l) (hz:l.length * 8 + 320≤140737488355328) :
  Calls Tryz.prog 97 #[.int .i64 4,v] w fun e w'=>∃ v',e=.returned (.tuple #[v',.int .i64 (Cx.encR 4 l).2.1,.int .i64 (Cx.encR 4 l).2.2])∧w'.ownsRow w.heap.size 5 1 v' (Cx.encR 4 l).1.length ((Cx.encR 4 l).1.map (Value.int .u8))∧Below w.heap.size w w':=by
 have hlen:=h.len
 obtain ⟨ao,cap,rfl,hlc,hcm,hc⟩:=h
 have hms:=m_size4
 have hmp:=m_put4
 have HA:Hid ((∀ j,j < l.length→Cx.fits 4 (l[j]?.getD 0)=true)→Cx.encR 4 l=(Cx.encB 4 l,0,0)):=Cx.encR_all 4 l rfl
 have HF:Hid (∀ k,k < l.length→(∀ j,j < k→Cx.fits 4 (l[j]?.getD 0)=true)→Cx.fits 4 (l[k]?.getD 0)=false→Cx.encR 4 l=([],(k:Int),11)):=fun k=>Cx.encR_bad 4 l k rfl
 clear hcm
 go_enter Tryz.func97,Tryz.ntmps97
 go_wp2_with (go_at_call 73;refine (coderOf_4 _).mono ?_;rintro e w0 ⟨rfl,rfl⟩)
 go_loopw [9,21] (fun o i wr=>∃ k:Nat,k≤l.length∧i=.int .i64 k∧Hid (∀ j,j < k→Cx.fits 4 (l[j]?.getD 0)=true)∧wr.ownsRow w0.heap.size 5 1 o (Cx.encB 4 (l.take k)).length ((Cx.encB 4 (l.take k)).map (Value.int .u8))∧Below w0.heap.size w0 wr) (fun _ i _=>l.length - (intOf i).toNat)
 case atStart=>exact ⟨0,Nat.zero_le _,rfl,fun j hj=>by omega,World.ownsRow_nil _ _ _ _,Below.refl _ _⟩
 case round =>
  obtain ⟨k,hk,rfl,HJ,hown,hbw⟩:=hrel
  by_cases hlt:k < l.length
  ·obtain ⟨b,off,rfl,hbl,hcl⟩:=hc (List.length_pos_iff.1 (by omega))
   have hcx:wr.cell? ⟨b,off + k,none⟩=some (.int .i64 (l[k]?.getD 0)):=(hbw.cell (p:=⟨b,off + k,none⟩) hbl).trans (hcl k hlt)
   have hel:=Cx.encB_len 4 (l.take k)
   have htk:(l.take k).length=k:=by rw [List.length_take];omega
   have HS:=Cx.encB_succ 4 l k hlt
   have HF':=HF.out k hlt HJ.out
   have hsz:=Cx.size_zero 4 (l[k]?.getD 0)
   cases hf:Cx.fits 4 (l[k]?.getD 0)
   ·rw [hf] at hsz
    have HT:Hid (Cx.encR 4 l=([],(k:Int),11)):=HF' hf
    generalize l[k]?.getD 0=a at *
    clear hc hcl HS HF' HF HA hf
    go_wp2_with fail
    refine (sizeE_4 _ _).mono ?_
    rintro e w1 ⟨rfl,hb1⟩
    have HW1:Hid (Below w0.heap.size w0 w1):=zxt hbw hb1
    clear hb1
    go_wp2_with fail
    go_ret3
    exact ⟨_,by rw [HT.out];rfl,by rw [HT.out];exact World.ownsRow_nil _ _ _ _,HW1.out⟩
   ·rw [hf] at hsz
    have HX:Hid (∀ j,j < k + 1→Cx.fits 4 (l[j]?.getD 0)=true):=fun j hj=>by
     by_cases hjk:j=k
     ·rw [hjk];exact hf
     ·exact HJ.out j (by omega)
    have HFT:Hid (Cx.fits 4 (l[k]?.getD 0)=true):=hf
    have HS':Hid (Cx.encB 4 (l.take (k + 1))=Cx.encB 4 (l.take k) ++ Cx.put 4 (l[k]?.getD 0)):=HS
    generalize l[k]?.getD 0=a at *
    generalize Cx.encB 4 (l.take k)=xs at *
    clear hc hcl HS HF' HF HA hf HJ
    go_wp2_with fail
    refine (sizeE_4 _ _).mono ?_
    rintro e w1 ⟨rfl,hb1⟩
    have hbw1:Below w0.heap.size w0 w1:=zxt hbw hb1
    have hown1:=own_ext hown hb1
    have hs1:w0.heap.size≤w1.heap.size:=hbw1.size
    clear hb1 hown hbw
    go_wp2_with fail
    refine (put4_any _ xs w0.heap.size a _ hown1 hs1 (by omega) HFT.out).mono ?_
    rintro e w2 ⟨v2,rfl,hown2,hb2⟩
    go_wp2_with fail
    go_roundw
    case rel=>exact ⟨k + 1,by omega,by go_num,HX.out,by rw [HS'.out];exact hown2,hbw1.trans hb2⟩
    case measure=>simp [intOf];omega
  ·have hke:k=l.length:=by omega
   subst hke
   have HT:Hid (Cx.encR 4 l=(Cx.encB 4 l,0,0)):=HA.out HJ.out
   rw [List.take_length] at hown
   clear hc HF HA HJ
   go_wp2
   go_ret3
   exact ⟨_,by rw [HT.out];rfl,by rw [HT.out];exact hown,hbw⟩
end Go.Proofs.YtgfdfajblidleaaGreat
namespace Go.Proofs.YtgfdfajblidleaaGreat
theorem Cx.pre_take (m b:List Int) (h:m.isPrefixOf b=true):b.take m.length=m:=by
 rw [List.isPrefixOf_iff_prefix] at h
 exact (List.prefix_iff_eq_take.1 h).symm
theorem Cx.c0_take (b:List Int) (hn:b≠[]):b.take 1=[Cx.c0 b]:=by
 cases b with
 | nil=>exact absurd rfl hn
 | cons a l=>rfl
theorem Cx.back1 (b:List Int) (hb:Byt b) (hn:b≠[]):Cx.fits 1 (Cx.first8 b).1=true∧Cx.put 1 (Cx.first8 b).1=b.take (Cx.first8 b).2.toNat:=by
 have hbd:=Cx.mtch_bd b
 have h0:=hb.at 0
 change 0≤Cx.c0 b∧Cx.c0 b≤255 at h0
 by_cases hm:0 < Cx.mtch b∧Cx.mtch b≤b.length
 ·have hh:=(Cx.hit_iff b hb (Cx.mtch b).toNat (by omega) (by omega)).2 ⟨by omega,by omega⟩
  rw [Cx.hitB_iff b _ _ rfl] at hh
  obtain ⟨_,hs,hl,hp⟩:=hh
  have e:=Cx.first8_hit b hb (Cx.mtch b).toNat (by omega) (by omega) ((Cx.hit_iff b hb (Cx.mtch b).toNat (by omega) (by omega)).2 ⟨by omega,by omega⟩)
  rw [e]
  simp only [Int.toNat_natCast]
  have ht:=Cx.pre_take _ _ hp
  rw [hl] at ht
  have hs0:=(Cx.sc_iff _).1 hs
  refine ⟨by unfold Cx.fits;rw [if_pos rfl,hs,Bool.true_or],?_⟩
  unfold Cx.put
  rw [if_neg (by omega),if_pos rfl]
  exact ht.symm
 ·have e:Cx.first8 b=(-1 - Cx.c0 b,1):=by unfold Cx.first8;rw [if_neg hm]
  have h128:128≤Cx.c0 b:=by
   rcases Classical.em (128≤Cx.c0 b) with h | h
   ·exact h
   ·exfalso
    have r:Cx.rowN (Cx.c0 b)=1:=by unfold Cx.rowN;rw [if_pos (by omega)]
    have hy:=Cx.mtch_yes b 1 (fun j h1 h2=>by omega) (.inl (by rw [r];decide))
    rw [r] at hy
    have hp:0 < b.length:=List.length_pos_iff.2 hn
    exact hm ⟨by omega,by omega⟩
  rw [e]
  refine ⟨?_,?_⟩
  ·unfold Cx.fits;rw [if_pos rfl];simp;omega
  ·unfold Cx.put
   rw [if_pos (by simp only;omega)]
   show [-1 - (-1 - Cx.c0 b)]=b.take 1
   rw [Cx.c0_take b hn]
   congr 1;omega
theorem Cx.unit_wv (enc:Int) (b:List Int) (hb:Byt b) (h2:2≤b.length) (he:enc=2∨enc=3):Cx.unit enc (Cx.wv (Cx.lowOf enc) b)=b.take 2:=by
 match b,h2 with
 | x :: y :: l,_ =>
   have hx:=hb x (by simp)
   have hy:=hb y (by simp)
   rcases he with rfl | rfl
   ·simp only [Cx.unit,Cx.wv,Cx.lowOf,if_true,List.getElem?_cons_succ,List.getElem?_cons_zero,Option.getD_some,List.take_succ_cons,List.take_zero]
    have e1:(y * 256 + x) % 256=x:=by omega
    have e2:(y * 256 + x) / 256=y:=by omega
    rw [e1,e2]
   ·simp only [Cx.unit,Cx.wv,Cx.lowOf,show ¬ ((3:Int)=2) from by decide,show ¬ ((1:Int)=0) from by decide,if_false,List.getElem?_cons_succ,List.getElem?_cons_zero,Option.getD_some,List.take_succ_cons,List.take_zero]
    have e1:(x * 256 + y) % 256=y:=by omega
    have e2:(x * 256 + y) / 256=x:=by omega
    rw [e1,e2]
theorem Cx.back2 (enc:Int) (b:List Int) (hb:Byt b) (hn:b≠[]) (he:enc=2∨enc=3):Cx.fits enc (Cx.first16 (Cx.lowOf enc) b).1=true∧Cx.put enc (Cx.first16 (Cx.lowOf enc) b).1=b.take (Cx.first16 (Cx.lowOf enc) b).2.toNat:=by
 have h0:=hb.at 0
 change 0≤Cx.c0 b∧Cx.c0 b≤255 at h0
 have hp:0 < b.length:=List.length_pos_iff.2 hn
 have ft:∀ a:Int,-256≤a→a≤1114111→Cx.fits enc a=true:=by
  intro a h1 h2
  unfold Cx.fits
  rw [if_neg (by omega),if_pos he];simp;omega
 unfold Cx.first16
 by_cases h1:b.length=1
 ·rw [if_pos h1]
  refine ⟨ft _ (by simp only;omega) (by simp only;omega),?_⟩
  unfold Cx.put
  rw [if_pos (by simp only;omega)]
  show [-1 - (-1 - Cx.c0 b)]=b.take 1
  rw [Cx.c0_take b hn]
  congr 1;omega
 ·rw [if_neg h1]
  have hu:=Cx.wv_bd (Cx.lowOf enc) b hb
  have hw:=Cx.unit_wv enc b hb (by omega) he
  cases hP:Cx.isP (Cx.lowOf enc) b
  ·rw [if_neg (by simp)]
   refine ⟨ft _ (by simp only;omega) (by simp only;omega),?_⟩
   unfold Cx.put
   rw [if_neg (by simp only;omega),if_neg (by omega),if_neg (by omega),if_neg (by simp only;omega)]
   exact hw
  ·rw [if_pos rfl]
   unfold Cx.isP Cx.hiU Cx.loU at hP
   simp only [Bool.and_eq_true,decide_eq_true_eq] at hP
   obtain ⟨⟨h4,h5,h6⟩,h7,h8⟩:=hP
   have hw2:=Cx.unit_wv enc (b.drop 2) (hb.drop 2) (by rw [List.length_drop];omega) he
   have hpv:Cx.pairV (Cx.lowOf enc) b=65536 + (Cx.wv (Cx.lowOf enc) b - 55296) * 1024 + (Cx.wv (Cx.lowOf enc) (b.drop 2) - 56320):=rfl
   generalize Cx.pairV (Cx.lowOf enc) b=p at *
   refine ⟨ft _ (by simp only;omega) (by simp only;omega),?_⟩
   unfold Cx.put
   rw [if_neg (by simp only;omega),if_neg (by omega),if_neg (by omega),if_pos (by simp only;omega)]
   simp only
   rw [show 55296 + (p - 65536) / 1024=Cx.wv (Cx.lowOf enc) b from by omega,show 56320 + p % 1024=Cx.wv (Cx.lowOf enc) (b.drop 2) from by omega,hw,hw2]
   show b.take 2 ++ (b.drop 2).take 2=b.take (2 + 2)
   rw [List.take_add]
theorem Cx.back (enc:Int) (b:List Int) (hb:Byt b) (hn:b≠[]) (he:enc=1∨enc=2∨enc=3∨enc=4):Cx.fits enc (Cx.fst enc b).1=true∧Cx.put enc (Cx.fst enc b).1=b.take (Cx.fst enc b).2.toNat:=by
 rcases he with rfl | rfl | rfl | rfl
 ·exact Cx.back1 b hb hn
 ·exact Cx.back2 2 b hb hn (.inl rfl)
 ·exact Cx.back2 3 b hb hn (.inr rfl)
 ·have h0:=hb.at 0
  change 0≤Cx.c0 b∧Cx.c0 b≤255 at h0
  refine ⟨?_,?_⟩
  ·show Cx.fits 4 (Cx.c0 b)=true
   unfold Cx.fits;simp;omega
  ·show Cx.put 4 (Cx.c0 b)=b.take 1
   unfold Cx.put;rw [if_neg (by omega),Cx.c0_take b hn];rfl
theorem Cx.back_all (enc:Int) (he:enc=1∨enc=2∨enc=3∨enc=4):∀ (m:Nat) (b:List Int),b.length≤m→Byt b→Cx.encB enc (Cx.dec enc b)=b∧∀ a ∈ Cx.dec enc b,Cx.fits enc a=true:=by
 intro m
 induction m with
 | zero =>
   intro b h _
   have:b=[]:=List.length_eq_zero_iff.1 (by omega)
   subst this
   rw [Cx.dec_nil]
   exact ⟨rfl,by simp⟩
 | succ m ih =>
   intro b h hb
   by_cases hn:b=[]
   ·subst hn
    rw [Cx.dec_nil]
    exact ⟨rfl,by simp⟩
   ·have hbd:=Cx.fst_bd enc b hn
    obtain ⟨hf,hp⟩:=Cx.back enc b hb hn he
    have e:Cx.fst enc b=((Cx.fst enc b).1,((Cx.fst enc b).2.toNat:Int)):=Prod.ext rfl (by simp only;omega)
    rw [Cx.dec_cons enc b hn _ _ e]
    obtain ⟨i1,i2⟩:=ih (b.drop (Cx.fst enc b).2.toNat) (by rw [List.length_drop];omega) (hb.drop _)
    refine ⟨?_,?_⟩
    ·unfold Cx.encB at i1 ⊢
     rw [List.flatMap_cons,i1,hp,List.take_append_drop]
    ·intro a ha
     rcases List.mem_cons.1 ha with rfl | ha
     ·exact hf
     ·exact i2 a ha
open Go.RowKit
def Cx.tl (zs:List Int) (s:Nat):List Int:=zs.drop (zs.length - s)
def Cx.lh (zs:List Int) (s:Nat):Bool:=decide (s≤zs.length) && decide (Cx.mtch (Cx.tl zs s)=s)
def Cx.lb (zs:List Int):Int:=zs[zs.length - 1]?.getD 0
def Cx.lst8 (zs:List Int):Int × Int :=
 if Cx.lh zs 1=true then (Cx.val (Cx.tl zs 1),1) else if Cx.lh zs 2=true then (Cx.val (Cx.tl zs 2),2)
 else if Cx.lh zs 3=true then (Cx.val (Cx.tl zs 3),3) else if Cx.lh zs 4=true then (Cx.val (Cx.tl zs 4),4) else (-1 - Cx.lb zs,1)
theorem Cx.lst8_hit (zs:List Int) (k:Nat) (h1:1≤k) (h4:k≤4) (hh:Cx.lh zs k=true) (hn:∀ j,1≤j→j < k→Cx.lh zs j=false):Cx.lst8 zs=(Cx.val (Cx.tl zs k),(k:Int)):=by
 have e:k=1∨k=2∨k=3∨k=4:=by omega
 unfold Cx.lst8
 rcases e with rfl | rfl | rfl | rfl
 ·rw [if_pos hh];rfl
 ·rw [if_neg (by rw [hn 1 (by omega) (by omega)];simp),if_pos hh];rfl
 ·rw [if_neg (by rw [hn 1 (by omega) (by omega)];simp),if_neg (by rw [hn 2 (by omega) (by omega)];simp),if_pos hh];rfl
 ·rw [if_neg (by rw [hn 1 (by omega) (by omega)];simp),if_neg (by rw [hn 2 (by omega) (by omega)];simp),if_neg (by rw [hn 3 (by omega) (by omega)];simp),if_pos hh];rfl
theorem Cx.lst8_none (zs:List Int) (hn:∀ j,1≤j→j≤4→Cx.lh zs j=false):Cx.lst8 zs=(-1 - Cx.lb zs,1):=by
 unfold Cx.lst8
 rw [if_neg (by rw [hn 1 (by omega) (by omega)];simp),if_neg (by rw [hn 2 (by omega) (by omega)];simp),if_neg (by rw [hn 3 (by omega) (by omega)];simp),if_neg (by rw [hn 4 (by omega) (by omega)];simp)]
theorem Cx.lh_long (zs:List Int) (j:Nat) (h:zs.length < j):Cx.lh zs j=false:=by unfold Cx.lh;rw [decide_eq_false (by omega)];rfl
theorem Cx.tl_len (zs:List Int) (s:Nat) (h:s≤zs.length):(Cx.tl zs s).length=s:=by unfold Cx.tl;rw [List.length_drop];omega
set_option maxHeartbeats 1000000 in
theorem last8_any (v:Value) (zs:List Int) (w:World) (h:Rd .u8 w v zs) (hb:Byt zs) (hn:zs≠[]) :
  Calls Tryz.prog 132 #[.agg #[],v] w fun e w'=>e=.returned (.tuple #[.int .i64 (Cx.lst8 zs).1,.int .i64 (Cx.lst8 zs).2])∧Below w.heap.size w w':=by
 have HR:Hid (Rd .u8 w v zs):=h
 have HB:Hid (Byt zs):=hb
 have hlen:=h.len
 have hbl':=hb.at (zs.length - 1)
 change 0≤Cx.lb zs∧Cx.lb zs≤255 at hbl'
 obtain ⟨ao,cap,rfl,hl,hm,hc⟩:=h
 obtain ⟨b,off,rfl,hbl,hc⟩:=hc hn
 have hpos:0 < zs.length:=List.length_pos_iff.2 hn
 have hlast:=hc (zs.length - 1) (by omega)
 change w.cell? ⟨b,off + (zs.length - 1),none⟩=some (.int .u8 (Cx.lb zs)) at hlast
 have HH:Hid (∀ k:Nat,1≤k→k≤4→Cx.lh zs k=true→(∀ j,1≤j→j < k→Cx.lh zs j=false)→Cx.lst8 zs=(Cx.val (Cx.tl zs k),(k:Int))):=Cx.lst8_hit zs
 have HN:Hid ((∀ j,1≤j→j≤4→Cx.lh zs j=false)→Cx.lst8 zs=(-1 - Cx.lb zs,1)):=Cx.lst8_none zs
 clear hn hc hm hb
 go_enter Tryz.func132,Tryz.ntmps132
 go_wp2_with fail
 go_loopw [6] (fun i wr=>∃ k:Nat,1≤k∧k≤5∧i=.int .i64 k∧Hid (∀ j,1≤j→j < k→Cx.lh zs j=false)∧Below w.heap.size w wr) (fun i _=>5 - (intOf i).toNat)
 case atStart=>exact ⟨1,Nat.le_refl _,by omega,rfl,fun j h1 h2=>by omega,(Below.refl _ _).alloc (Nat.le_refl _) _⟩
 case round =>
  obtain ⟨k,hk1,hk2,rfl,HJ,hbw⟩:=hrel
  have HBW:Hid (Below w.heap.size w wr):=hbw
  by_cases hin:k≤4∧k≤zs.length
  ·obtain ⟨hin1,hin2⟩:=hin
   have HT:Hid (Rd .u8 w (.slice (some ⟨b,off + (zs.length - k),none⟩) k (cap - (zs.length - k))) (Cx.tl zs k)):=by
    have:=HR.out.cut (n:=zs.length - k) (by omega)
    rwa [show zs.length - (zs.length - k)=k from by omega] at this
   have HTB:Hid (Byt (Cx.tl zs k)):=HB.out.drop _
   have HTN:Hid (Cx.tl zs k≠[]):=List.length_pos_iff.1 (by rw [Cx.tl_len zs k hin2];omega)
   have HK:Hid (Cx.lh zs k=false→∀ j,1≤j→j < k + 1→Cx.lh zs j=false):=fun hh j h1 h2=>by
    by_cases hj:j=k
    ·rw [hj];exact hh
    ·exact HJ.out j h1 (by omega)
   have HE:Hid (Cx.lh zs k=decide (Cx.mtch (Cx.tl zs k)=k)):=by unfold Hid Cx.lh;rw [decide_eq_true hin2,Bool.true_and]
   have HF:Hid (Cx.lh zs k=true→Cx.lst8 zs=(Cx.val (Cx.tl zs k),(k:Int))):=fun hh=>HH.out k hk1 hin1 hh HJ.out
   have hcne:¬ cap=zs.length - k:=by omega
   have hlk:zs.length - (zs.length - k)=k:=by omega
   have HWH:Hid (Cx.mtch (Cx.tl zs k)=k→Cx.Whole (Cx.tl zs k)):=fun hm=>by
    have:=Cx.whole_of (Cx.tl zs k) HTB.out (by omega) (by rw [Cx.tl_len zs k hin2];omega)
    rwa [hm,Int.toNat_natCast,List.take_of_length_le (by rw [Cx.tl_len zs k hin2];exact Nat.le_refl _)] at this
   clear HH HN HJ hbw hlast
   go_wp2_with fail
   refine (match_any _ (Cx.tl zs k) _ (HT.out.ext HBW.out) HTB.out HTN.out).mono ?_
   rintro e w1 ⟨rfl,hw1⟩
   subst hw1
   by_cases hm:Cx.mtch (Cx.tl zs k)=k
   ·have hq:(Cx.mtch (Cx.tl zs k) == (k:Int))=true:=by rw [hm];simp
    have HL:Hid (Cx.lst8 zs=(Cx.val (Cx.tl zs k),(k:Int))):=HF.out (by rw [HE.out,decide_eq_true hm])
    have HW:Hid (Cx.Whole (Cx.tl zs k)):=HWH.out hm
    clear HK HF HE HWH hm
    go_wp2_with fail
    refine (scalar_any _ _ _ (HT.out.ext HBW.out) HW.out).mono ?_
    rintro e w2 ⟨rfl,hb2⟩
    go_wp2
    go_ret2
    exact ⟨by rw [HL.out];rfl,zxt HBW.out hb2⟩
   ·have hq:(Cx.mtch (Cx.tl zs k) == (k:Int))=false:=by rw [beq_eq_false_iff_ne];exact hm
    have HX:Hid (∀ j,1≤j→j < k + 1→Cx.lh zs j=false):=HK.out (by rw [HE.out,decide_eq_false hm])
    clear HK HF HE HWH hm
    go_wp2_with fail
    go_roundw
    case rel=>exact ⟨k + 1,by omega,by omega,by go_num,HX.out,HBW.out⟩
    case measure=>simp [intOf];omega
  ·have HL:Hid (Cx.lst8 zs=(-1 - Cx.lb zs,1)):=HN.out fun j h1 h4=>by
    by_cases hj:j < k
    ·exact HJ.out j h1 hj
    ·exact Cx.lh_long zs j (by omega)
   have hcx:wr.cell? ⟨b,off + (zs.length - 1),none⟩=some (.int .u8 (Cx.lb zs)):=(hbw.cell (p:=⟨b,off + (zs.length - 1),none⟩) hbl).trans hlast
   clear HH HN HJ hbw hlast
   by_cases hin1:k≤4
   ·have hin2:zs.length < k:=by omega
    clear hin
    go_wp2_with fail
    refine (rawAtom_any _ _ hbl'.1 hbl'.2).mono ?_
    rintro e w1 ⟨rfl,hw1⟩
    subst hw1
    go_wp2
    go_ret2
    exact ⟨by rw [HL.out];rfl,HBW.out⟩
   ·clear hin
    go_wp2_with fail
    refine (rawAtom_any _ _ hbl'.1 hbl'.2).mono ?_
    rintro e w1 ⟨rfl,hw1⟩
    subst hw1
    go_wp2
    go_ret2
    exact ⟨by rw [HL.out];rfl,HBW.out⟩
theorem last4_any (v:Value) (zs:List Int) (w:World) (h:Rd .u8 w v zs) (hb:Byt zs) (hn:zs≠[]) :
  Calls Tryz.prog 159 #[.agg #[],v] w fun e w'=>e=.returned (.tuple #[.int .i64 (Cx.lb zs),.int .i64 1])∧Below w.heap.size w w':=by
 have hlen:=h.len
 have hbl':=hb.at (zs.length - 1)
 change 0≤Cx.lb zs∧Cx.lb zs≤255 at hbl'
 obtain ⟨ao,cap,rfl,hl,hm,hc⟩:=h
 obtain ⟨b,off,rfl,hbl,hc⟩:=hc hn
 have hpos:0 < zs.length:=List.length_pos_iff.2 hn
 have hlast:=hc (zs.length - 1) (by omega)
 change w.cell? ⟨b,off + (zs.length - 1),none⟩=some (.int .u8 (Cx.lb zs)) at hlast
 have hlast':∀ o:Obj,(w.alloc o).cell? ⟨b,off + (zs.length - 1),none⟩=some (.int .u8 (Cx.lb zs)):=fun o=>((Below.refl w.heap.size w).alloc (Nat.le_refl _) o |>.cell (p:=⟨b,off + (zs.length - 1),none⟩) hbl).trans hlast
 clear hn hc hm hb hlast
 go_enter Tryz.func159,Tryz.ntmps159
 go_wp2
 go_ret2
 exact ⟨rfl,(Below.refl _ _).alloc (Nat.le_refl _) _⟩
end Go.Proofs.YtgfdfajblidleaaGreat
