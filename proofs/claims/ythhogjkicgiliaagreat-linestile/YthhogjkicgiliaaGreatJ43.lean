import Derived.Test.YthhogjkicgiliaaGreatJ00
import Derived.Test.YthhogjkicgiliaaGreatJ37
import Derived.Test.YthhogjkicgiliaaGreatJ42
import Derived.Test.YthhogjkicgiliaaGreatJ40
import Derived.Deep.CutRange
import Derived.BigQuiet
namespace Go.Proofs.YthhogjkicgiliaaGreat.P
open Go.RowKit
set_option maxRecDepth 100000 in
theorem same_yes (v1 v2:Value) (zs:List Int) (w:World) (h1:Rd .i64 w v1 zs) (h2:Rd .i64 w v2 zs) :
  Calls Tryz.prog 14 #[v1,v2] w fun e w'=>e=.returned (.bool true)∧Below w.heap.size w w':=by
 have hlen:=h1.len
 obtain ⟨ao,cap,rfl,hl1,hc1,h1⟩:=h1
 obtain ⟨ao2,cap2,rfl,hl2,hc2,h2⟩:=h2
 by_cases hn:zs=[]
 ·subst hn
  clear h1 h2
  simp only [List.length_nil]
  go_enter Tryz.func14,Tryz.ntmps14
  go_wp2
  refine wp_loop_rounds 1 ?_
  rw [rounds_succ]
  go_wp2
  go_ret
  exact ⟨rfl,Below.refl _ _⟩
 ·obtain ⟨b,off,rfl,hb,hcl⟩:=h1 hn
  obtain ⟨b2,off2,rfl,hb2,hcl2⟩:=h2 hn
  have hq:((zs.length:Int) != (zs.length:Int))=false:=by simp
  clear h1 h2 hn
  go_enter Tryz.func14,Tryz.ntmps14
  go_wp2
  go_loopw [5] (fun i wr=>∃ k:Nat,k≤zs.length∧i=.int .i64 k∧Below w.heap.size w wr) (fun i _=>zs.length - (intOf i).toNat)
  case atStart=>exact ⟨0,Nat.zero_le _,rfl,Below.refl _ _⟩
  case round =>
   obtain ⟨k,hk,rfl,hbw⟩:=hrel
   by_cases hlt:k < zs.length
   ·have c1:wr.cell? ⟨b,off + k,none⟩=some (.int .i64 (zs[k]?.getD 0)):=(hbw.cell (p:=⟨b,off + k,none⟩) hb).trans (hcl _ hlt)
    have c2:wr.cell? ⟨b2,off2 + k,none⟩=some (.int .i64 (zs[k]?.getD 0)):=(hbw.cell (p:=⟨b2,off2 + k,none⟩) hb2).trans (hcl2 _ hlt)
    have hi1:(k:Int) < (zs.length:Int):=by omega
    generalize zs[k]?.getD 0=x at *
    clear hcl hcl2
    go_wp2
    go_quiet (fail)
    go_wp2
    go_roundw
    case rel=>exact ⟨k + 1,by omega,by go_num,below_drewN hbw _⟩
    case measure=>simp [intOf];omega
   ·clear hcl hcl2
    go_wp2
    go_ret
    exact ⟨rfl,hbw⟩
theorem rdi_lit2 (w:World) (y z:Int):Rd .i64 (w.alloc (.cells #[.int .i64 y,.int .i64 z] 3)) (.slice (some ⟨w.heap.size,0,none⟩) 2 2) [y,z]:=by
 refine ⟨some ⟨w.heap.size,0,none⟩,2,rfl,by simp,by decide,fun _=>⟨w.heap.size,0,rfl,by simp,fun i hi=>?_⟩⟩
 rw [cell_of_row _ _ _ _ _ _ (heap_alloc_new _ _)]
 have:i=0∨i=1:=by simp at hi;omega
 rcases this with rfl | rfl <;> rfl
set_option maxRecDepth 100000 in
theorem spelled_any (b:Int) (w:World):Calls Tryz.prog 49 #[.int .i64 b] w fun e w'=>∃ v,e=.returned v∧Rd .i64 w' v (spk b)∧Below w.heap.size w w':=by
 by_cases h1:b=1
 ·subst h1
  go_enter Tryz.func49,Tryz.ntmps49
  go_wp2
  go_ret
  exact ⟨_,rfl,rdi_lit1 _ _,ext_alloc (Below.refl _ _) _⟩
 by_cases h2:b=2
 ·subst h2
  go_enter Tryz.func49,Tryz.ntmps49
  go_wp2
  go_ret
  exact ⟨_,rfl,rdi_lit2 _ _ _,ext_alloc (Below.refl _ _) _⟩
 by_cases h3:b=3
 ·subst h3
  go_enter Tryz.func49,Tryz.ntmps49
  go_wp2
  go_ret
  exact ⟨_,rfl,rdi_lit1 _ _,ext_alloc (Below.refl _ _) _⟩
 have HE:Hid (spk b=[]):=by unfold Hid spk;rw [if_neg h1,if_neg h2,if_neg h3]
 have g1:(b == 1)=false:=by simpa using h1
 have g2:(b == 2)=false:=by simpa using h2
 have g3:(b == 3)=false:=by simpa using h3
 clear h1 h2 h3
 go_enter Tryz.func49,Tryz.ntmps49
 go_wp2
 go_ret
 exact ⟨_,rfl,by rw [HE.out];exact ⟨none,0,rfl,Nat.le_refl _,by decide,fun h=>absurd rfl h⟩,Below.refl _ _⟩
theorem cnt_rng (enc:Int) (A:List Int):1≤cnt enc A∧cnt enc A≤A.length + 1:=by
 have h1:=spn_nn enc A
 have h2:=spn_len enc A
 rw [cnt_tail]
 split <;> omega
def Seen (w:World) (bs:Nat) (enc:Int) (A:List Int) (i:Nat):Prop:=w.heap[bs]?=some (.cells #[.int .i64 (kC (alF enc A i) 0:Nat),.int .i64 (kC (alF enc A i) 1:Nat),.int .i64 (kC (alF enc A i) 2:Nat),.int .i64 (kC (alF enc A i) 3:Nat)] 53 (0,0))
theorem Tile.kC {enc:Int} {A:List Int} {i f t n:Nat} {b:Int} (h:Tile enc A i f t n b) (hi:(i:Int) < cnt enc A) (x:Int):kC (alF enc A (i + 1)) x=kC (alF enc A i) x + if b=x then 1 else 0:=by
 have hc:=cnt_tail enc A
 have e:lnK enc A i=⟨(f:Nat),(t:Nat),(n:Nat),b⟩:=by
  rw [← (lnA_inT (enc:=enc) (A:=A) (i:=i) (by rw [hc] at hi;split at hi <;> omega)).1]
  exact h.at_
 rw [alF_succ,kC_snoc,e]
theorem if_some9 {b x y:Nat} {p:Prop} [Decidable p]:∃ z,(if p then some (⟨b,x,none⟩:Addr) else some ⟨b,y,none⟩)=some ⟨b,z,none⟩:=by
 split
 ·exact ⟨_,rfl⟩
 ·exact ⟨_,rfl⟩
theorem Seen.step {z:World} {bs:Nat} {enc:Int} {A:List Int} {i f t n:Nat} {b:Int} (h:Seen z bs enc A i) (hT:Tile enc A i f t n b) (hi:(i:Int) < cnt enc A) (j:Nat) (hj:b=(j:Nat)) (hj4:j < 4) :
  Seen (z.setCell ⟨bs,j,none⟩ (.int .i64 ((kC (alF enc A i) j:Nat) + 1))) bs enc A (i + 1)∧z.grownBy (z.setCell ⟨bs,j,none⟩ (.int .i64 ((kC (alF enc A i) j:Nat) + 1))) (some bs):=by
 obtain ⟨p1,p2⟩:=set1 h j (.int .i64 ((kC (alF enc A i) j:Nat) + 1))
 refine ⟨?_,p2⟩
 have e:=hT.kC hi
 unfold Seen
 rw [e 0,e 1,e 2,e 3,hj,p1]
 have:j=0∨j=1∨j=2∨j=3:=by omega
 rcases this with rfl | rfl | rfl | rfl <;> simp
theorem kCF_le (enc:Int) (A:List Int) (i:Nat) (x:Int):kC (alF enc A i) x≤i:=by
 have:=kC_le (alF enc A i) x
 unfold alF at this ⊢
 simpa using this
set_option maxRecDepth 100000 in
set_option maxHeartbeats 16000000 in
theorem tiles_any {enc:Int} (w:World) (tx:Nat) (A:List Int) (va:Value) (hT:Tz enc w tx A) (hA:OwnI w 0 va A) :
  Calls Tryz.prog 28 #[.pointer (some ⟨tx,0,none⟩),va] w fun e w'=>e=.returned (.bool true)∧Below w.heap.size w w':=by
 have hl:=hT.len
 obtain ⟨aa,ca,rfl⟩:=hA.form
 have HT:=hidIt hT
 have HA:=hidIt hA
 have CN:=hidIt (Count_z enc w tx A hT)
 obtain ⟨hc1,hc2⟩:=cnt_rng enc A
 obtain ⟨m,hm⟩:∃ m:Nat,cnt enc A=m:=⟨(cnt enc A).toNat,by omega⟩
 have HCM:=hidIt hm
 rw [hm] at CN hc1 hc2
 have h1:¬ (m:Int) < 1:=by omega
 have h2:¬ ((A.length:Int) + 1 < (m:Int)):=by omega
 clear hT hA hm
 go_enter Tryz.func28,Tryz.ntmps28
 go_upto_region 2 with (go_at_call 9;refine CN.out.mono ?_;rintro e w1 ⟨rfl,hb⟩;have HB1:=hidIt hb;clear hb;(try dsimp only))
 clear CN
 go_upto_region 6 with fail
 generalize hw2:World.alloc _ _=w2
 have HW2:Hid (Below w1.heap.size w1 w2∧Seen w2 w1.heap.size enc A 0):=by unfold Hid;rw [← hw2];exact ⟨ext_alloc (Below.refl _ _) _,heap_alloc_new _ _⟩
 clear hw2 h1 h2
 generalize hbs:w1.heap.size=bs at HW2 ⊢
 have HBS:=hidIt hbs
 clear hbs
 go_wp2_with fail
 go_loopw [6,8] (fun av iv wr=>∃ i:Nat,i≤m∧iv=.int .i64 (i:Nat)∧av=.int .i64 (atK enc A i:Nat)∧Hid (Seen wr bs enc A i)∧Hid (Below w1.heap.size w1 wr)) (fun _ iv _=>m - (intOf iv).toNat)
 case atStart=>exact ⟨0,Nat.zero_le _,rfl,by rw [atK_zero];rfl,HW2.out.2,by unfold Hid;rw [HBS.out];exact HW2.out.1⟩
 case round =>
  clear HW2
  obtain ⟨i,hi,rfl,rfl,HSN,HBR⟩:=hrel
  obtain ⟨wo,rfl⟩:∃ wo,wo=wr:=⟨_,rfl⟩
  have HBWR:Hid (Below w.heap.size w wo):=ext_trans HB1.out HBR.out
  by_cases hlt:i < m
  ·have hltI:(i:Int) < (m:Int):=by omega
   obtain ⟨f,t,n,b,TL⟩:=tile_any (enc:=enc) (A:=A) (i:=i) (by rw [HCM.out];omega)
   have HTL:=hidIt TL
   have AZ:=hidIt (At_z enc wo tx A i (HT.out.ext HBWR.out))
   rw [TL.at_,TL.er] at AZ
   dsimp only at AZ
   rw [← TL.f0]
   have hft:=TL.ft
   have htn:=TL.tn
   have hnl:=TL.nl
   have hb0:=TL.b0
   have hb3:=TL.b3
   clear TL
   go_upto_region 10 with (go_at_call 17;refine AZ.out.mono ?_;rintro e y ⟨rfl,hb⟩;have HBY:=hidIt hb;clear hb;(try dsimp only))
   clear AZ
   generalize hy2:World.alloc _ _=y2
   have HY2:Hid (Below wo.heap.size wo y2∧y2.heap[y.heap.size]?=some (.cells #[.int .i64 (f:Nat),.int .i64 (t:Nat),.int .i64 (n:Nat),.int .i64 b] 50 (0,0))):=by unfold Hid;rw [← hy2];exact ⟨ext_alloc HBY.out _,heap_alloc_new _ _⟩
   have hgw:wo.heap.size≤y.heap.size:=HBY.out.size
   clear hy2 HBY
   generalize y.heap.size=gl at HY2 hgw ⊢
   have HGW:=hidIt hgw
   clear hgw
   obtain ⟨_,l0,l1,l2,l3,lf⟩:=cells4 HY2.out.2
   have q1:¬ ((t:Nat):Int) < ((f:Nat):Int):=by omega
   have q2:¬ ((n:Nat):Int) < ((t:Nat):Int):=by omega
   have q3:¬ (A.length:Int) < ((n:Nat):Int):=by omega
   have q4:¬ b < 0:=by omega
   have q5:¬ 3 < b:=by omega
   have q6:(((f:Nat):Int) != ((f:Nat):Int))=false:=by simp
   go_upto_region 12 with fail
   clear q1 q2 q3 q4 q5 q6
   have HBWY:Hid (Below w.heap.size w y2):=ext_trans HBWR.out HY2.out.1
   go_wp2_with fail
   go_loopw [11] (fun kv wk=>∃ k:Nat,f≤k∧k≤t∧kv=.int .i64 (k:Nat)∧wk=y2) (fun kv _=>t - (intOf kv).toNat)
   case atStart=>exact ⟨f,Nat.le_refl _,hft,rfl,rfl⟩
   case round =>
    obtain ⟨k,hfk,hkt,rfl,hwk⟩:=hrel
    obtain rfl:y2=wr:=hwk.symm
    by_cases hk:k < t
    ·have hkI:(k:Int) < ((t:Nat):Int):=by omega
     obtain ⟨ab,ao,rfl,_,ck,_⟩:=rd_at (HA.out.ext HBWY.out).rdi k (by omega)
     have hkl:(k:Int) < (A.length:Int):=by omega
     obtain ⟨n1,n2⟩:=HTL.out.no k hfk hk
     obtain ⟨x,hx⟩:∃ x,A[k]?=some x:=⟨_,List.getElem?_eq_getElem (by omega)⟩
     rw [hx] at n1 n2 ck
     rw [Option.getD_some] at ck
     have x1:(x == 10)=false:=by simpa using n1
     have x2:(x == 13)=false:=by simpa using n2
     clear n1 n2 hx
     go_wp2_with fail
     go_roundw
     case rel=>exact ⟨k + 1,by omega,by omega,by go_num,trivial⟩
     case measure=>simp [intOf];omega
    ·obtain rfl:t=k:=by omega
     have hkI:¬ ((t:Nat):Int) < ((t:Nat):Int):=by omega
     have HS:Hid (∀ y,Below y2.heap.size y2 y→y.cell? ⟨gl,1,none⟩=some (.int .i64 (t:Nat))∧y.cell? ⟨gl,2,none⟩=some (.int .i64 (n:Nat))∧y.cell? ⟨gl,3,none⟩=some (.int .i64 b)):=fun y hy=>by
      obtain ⟨_,_,g1,g2,g3,_⟩:=cells4 ((hy.block _ (Array.getElem?_eq_some_iff.1 HY2.out.2).1).trans HY2.out.2)
      exact ⟨g1,g2,g3⟩
     go_upto_region 17 with fail
     go_cut [116] from 95 to 116 (fun tv wF=>tv=.bool false∧Hid (Below y2.heap.size y2 wF))
     case first =>
      clear l0 l1 l2 l3 lf
      rcases HA.out.2 with ⟨hv,hz⟩ | ⟨g,cap,cur,hv,_,_,hcap1,hcap2,_,_⟩
      ·obtain rfl:A=[]:=List.length_eq_zero_iff.1 hz
       injection hv with e1 _ e3
       subst e1
       subst e3
       obtain rfl:n=0:=by simp at hnl;exact hnl
       obtain rfl:t=0:=by omega
       have hsp:spk b=[]:=by have:=HTL.out.sp;simpa using this.symm
       have HRN:Hid (Rd .i64 y2 (.slice none 0 0) (spk b)):=by unfold Hid;rw [hsp];exact ⟨none,0,rfl,Nat.le_refl _,by decide,fun h=>absurd rfl h⟩
       obtain rfl:b=0:=by
        unfold spk at hsp
        split at hsp
        ·cases hsp
        ·split at hsp
         ·cases hsp
         ·split at hsp
          ·cases hsp
          ·omega
       have hla:=(HTL.out.la rfl).1
       rw [HCM.out] at hla
       have w9:IntKind.i64.wrap ((i:Int) + 1)=(i:Int) + 1:=by rw [IntKind.wrap_i64];omega
       have g9:¬ ((i:Int) + 1 < (m:Int)):=by omega
       clear hsp hla hz
       refine wp_region_held_drew (S:=fun w'=>w'.cell? ⟨gl,1,none⟩=some (.int .i64 ((0:Nat):Int))∧w'.cell? ⟨gl,2,none⟩=some (.int .i64 ((0:Nat):Int))∧w'.cell? ⟨gl,3,none⟩=some (.int .i64 0)) (by kernel_rfl) (by first | exact HS.out _ (Below.refl _ _) | exact HS.out _ (Below.refl _ _).drew) (fun hHeld=>?_)
       refine tkH (v:=?_) 0 rfl ?_ ?_;rotate_left 1
       ·intro wq hSw;(try dsimp only at hSw);go_simp;try (with_reducible rfl)
       try simp only [Act.put,sA1,sA3,sA4,sA5,sA6]
       refine tkH (v:=?_) 1 rfl ?_ ?_;rotate_left 1
       ·intro wq hSw;(try dsimp only at hSw);go_simp;try (with_reducible rfl)
       try simp only [Act.put,sA1,sA2,sA3,sA4,sA5,sA6]
       refine tkH (v:=?_) 2 rfl ?_ ?_;rotate_left 1
       ·intro wq hSw;(try dsimp only at hSw);go_simp;try (with_reducible rfl)
       try simp only [Act.put,sA1,sA2,sA3,sA4,sA5,sA6]
       refine tkH (v:=?_) 3 rfl ?_ ?_;rotate_left 1
       ·intro wq hSw;(try dsimp only at hSw);go_simp;try (with_reducible rfl)
       try simp only [Act.put,sA1,sA2,sA3,sA4,sA5,sA6]
       refine tkH (v:=?_) 4 rfl ?_ ?_;rotate_left 1
       ·intro wq hSw;(try dsimp only at hSw);go_simp;try (with_reducible rfl)
       try simp only [Act.put,sA1,sA2,sA3,sA4,sA5,sA6]
       refine tkH (v:=?_) 5 rfl ?_ ?_;rotate_left 1
       ·intro wq hSw;(try dsimp only at hSw);go_simp;try (with_reducible rfl)
       try simp only [Act.put,sA1,sA2,sA3,sA4,sA5,sA6]
       refine tkH (v:=?_) 6 rfl ?_ ?_;rotate_left 1
       ·intro wq hSw;(try dsimp only at hSw);go_simp;try (with_reducible rfl)
       try simp only [Act.put,sA1,sA2,sA3,sA4,sA5,sA6]
       refine tkH (v:=?_) 7 rfl ?_ ?_;rotate_left 1
       ·intro wq hSw;(try dsimp only at hSw);go_simp;try (with_reducible rfl)
       try simp only [Act.put,sA1,sA2,sA3,sA4,sA5,sA6]
       refine wpAnyH_ready (rs:=[8]) (by kernel_rfl) (by simp) ?_
       refine AllReadyH.cons (o:=_) rfl (fun K hK=>?_) AllReadyH.nil
       go_simp
       (first | refine (spelled_any 0 _).mono ?_);rintro e z1 ⟨v1,rfl,hr1,hb1⟩;obtain ⟨a1,c1,rfl,_⟩:=id hr1;have HR1:=hidIt hr1;have HB1:Hid (Below y2.heap.size y2 z1):=(by first | exact ext_trans (Below.refl _ _) hb1 | exact ext_trans (Below.refl _ _).drew hb1);clear hr1 hb1;(try dsimp only)
       refine hK.out _ _ ?_ (fun hHeld=>?_)
       ·exact HS.out _ HB1.out
       clear hK K
       try simp only [Act.put,sA1,sA2,sA3,sA4,sA5,sA6]
       refine wpAnyH_ready (rs:=[9]) (by kernel_rfl) (by simp) ?_
       refine AllReadyH.cons (o:=_) rfl (fun K hK=>?_) AllReadyH.nil
       go_simp
       (first | refine (same_yes _ _ (spk 0) _ ((HRN.out).ext (ext_trans HB1.out (Below.refl _ _))) (HR1.out.ext (Below.refl _ _))).mono ?_ | refine (same_yes _ _ (spk 0) _ ((HRN.out).ext (ext_trans HB1.out (Below.refl _ _).drew)) (HR1.out.ext (Below.refl _ _).drew)).mono ?_);rintro e z2 ⟨rfl,hb2⟩;have HB2:Hid (Below y2.heap.size y2 z2):=(by first | exact ext_trans (ext_trans HB1.out (Below.refl _ _)) hb2 | exact ext_trans (ext_trans HB1.out (Below.refl _ _).drew) hb2);clear hb2 HR1;(try dsimp only)
       refine hK.out _ _ ?_ (fun hHeld=>?_)
       ·exact HS.out _ HB2.out
       clear hK K
       try simp only [Act.put,sA1,sA2,sA3,sA4,sA5,sA6]
       refine tkH (v:=?_) 10 rfl ?_ ?_;rotate_left 1
       ·intro wq hSw;(try dsimp only at hSw);go_simp;try (with_reducible rfl)
       try simp only [Act.put,sA1,sA2,sA3,sA4,sA5,sA6]
       refine tkH (v:=?_) 11 rfl ?_ ?_;rotate_left 1
       ·intro wq hSw;(try dsimp only at hSw);go_simp;try (with_reducible rfl)
       try simp only [Act.put,sA1,sA2,sA3,sA4,sA5,sA6]
       refine tkH (v:=?_) 12 rfl ?_ ?_;rotate_left 1
       ·intro wq hSw;(try dsimp only at hSw);go_simp;try (with_reducible rfl)
       try simp only [Act.put,sA1,sA2,sA3,sA4,sA5,sA6]
       refine tkH (v:=?_) 13 rfl ?_ ?_;rotate_left 1
       ·intro wq hSw;(try dsimp only at hSw);go_simp;try (with_reducible rfl)
       try simp only [Act.put,sA1,sA2,sA3,sA4,sA5,sA6]
       refine tkH (v:=?_) 14 rfl ?_ ?_;rotate_left 1
       ·intro wq hSw;(try dsimp only at hSw);go_simp;try (with_reducible rfl)
       try simp only [Act.put,sA1,sA2,sA3,sA4,sA5,sA6]
       refine tkH (v:=?_) 15 rfl ?_ ?_;rotate_left 1
       ·intro wq hSw;(try dsimp only at hSw);go_simp;try (with_reducible rfl)
       try simp only [Act.put,sA1,sA2,sA3,sA4,sA5,sA6]
       refine tkH (v:=?_) 16 rfl ?_ ?_;rotate_left 1
       ·intro wq hSw;(try dsimp only at hSw);go_simp;try (with_reducible rfl)
       try simp only [Act.put,sA1,sA2,sA3,sA4,sA5,sA6]
       refine tkH (v:=?_) 17 rfl ?_ ?_;rotate_left 1
       ·intro wq hSw;(try dsimp only at hSw);go_simp;try (with_reducible rfl)
       try simp only [Act.put,sA1,sA2,sA3,sA4,sA5,sA6]
       refine tkH (v:=?_) 18 rfl ?_ ?_;rotate_left 1
       ·intro wq hSw;(try dsimp only at hSw);go_simp;try (with_reducible rfl)
       try simp only [Act.put,sA1,sA2,sA3,sA4,sA5,sA6]
       refine tkH (v:=?_) 19 rfl ?_ ?_;rotate_left 1
       ·intro wq hSw;(try dsimp only at hSw);go_simp;try (with_reducible rfl)
       try simp only [Act.put,sA1,sA2,sA3,sA4,sA5,sA6]
       refine tkH (v:=?_) 20 rfl ?_ ?_;rotate_left 1
       ·intro wq hSw;(try dsimp only at hSw);go_simp;try (with_reducible rfl)
       try simp only [Act.put,sA1,sA2,sA3,sA4,sA5,sA6]
       refine tkH (v:=?_) 21 rfl ?_ ?_;rotate_left 1
       ·intro wq hSw;(try dsimp only at hSw);go_simp;try (with_reducible rfl)
       try simp only [Act.put,sA1,sA2,sA3,sA4,sA5,sA6]
       refine wpAnyH_done (by kernel_rfl) ?_ _
       go_wp2_with fail
       go_meet
       case rel=>exact ⟨rfl,HB2.out⟩
      ·cases hv
       have HRN:Hid (Rd .i64 y2 (.slice (if ca=t then some ⟨g,0,none⟩ else some ⟨g,0 + t,none⟩) (n - t) (ca - t)) (spk b)):=by
        unfold Hid
        rw [← HTL.out.sp]
        exact (((HA.out.ext HBWY.out).rdi).cut_if (by omega)).take (n - t) (by rw [List.length_drop];omega)
       obtain ⟨tb,htb⟩:=if_some9 (b:=g) (x:=0) (y:=0 + t) (p:=ca=t)
       rw [htb] at HRN
       rw [Nat.zero_add] at htb
       have c1:((t:Nat):Int)≤((n:Nat):Int):=by omega
       have c2:((n:Nat):Int)≤(ca:Int):=by omega
       have c3:(0:Int)≤((t:Nat):Int):=by omega
       by_cases hb:b=0
       ·subst hb
        have hla:=(HTL.out.la rfl).1
        rw [HCM.out] at hla
        have w9:IntKind.i64.wrap ((i:Int) + 1)=(i:Int) + 1:=by rw [IntKind.wrap_i64];omega
        have g9:¬ ((i:Int) + 1 < (m:Int)):=by omega
        clear hla
        refine wp_region_held_drew (S:=fun w'=>w'.cell? ⟨gl,1,none⟩=some (.int .i64 (t:Nat))∧w'.cell? ⟨gl,2,none⟩=some (.int .i64 (n:Nat))∧w'.cell? ⟨gl,3,none⟩=some (.int .i64 0)) (by kernel_rfl) (by first | exact HS.out _ (Below.refl _ _) | exact HS.out _ (Below.refl _ _).drew) (fun hHeld=>?_)
        refine tkH (v:=?_) 0 rfl ?_ ?_;rotate_left 1
        ·intro wq hSw;(try dsimp only at hSw);go_simp;try (with_reducible rfl)
        try simp only [Act.put,sA1,sA3,sA4,sA5,sA6]
        refine tkH (v:=?_) 1 rfl ?_ ?_;rotate_left 1
        ·intro wq hSw;(try dsimp only at hSw);go_simp;try (with_reducible rfl)
        try simp only [Act.put,sA1,sA2,sA3,sA4,sA5,sA6]
        refine tkH (v:=?_) 2 rfl ?_ ?_;rotate_left 1
        ·intro wq hSw;(try dsimp only at hSw);go_simp;try (with_reducible rfl)
        try simp only [Act.put,sA1,sA2,sA3,sA4,sA5,sA6]
        refine tkH (v:=?_) 3 rfl ?_ ?_;rotate_left 1
        ·intro wq hSw;(try dsimp only at hSw);go_simp;try (with_reducible rfl)
        try simp only [Act.put,sA1,sA2,sA3,sA4,sA5,sA6]
        refine tkH (v:=?_) 4 rfl ?_ ?_;rotate_left 1
        ·intro wq hSw;(try dsimp only at hSw);go_simp;try (with_reducible rfl)
        try simp only [Act.put,sA1,sA2,sA3,sA4,sA5,sA6]
        refine tkH (v:=?_) 5 rfl ?_ ?_;rotate_left 1
        ·intro wq hSw;(try dsimp only at hSw);go_simp;try (with_reducible rfl)
        try simp only [Act.put,sA1,sA2,sA3,sA4,sA5,sA6]
        refine tkH (v:=?_) 6 rfl ?_ ?_;rotate_left 1
        ·intro wq hSw;(try dsimp only at hSw);go_simp;try (with_reducible rfl)
        try simp only [Act.put,sA1,sA2,sA3,sA4,sA5,sA6]
        refine tkH (v:=?_) 7 rfl ?_ ?_;rotate_left 1
        ·intro wq hSw;(try dsimp only at hSw);go_simp;try (with_reducible rfl)
        try simp only [Act.put,sA1,sA2,sA3,sA4,sA5,sA6]
        refine wpAnyH_ready (rs:=[8]) (by kernel_rfl) (by simp) ?_
        refine AllReadyH.cons (o:=_) rfl (fun K hK=>?_) AllReadyH.nil
        go_simp
        (first | refine (spelled_any 0 _).mono ?_);rintro e z1 ⟨v1,rfl,hr1,hb1⟩;obtain ⟨a1,c1,rfl,_⟩:=id hr1;have HR1:=hidIt hr1;have HB1:Hid (Below y2.heap.size y2 z1):=(by first | exact ext_trans (Below.refl _ _) hb1 | exact ext_trans (Below.refl _ _).drew hb1);clear hr1 hb1;(try dsimp only)
        refine hK.out _ _ ?_ (fun hHeld=>?_)
        ·exact HS.out _ HB1.out
        clear hK K
        try simp only [Act.put,sA1,sA2,sA3,sA4,sA5,sA6]
        refine wpAnyH_ready (rs:=[9]) (by kernel_rfl) (by simp) ?_
        refine AllReadyH.cons (o:=_) rfl (fun K hK=>?_) AllReadyH.nil
        go_simp
        (first | refine (same_yes _ _ (spk 0) _ ((HRN.out).ext (ext_trans HB1.out (Below.refl _ _))) (HR1.out.ext (Below.refl _ _))).mono ?_ | refine (same_yes _ _ (spk 0) _ ((HRN.out).ext (ext_trans HB1.out (Below.refl _ _).drew)) (HR1.out.ext (Below.refl _ _).drew)).mono ?_);rintro e z2 ⟨rfl,hb2⟩;have HB2:Hid (Below y2.heap.size y2 z2):=(by first | exact ext_trans (ext_trans HB1.out (Below.refl _ _)) hb2 | exact ext_trans (ext_trans HB1.out (Below.refl _ _).drew) hb2);clear hb2 HR1;(try dsimp only)
        refine hK.out _ _ ?_ (fun hHeld=>?_)
        ·exact HS.out _ HB2.out
        clear hK K
        try simp only [Act.put,sA1,sA2,sA3,sA4,sA5,sA6]
        refine tkH (v:=?_) 10 rfl ?_ ?_;rotate_left 1
        ·intro wq hSw;(try dsimp only at hSw);go_simp;try (with_reducible rfl)
        try simp only [Act.put,sA1,sA2,sA3,sA4,sA5,sA6]
        refine tkH (v:=?_) 11 rfl ?_ ?_;rotate_left 1
        ·intro wq hSw;(try dsimp only at hSw);go_simp;try (with_reducible rfl)
        try simp only [Act.put,sA1,sA2,sA3,sA4,sA5,sA6]
        refine tkH (v:=?_) 12 rfl ?_ ?_;rotate_left 1
        ·intro wq hSw;(try dsimp only at hSw);go_simp;try (with_reducible rfl)
        try simp only [Act.put,sA1,sA2,sA3,sA4,sA5,sA6]
        refine tkH (v:=?_) 13 rfl ?_ ?_;rotate_left 1
        ·intro wq hSw;(try dsimp only at hSw);go_simp;try (with_reducible rfl)
        try simp only [Act.put,sA1,sA2,sA3,sA4,sA5,sA6]
        refine tkH (v:=?_) 14 rfl ?_ ?_;rotate_left 1
        ·intro wq hSw;(try dsimp only at hSw);go_simp;try (with_reducible rfl)
        try simp only [Act.put,sA1,sA2,sA3,sA4,sA5,sA6]
        refine tkH (v:=?_) 15 rfl ?_ ?_;rotate_left 1
        ·intro wq hSw;(try dsimp only at hSw);go_simp;try (with_reducible rfl)
        try simp only [Act.put,sA1,sA2,sA3,sA4,sA5,sA6]
        refine tkH (v:=?_) 16 rfl ?_ ?_;rotate_left 1
        ·intro wq hSw;(try dsimp only at hSw);go_simp;try (with_reducible rfl)
        try simp only [Act.put,sA1,sA2,sA3,sA4,sA5,sA6]
        refine tkH (v:=?_) 17 rfl ?_ ?_;rotate_left 1
        ·intro wq hSw;(try dsimp only at hSw);go_simp;try (with_reducible rfl)
        try simp only [Act.put,sA1,sA2,sA3,sA4,sA5,sA6]
        refine tkH (v:=?_) 18 rfl ?_ ?_;rotate_left 1
        ·intro wq hSw;(try dsimp only at hSw);go_simp;try (with_reducible rfl)
        try simp only [Act.put,sA1,sA2,sA3,sA4,sA5,sA6]
        refine tkH (v:=?_) 19 rfl ?_ ?_;rotate_left 1
        ·intro wq hSw;(try dsimp only at hSw);go_simp;try (with_reducible rfl)
        try simp only [Act.put,sA1,sA2,sA3,sA4,sA5,sA6]
        refine tkH (v:=?_) 20 rfl ?_ ?_;rotate_left 1
        ·intro wq hSw;(try dsimp only at hSw);go_simp;try (with_reducible rfl)
        try simp only [Act.put,sA1,sA2,sA3,sA4,sA5,sA6]
        refine tkH (v:=?_) 21 rfl ?_ ?_;rotate_left 1
        ·intro wq hSw;(try dsimp only at hSw);go_simp;try (with_reducible rfl)
        try simp only [Act.put,sA1,sA2,sA3,sA4,sA5,sA6]
        refine wpAnyH_done (by kernel_rfl) ?_ _
        go_wp2_with fail
        go_meet
        case rel=>exact ⟨rfl,HB2.out⟩
       ·have hbb:(b == 0)=false:=by simpa using hb
        clear hb
        refine wp_region_held_drew (S:=fun w'=>w'.cell? ⟨gl,1,none⟩=some (.int .i64 (t:Nat))∧w'.cell? ⟨gl,2,none⟩=some (.int .i64 (n:Nat))∧w'.cell? ⟨gl,3,none⟩=some (.int .i64 b)) (by kernel_rfl) (by first | exact HS.out _ (Below.refl _ _) | exact HS.out _ (Below.refl _ _).drew) (fun hHeld=>?_)
        refine tkH (v:=?_) 0 rfl ?_ ?_;rotate_left 1
        ·intro wq hSw;(try dsimp only at hSw);go_simp;try (with_reducible rfl)
        try simp only [Act.put,sA1,sA3,sA4,sA5,sA6]
        refine tkH (v:=?_) 1 rfl ?_ ?_;rotate_left 1
        ·intro wq hSw;(try dsimp only at hSw);go_simp;try (with_reducible rfl)
        try simp only [Act.put,sA1,sA2,sA3,sA4,sA5,sA6]
        refine tkH (v:=?_) 2 rfl ?_ ?_;rotate_left 1
        ·intro wq hSw;(try dsimp only at hSw);go_simp;try (with_reducible rfl)
        try simp only [Act.put,sA1,sA2,sA3,sA4,sA5,sA6]
        refine tkH (v:=?_) 3 rfl ?_ ?_;rotate_left 1
        ·intro wq hSw;(try dsimp only at hSw);go_simp;try (with_reducible rfl)
        try simp only [Act.put,sA1,sA2,sA3,sA4,sA5,sA6]
        refine tkH (v:=?_) 4 rfl ?_ ?_;rotate_left 1
        ·intro wq hSw;(try dsimp only at hSw);go_simp;try (with_reducible rfl)
        try simp only [Act.put,sA1,sA2,sA3,sA4,sA5,sA6]
        refine tkH (v:=?_) 5 rfl ?_ ?_;rotate_left 1
        ·intro wq hSw;(try dsimp only at hSw);go_simp;try (with_reducible rfl)
        try simp only [Act.put,sA1,sA2,sA3,sA4,sA5,sA6]
        refine tkH (v:=?_) 6 rfl ?_ ?_;rotate_left 1
        ·intro wq hSw;(try dsimp only at hSw);go_simp;try (with_reducible rfl)
        try simp only [Act.put,sA1,sA2,sA3,sA4,sA5,sA6]
        refine tkH (v:=?_) 7 rfl ?_ ?_;rotate_left 1
        ·intro wq hSw;(try dsimp only at hSw);go_simp;try (with_reducible rfl)
        try simp only [Act.put,sA1,sA2,sA3,sA4,sA5,sA6]
        refine wpAnyH_ready (rs:=[8]) (by kernel_rfl) (by simp) ?_
        refine AllReadyH.cons (o:=_) rfl (fun K hK=>?_) AllReadyH.nil
        go_simp
        (first | refine (spelled_any b _).mono ?_);rintro e z1 ⟨v1,rfl,hr1,hb1⟩;obtain ⟨a1,c1,rfl,_⟩:=id hr1;have HR1:=hidIt hr1;have HB1:Hid (Below y2.heap.size y2 z1):=(by first | exact ext_trans (Below.refl _ _) hb1 | exact ext_trans (Below.refl _ _).drew hb1);clear hr1 hb1;(try dsimp only)
        refine hK.out _ _ ?_ (fun hHeld=>?_)
        ·exact HS.out _ HB1.out
        clear hK K
        try simp only [Act.put,sA1,sA2,sA3,sA4,sA5,sA6]
        refine wpAnyH_ready (rs:=[9]) (by kernel_rfl) (by simp) ?_
        refine AllReadyH.cons (o:=_) rfl (fun K hK=>?_) AllReadyH.nil
        go_simp
        (first | refine (same_yes _ _ (spk b) _ ((HRN.out).ext (ext_trans HB1.out (Below.refl _ _))) (HR1.out.ext (Below.refl _ _))).mono ?_ | refine (same_yes _ _ (spk b) _ ((HRN.out).ext (ext_trans HB1.out (Below.refl _ _).drew)) (HR1.out.ext (Below.refl _ _).drew)).mono ?_);rintro e z2 ⟨rfl,hb2⟩;have HB2:Hid (Below y2.heap.size y2 z2):=(by first | exact ext_trans (ext_trans HB1.out (Below.refl _ _)) hb2 | exact ext_trans (ext_trans HB1.out (Below.refl _ _).drew) hb2);clear hb2 HR1;(try dsimp only)
        refine hK.out _ _ ?_ (fun hHeld=>?_)
        ·exact HS.out _ HB2.out
        clear hK K
        try simp only [Act.put,sA1,sA2,sA3,sA4,sA5,sA6]
        refine tkH (v:=?_) 10 rfl ?_ ?_;rotate_left 1
        ·intro wq hSw;(try dsimp only at hSw);go_simp;try (with_reducible rfl)
        try simp only [Act.put,sA1,sA2,sA3,sA4,sA5,sA6]
        refine tkH (v:=?_) 11 rfl ?_ ?_;rotate_left 1
        ·intro wq hSw;(try dsimp only at hSw);go_simp;try (with_reducible rfl)
        try simp only [Act.put,sA1,sA2,sA3,sA4,sA5,sA6]
        refine tkH (v:=?_) 12 rfl ?_ ?_;rotate_left 1
        ·intro wq hSw;(try dsimp only at hSw);go_simp;try (with_reducible rfl)
        try simp only [Act.put,sA1,sA2,sA3,sA4,sA5,sA6]
        refine tkH (v:=?_) 13 rfl ?_ ?_;rotate_left 1
        ·intro wq hSw;(try dsimp only at hSw);go_simp;try (with_reducible rfl)
        try simp only [Act.put,sA1,sA2,sA3,sA4,sA5,sA6]
        refine tkH (v:=?_) 14 rfl ?_ ?_;rotate_left 1
        ·intro wq hSw;(try dsimp only at hSw);go_simp;try (with_reducible rfl)
        try simp only [Act.put,sA1,sA2,sA3,sA4,sA5,sA6]
        refine tkH (v:=?_) 15 rfl ?_ ?_;rotate_left 1
        ·intro wq hSw;(try dsimp only at hSw);go_simp;try (with_reducible rfl)
        try simp only [Act.put,sA1,sA2,sA3,sA4,sA5,sA6]
        refine wpAnyH_take (i:=16) (oi:=_) (v:=undef) rfl (by kernel_rfl) (by kernel_rfl) (by kernel_rfl) (fun _ _ _ h=>h) (Or.inr ⟨by rfl,rfl⟩) (by assumption) ?_
        try simp only [Act.put,sA1,sA2,sA3,sA4,sA5,sA6]
        refine wpAnyH_take (i:=17) (oi:=_) (v:=undef) rfl (by kernel_rfl) (by kernel_rfl) (by kernel_rfl) (fun _ _ _ h=>h) (Or.inr ⟨by rfl,rfl⟩) (by assumption) ?_
        try simp only [Act.put,sA1,sA2,sA3,sA4,sA5,sA6]
        refine wpAnyH_take (i:=18) (oi:=_) (v:=undef) rfl (by kernel_rfl) (by kernel_rfl) (by kernel_rfl) (fun _ _ _ h=>h) (Or.inr ⟨by rfl,rfl⟩) (by assumption) ?_
        try simp only [Act.put,sA1,sA2,sA3,sA4,sA5,sA6]
        refine wpAnyH_take (i:=19) (oi:=_) (v:=undef) rfl (by kernel_rfl) (by kernel_rfl) (by kernel_rfl) (fun _ _ _ h=>h) (Or.inr ⟨by rfl,rfl⟩) (by assumption) ?_
        try simp only [Act.put,sA1,sA2,sA3,sA4,sA5,sA6]
        refine tkH (v:=?_) 20 rfl ?_ ?_;rotate_left 1
        ·intro wq hSw;(try dsimp only at hSw);go_simp;try (with_reducible rfl)
        try simp only [Act.put,sA1,sA2,sA3,sA4,sA5,sA6]
        refine tkH (v:=?_) 21 rfl ?_ ?_;rotate_left 1
        ·intro wq hSw;(try dsimp only at hSw);go_simp;try (with_reducible rfl)
        try simp only [Act.put,sA1,sA2,sA3,sA4,sA5,sA6]
        refine wpAnyH_done (by kernel_rfl) ?_ _
        go_wp2_with fail
        go_meet
        case rel=>exact ⟨rfl,HB2.out⟩
     case rest =>
      obtain ⟨rfl,HBC⟩:=hcut
      obtain ⟨zc,rfl⟩:∃ zc,zc=wc:=⟨_,rfl⟩
      clear l0 l1 l2 l3 lf HS
      obtain ⟨_,l0,l1,l2,l3,lf⟩:=cells4 ((HBC.out.block _ (Array.getElem?_eq_some_iff.1 HY2.out.2).1).trans HY2.out.2)
      go_upto_region 19 with fail
      go_cut [134] from 119 to 134 (fun tv wF=>tv=.bool false∧wF=zc)
      case first =>
       by_cases hb:b=3
       ·have hbb:(b == 3)=true:=by simpa using hb
        by_cases hnA:n < A.length
        ·have hnI:((n:Nat):Int) < (A.length:Int):=by omega
         obtain ⟨ab,ao,rfl,_,ck,_⟩:=rd_at (HA.out.ext (ext_trans HBWY.out HBC.out)).rdi n hnA
         have n1:=HTL.out.cr hb
         obtain ⟨x,hx⟩:∃ x,A[n]?=some x:=⟨_,List.getElem?_eq_getElem hnA⟩
         rw [hx] at n1 ck
         rw [Option.getD_some] at ck
         have x1:(x == 10)=false:=by simpa using n1
         clear n1 hx hb
         go_wp2_with fail
         go_meet
         case rel=>exact ⟨rfl,rfl⟩
        ·have hnI:¬ ((n:Nat):Int) < (A.length:Int):=by omega
         clear hb
         go_wp2_with fail
         go_meet
         case rel=>exact ⟨rfl,rfl⟩
       ·have hbb:(b == 3)=false:=by simpa using hb
        clear hb
        go_wp2_with fail
        go_meet
        case rel=>exact ⟨rfl,rfl⟩
      case rest =>
       obtain ⟨rfl,hwc⟩:=hcut
       rw [hwc]
       clear hwc
       go_wp2_with fail
       go_loopw [12] (fun kv wk=>∃ k:Nat,f≤k∧k≤n∧kv=.int .i64 (k:Nat)∧Hid (Below zc.heap.size zc wk)) (fun kv _=>n - (intOf kv).toNat)
       case atStart=>exact ⟨f,Nat.le_refl _,by omega,rfl,Below.refl _ _⟩
       case round =>
        clear l0 l1 l2 l3 lf
        obtain ⟨k,hfk,hkn,rfl,HBK⟩:=hrel
        obtain ⟨wk,rfl⟩:∃ wk,wk=wr:=⟨_,rfl⟩
        obtain ⟨_,l0,l1,l2,l3,lf⟩:=cells4 (((ext_trans HBC.out HBK.out).block _ (Array.getElem?_eq_some_iff.1 HY2.out.2).1).trans HY2.out.2)
        by_cases hk:k < n
        ·have hkI:(k:Int) < ((n:Nat):Int):=by omega
         have OZ:=hidIt (Of_z enc wk tx A (k:Nat) (HT.out.ext (ext_trans HBWY.out (ext_trans HBC.out HBK.out))))
         rw [HTL.out.of k hfk hk] at OZ
         have qi:(((i:Nat):Int) != ((i:Nat):Int))=false:=by simp
         go_wp2_with (go_at_call 21;refine OZ.out.mono ?_;rintro e z2 ⟨rfl,hb⟩;have HBZ:=hidIt hb;clear hb OZ;(try dsimp only))
         go_roundw
         case rel=>exact ⟨k + 1,by omega,by omega,by go_num,ext_trans HBK.out HBZ.out⟩
         case measure=>simp [intOf];omega
        ·obtain rfl:n=k:=by omega
         have hkI:¬ ((n:Nat):Int) < ((n:Nat):Int):=by omega
         go_upto_region 26 with fail
         go_cut [162] from 148 to 162 (fun tv wF=>tv=.bool false∧wF=wk)
         case first =>
          by_cases hb:b=0
          ·have hbb:(b == 0)=true:=by simpa using hb
           by_cases he:f=t
           ·have heb:(((f:Nat):Int) == ((t:Nat):Int))=true:=by simp [he]
            have hz:=(HTL.out.la hb).2 he
            have HZZ:Hid ((Value.bool (decide (0 < A.length))=Value.bool false)∧(Value.bool (decide ((0:Int) < (A.length:Int)))=Value.bool false)):=by unfold Hid;rw [hz];exact ⟨rfl,rfl⟩
            clear hb he hz
            go_wp2_with fail
            go_meet
            case rel=>exact ⟨by first | exact HZZ.out.1 | exact HZZ.out.2,rfl⟩
           ·have heb:(((f:Nat):Int) == ((t:Nat):Int))=false:=by simp;omega
            clear hb he
            go_wp2_with fail
            go_meet
            case rel=>exact ⟨rfl,rfl⟩
          ·have hbb:(b == 0)=false:=by simpa using hb
           clear hb
           go_wp2_with fail
           go_meet
           case rel=>exact ⟨rfl,rfl⟩
         case rest =>
          obtain ⟨rfl,hwc⟩:=hcut
          rw [hwc]
          clear hwc
          have HSZ:Hid (Seen wk bs enc A i):=by
           have lb:=(Array.getElem?_eq_some_iff.1 (show wo.heap[bs]?=_ from HSN.out)).1
           exact ((HY2.out.1.trans ((ext_trans HBC.out HBK.out).mono HY2.out.1.size)).block bs lb).trans HSN.out
          have HBF:Hid (Below w1.heap.size w1 wk):=ext_trans HBR.out (HY2.out.1.trans ((ext_trans HBC.out HBK.out).mono HY2.out.1.size))
          have HN0:=hidIt HTL.out.n0
          have lbs:=(Array.getElem?_eq_some_iff.1 (show wo.heap[bs]?=_ from HSN.out)).1
          have hgw:=HGW.out
          have hne:¬ gl=bs:=by omega
          have hne2:¬ bs=gl:=by omega
          clear lbs hgw
          have hb4:b=0∨b=1∨b=2∨b=3:=by omega
          have hm9:i < 65538:=by omega
          rcases hb4 with rfl | rfl | rfl | rfl
          ·obtain ⟨_,s0,s1,s2,s3,sf⟩:=cells4 HSZ.out
           have hk9:=kCF_le enc A i 0
           obtain ⟨k1,k2⟩:=Seen.step HSZ.out HTL.out (by rw [HCM.out];omega) 0 rfl (by decide)
           have K1:=hidIt k1
           have K2:=hidIt (Below.grown HBF.out k2 HBF.out.size (fun k e=>by cases e;rw [HBS.out];exact Nat.le_refl _))
           clear k1 k2
           generalize kC (alF enc A i) 0=kk at *
           go_wp2_with fail
           go_roundw
           case rel=>exact ⟨i + 1,by omega,by go_num,by rw [HN0.out],by go_num,K2.out⟩
           case measure=>simp [intOf];omega
          ·obtain ⟨_,s0,s1,s2,s3,sf⟩:=cells4 HSZ.out
           have hk9:=kCF_le enc A i 1
           obtain ⟨k1,k2⟩:=Seen.step HSZ.out HTL.out (by rw [HCM.out];omega) 1 rfl (by decide)
           have K1:=hidIt k1
           have K2:=hidIt (Below.grown HBF.out k2 HBF.out.size (fun k e=>by cases e;rw [HBS.out];exact Nat.le_refl _))
           clear k1 k2
           generalize kC (alF enc A i) 1=kk at *
           go_wp2_with fail
           go_roundw
           case rel=>exact ⟨i + 1,by omega,by go_num,by rw [HN0.out],by go_num,K2.out⟩
           case measure=>simp [intOf];omega
          ·obtain ⟨_,s0,s1,s2,s3,sf⟩:=cells4 HSZ.out
           have hk9:=kCF_le enc A i 2
           obtain ⟨k1,k2⟩:=Seen.step HSZ.out HTL.out (by rw [HCM.out];omega) 2 rfl (by decide)
           have K1:=hidIt k1
           have K2:=hidIt (Below.grown HBF.out k2 HBF.out.size (fun k e=>by cases e;rw [HBS.out];exact Nat.le_refl _))
           clear k1 k2
           generalize kC (alF enc A i) 2=kk at *
           go_wp2_with fail
           go_roundw
           case rel=>exact ⟨i + 1,by omega,by go_num,by rw [HN0.out],by go_num,K2.out⟩
           case measure=>simp [intOf];omega
          ·obtain ⟨_,s0,s1,s2,s3,sf⟩:=cells4 HSZ.out
           have hk9:=kCF_le enc A i 3
           obtain ⟨k1,k2⟩:=Seen.step HSZ.out HTL.out (by rw [HCM.out];omega) 3 rfl (by decide)
           have K1:=hidIt k1
           have K2:=hidIt (Below.grown HBF.out k2 HBF.out.size (fun k e=>by cases e;rw [HBS.out];exact Nat.le_refl _))
           clear k1 k2
           generalize kC (alF enc A i) 3=kk at *
           go_wp2_with fail
           go_roundw
           case rel=>exact ⟨i + 1,by omega,by go_num,by rw [HN0.out],by go_num,K2.out⟩
           case measure=>simp [intOf];omega
  ·obtain rfl:i=m:=by omega
   have hge:¬ ((i:Nat):Int) < ((i:Nat):Int):=by omega
   have hend:=atK_end (enc:=enc) (A:=A) (i:=i) HCM.out.symm
   rw [hend]
   have hal:al enc A=alF enc A i:=by unfold al;rw [HCM.out,Int.toNat_natCast]
   have KZ:=hidIt (Kinds_z enc wo tx A (HT.out.ext HBWR.out))
   rw [hal] at KZ
   have SN:=HSN.out
   unfold Seen at SN
   generalize kC (alF enc A i) 0=k0 at KZ SN
   generalize kC (alF enc A i) 1=k1 at KZ SN
   generalize kC (alF enc A i) 2=k2 at KZ SN
   generalize kC (alF enc A i) 3=k3 at KZ SN
   have HSN2:=hidIt SN
   clear SN HSN hal hend
   go_upto_region 31 with (go_at_call 18;refine KZ.out.mono ?_;rintro e z ⟨rfl,hb⟩;have HBZ:=hidIt hb;clear hb KZ;(try dsimp only))
   generalize hz2:World.alloc _ _=z2
   have HZ2:Hid (Below wo.heap.size wo z2∧z2.heap[z.heap.size]?=some (.cells #[.int .i64 (k0:Nat),.int .i64 (k1:Nat),.int .i64 (k2:Nat),.int .i64 (k3:Nat)] 53 (0,0))):=by unfold Hid;rw [← hz2];exact ⟨ext_alloc HBZ.out _,heap_alloc_new _ _⟩
   clear hz2
   generalize z.heap.size=gz at HZ2 ⊢
   obtain ⟨_,g0,g1,g2,g3,gf⟩:=cells4 HZ2.out.2
   obtain ⟨_,s0,s1,s2,s3,sf⟩:=cells4 ((HZ2.out.1.block _ (Array.getElem?_eq_some_iff.1 HSN2.out).1).trans HSN2.out)
   go_wp2_with fail
   go_ret
   exact ⟨rfl,ext_trans HBWR.out HZ2.out.1⟩
end Go.Proofs.YthhogjkicgiliaaGreat.P
