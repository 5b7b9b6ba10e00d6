import Derived.Test.YtdkpkncolpapoaaGreatJ00
import Derived.Test.YtdkpkncolpapoaaGreatJ31
import Derived.Test.YtdkpkncolpapoaaGreatJ37
import Derived.Test.YtdkpkncolpapoaaGreatJ36
import Derived.Deep.RegionHeld3
namespace Go.Proofs.YtdkpkncolpapoaaGreat.P
open Go.RowKit
theorem OwnI.cell {w:World} {base:Nat} {ao:Option Addr} {n c:Nat} {zs:List Int} (h:OwnI w base (.slice ao n c) zs) (i:Nat) (e:Int) (he:zs[i]?=some e):∃ g,ao=some ⟨g,0,none⟩∧g < w.heap.size∧n=zs.length∧n≤c∧c≤9223372036854775807∧w.cell? ⟨g,i,none⟩=some (.int .i64 e):=by
 have hi:=(List.getElem?_eq_some_iff.1 he).1
 obtain ⟨g,cap,e1,h1,h2,h3,h4⟩:=h.row (by intro e;subst e;simp at hi)
 simp only [Value.slice.injEq] at e1
 obtain ⟨rfl,rfl,rfl⟩:=e1
 have:=h4 i (.int .i64 e) (by rw [List.getElem?_map,he];rfl)
 refine ⟨g,rfl,h1,rfl,h2,h3,?_⟩
 have e2:(⟨g,0,none⟩:Addr).add i=⟨g,i,none⟩:=by have:=Addr.add_zero_add g i 0;rw [Nat.add_zero] at this;rw [this];rfl
 rw [e2] at this
 exact this
set_option maxRecDepth 100000 in
set_option maxHeartbeats 8000000 in
theorem seamLaw_any (enc:Int) (lv ev av:Value) (L:List Int) (ess:List (List Ed)) (az:List Int) (w:World) (hL:Rd .u8 w lv L) (hB:Byt L) (hlv:∀ c,lv=.slice none L.length c→c=0∧L=[]) (hE:EdL w ev ess) (hA:Rd .i64 w av az) (hel:ess.length≤4611686018427387904) :
  Calls Tryz.prog 5 #[.int .i64 enc,lv,ev,av] w fun e w'=>e=.returned (.bool true)∧Below w.heap.size w w':=by
 have AB:Hid (∀ w',Calls Tryz.prog 16 #[] w' fun e w''=>e=.returned (.bool true)∧Below w'.heap.size w' w''):=fun w'=>able_any w'
 obtain ⟨la,lc,rfl,hl1,hl2,_⟩:=id hL
 obtain ⟨ea,ec,rfl,he1,he2,he3⟩:=id hE
 obtain ⟨za,zc,rfl,hz1,hz2,_⟩:=id hA
 have HE':=hidIt he3
 have HL:=hidIt hL
 have HAZ:=hidIt hA
 have hLm:L.length≤9223372036854775807:=hL.len
 have hAm:az.length≤9223372036854775807:=hA.len
 by_cases hkn:1≤enc∧enc≤4∧L.length≤65536
 ·have KN:Hid (∀ w',Calls Tryz.prog 25 #[.int .i64 enc,.slice la L.length lc] w' fun e w''=>e=.returned (.bool true)∧w''=w'):=fun w'=>known_yes enc la L.length lc w' hkn
  have hEn:Cx.En enc:=by unfold Cx.En;omega
  have hk2:Cx.known enc=true:=by rcases hEn with rfl | rfl | rfl | rfl <;> rfl
  have OP:Hid (∀ w',Below w.heap.size w w'→Calls Tryz.prog 17 #[.int .i64 enc,.slice la L.length lc] w' fun e w''=>∃ (t:Nat) (ps:List PG),e=.returned (.pointer (some ⟨t,0,none⟩))∧Hid (Tx enc 65536 L w'' t ps∧sh enc ps=ctn enc 0 (Cx.dec enc L)∧w'.heap.size≤t)∧Below w'.heap.size w' w''):=fun w' hb=>opened_any enc hk2 la lc L w' (hL.ext hb) hB hkn.2.2 (fun e=>by subst e;exact hlv lc rfl)
  have HBK:=hidIt (Cx.back_all enc hEn L.length L (Nat.le_refl _) hB).1
  have hL6:=hkn.2.2
  clear hL hE he3 hlv hkn hk2 hA
  go_enter Tryz.func5,Tryz.ntmps5
  go_upto_region 6 with (first
   | (go_at_call 16;refine (AB.out w).mono ?_;rintro e w1 ⟨rfl,hb1⟩;have HB1:=hidIt hb1;clear hb1;(try dsimp only))
   | (go_at_call 25;refine (KN.out w1).mono ?_;rintro e w1' ⟨rfl,hw1⟩;rw [hw1];clear hw1;(try dsimp only))
   | (go_at_call 17;refine (OP.out w1 HB1.out).mono ?_;rintro e w2 ⟨t,ps,rfl,hop,hb2⟩;have HOP:=hidIt hop.out;have HB2:=hidIt (ext_trans HB1.out hb2);clear hop hb2;(try dsimp only)))
  have htl:w.heap.size≤t:=Nat.le_trans HB1.out.size HOP.out.2.2
  have hbL:Cx.encB enc (asOf ps)=L:=by rw [← sh_fst enc ps,HOP.out.2.1,ctn_fst];exact HBK.out
  have BY:=hidIt (Bytes_any enc 65536 L w2 t ps HOP.out.1)
  rw [hbL] at BY
  clear hbL
  go_upto_block 0 with (first
   | (go_at_call 31;refine BY.out.mono ?_;rintro e w3 ⟨b3,rfl,hr3,_,hb3⟩;have HB3:=hidIt hb3;have SB3:=hidIt (sameBytes_eq (.slice (some ⟨b3,0,none⟩) L.length L.length) (.slice la L.length lc) L w3 (hr3.rd _ (Nat.le_refl _) (by omega)) (HL.out.ext (ext_trans HB2.out hb3)));clear hr3 hb3;(try dsimp only))
   | (go_at_call 23;refine SB3.out.mono ?_;rintro e w4 ⟨rfl,hb4⟩;have HB4:=hidIt (ext_trans HB3.out hb4);clear hb4;(try dsimp only)))
  have HI0:Hid (Tx enc 65536 L w4 t ps∧Below w.heap.size w w4):=⟨HOP.out.1.ext HB4.out,ext_trans HB2.out HB4.out⟩
  clear HB4 HB3 SB3 BY HOP HB2 HB1 OP KN AB HBK
  go_wp2_with fail
  go_loopg [10] (ess.length + 1) (fun gk p wr=>∃ (i:Nat) (qs:List PG),i + gk=ess.length + 1∧p=.int .i64 (i:Nat)∧Hid (Tx enc 65536 L wr t qs∧Below w.heap.size w wr))
  case atStart=>exact ⟨0,ps,by omega,rfl,HI0.out⟩
  case round =>
   obtain ⟨i,qs,hi,rfl,HI⟩:=hrel
   by_cases hil:i≤ess.length
   ·have hil2:(i:Int)≤(ess.length:Int):=by omega
    have hnl:(sh enc qs).length≤65536:=HI.out.1.sum.2.2
    have hAl:(asOf qs).length≤65536:=by rw [← sh_len enc qs];exact hnl
    have LN:Hid (∀ w',Below wr.heap.size wr w'→Calls Tryz.prog 34 #[.pointer (some ⟨t,0,none⟩)] w' fun e w''=>e=.returned (.int .i64 (sh enc qs).length)∧Below w'.heap.size w' w''):=fun w' hb=>Len_any enc 65536 L w' t qs (HI.out.1.ext hb)
    have AT:Hid (∀ w',Below wr.heap.size wr w'→Calls Tryz.prog 33 #[.pointer (some ⟨t,0,none⟩),.int .i64 0,.int .i64 (sh enc qs).length] w' fun e w''=>AtR (asOf qs) w' e w''):=fun w' hb=>by
     have:=Atoms_any enc 65536 L w' t qs 0 (sh enc qs).length (HI.out.1.ext hb)
     rwa [clp_all,btw_all,sh_fst] at this
    have BR:Hid (∀ w' z,Below wr.heap.size wr w'→Calls Tryz.prog 35 #[.pointer (some ⟨t,0,none⟩),.int .i64 z] w' fun e w''=>e=.returned (.int .i64 (brk enc (asOf qs) z))∧Below w'.heap.size w' w''):=fun w' z hb=>Breaks_any enc 65536 L w' t qs z (HI.out.1.ext hb)
    have SK:Hid (∀ w' k,Below wr.heap.size wr w'→Calls Tryz.prog 36 #[.pointer (some ⟨t,0,none⟩),.int .i64 k] w' fun e w''=>e=.returned (.int .i64 (skA enc (asOf qs) k))∧Below w'.heap.size w' w''):=fun w' k hb=>Seek_any enc 65536 L w' t qs k (HI.out.1.ext hb)
    obtain ⟨n,hn⟩:∃ n,n=(gE (asOf qs) (asOf qs).length).length:=⟨_,rfl⟩
    obtain ⟨_,_,hnb,_,_⟩:=seam_at enc (asOf qs) 0 _ rfl
    rw [← hn] at hnb
    have hn6:n≤65536:=by have:=gE_le (asOf qs) (asOf qs).length;omega
    have BRL:Hid (∀ w',Below wr.heap.size wr w'→Calls Tryz.prog 35 #[.pointer (some ⟨t,0,none⟩),.int .i64 ((sh enc qs).length:Nat)] w' fun e w''=>e=.returned (.int .i64 (n:Nat))∧Below w'.heap.size w' w''):=fun w' hb=>by
     have:=BR.out w' ((sh enc qs).length:Nat) hb
     rwa [show brk enc (asOf qs) ((sh enc qs).length:Nat)=(n:Nat) by rw [brk_at,Int.toNat_natCast,bAt_len _ _ _ (by rw [sh_len];exact Nat.le_refl _),hnb]] at this
    have SK0:Hid (∀ w',Below wr.heap.size wr w'→Calls Tryz.prog 36 #[.pointer (some ⟨t,0,none⟩),.int .i64 0] w' fun e w''=>e=.returned (.int .i64 0)∧Below w'.heap.size w' w''):=fun w' hb=>by
     have:=SK.out w' 0 hb
     rwa [show skA enc (asOf qs) 0=0 by unfold skA;rw [if_pos rfl]] at this
    have SK1:Hid (∀ w' z,z=(n:Int) + 1→Below wr.heap.size wr w'→Calls Tryz.prog 36 #[.pointer (some ⟨t,0,none⟩),.int .i64 z] w' fun e w''=>e=.returned (.int .i64 (-1))∧Below w'.heap.size w' w''):=fun w' z hz hb=>by
     have:=SK.out w' z hb
     rwa [show skA enc (asOf qs) z=-1 by unfold skA;rw [if_neg (by omega),if_pos (by omega)]] at this
    have SK2:Hid (∀ w',Below wr.heap.size wr w'→Calls Tryz.prog 36 #[.pointer (some ⟨t,0,none⟩),.int .i64 (-1)] w' fun e w''=>e=.returned (.int .i64 (-1))∧Below w'.heap.size w' w''):=fun w' hb=>by
     have:=SK.out w' (-1) hb
     rwa [show skA enc (asOf qs) (-1)=-1 by unfold skA;rw [if_neg (by omega),if_pos (by omega)]] at this
    have HNB:=hidIt hnb
    have HNN:=hidIt hn
    clear hnb hn
    go_upto_region 12 with (first
     | (go_at_call 34;refine (LN.out wr (Below.refl _ _)).mono ?_;rintro e x1 ⟨rfl,hb⟩;have HX1:=hidIt hb;clear hb;(try dsimp only))
     | (go_at_call 33;refine (AT.out x1 HX1.out).mono ?_;rintro e x2 ⟨va,rfl,ho,hb⟩;have HX2:=hidIt (ext_trans HX1.out hb);have EN:=hidIt (ends_any va (asOf qs) x2 ho.rd hAl);clear ho hb;(try dsimp only))
     | (go_at_call 32;refine EN.out.mono ?_;rintro e x3 ⟨ao,n3,cap,rfl,ho,hb⟩;obtain rfl:n3=n:=ho.out.1.trans HNN.out.symm;have HO3:=hidIt ho.out.2;have HX3:=hidIt (ext_trans HX2.out hb);clear ho hb;(try dsimp only)))
    have hwn:IntKind.i64.wrap ((n3:Int) + 1)=(n3:Int) + 1:=by rw [IntKind.wrap_i64];omega
    clear EN AT
    go_upto_block 2 with (first
     | (go_at_call 34;refine (LN.out x3 HX3.out).mono ?_;rintro e x4 ⟨rfl,hb⟩;have HY4:=hidIt hb;have HX4:=hidIt (ext_trans HX3.out hb);clear hb;(try dsimp only))
     | (go_at_call 35;refine (BRL.out x4 HX4.out).mono ?_;rintro e x5 ⟨rfl,hb⟩;have HY5:=hidIt (ext_trans HY4.out hb);have HX5:=hidIt (ext_trans HX4.out hb);clear hb;(try dsimp only))
     | (go_at_call 36;refine (SK0.out x5 HX5.out).mono ?_;clear SK0;rintro e x6 ⟨rfl,hb⟩;have HY6:=hidIt (ext_trans HY5.out hb);have HX6:=hidIt (ext_trans HX5.out hb);clear hb;(try dsimp only))
     | (go_at_call 36;refine (SK1.out x6 _ (by first | rfl | exact hwn) HX6.out).mono ?_;clear SK1;rintro e x7 ⟨rfl,hb⟩;have HY7:=hidIt (ext_trans HY6.out hb);have HX7:=hidIt (ext_trans HX6.out hb);clear hb;(try dsimp only))
     | (go_at_call 36;refine (SK2.out x7 HX7.out).mono ?_;clear SK2;rintro e x8 ⟨rfl,hb⟩;have HY8:=hidIt (ext_trans HY7.out hb);have HX8:=hidIt (ext_trans HX7.out hb);clear hb;(try dsimp only)))
    clear HX4 HX5 HX6 HX7 HY4 HY5 HY6 HY7 LN BRL
    have HO8:=hidIt (HO3.out.ext HY8.out)
    clear HO3 HY8 HX1 HX2 HX3
    go_wp2_with fail
    go_loopg [13] az.length (fun gj p wj=>∃ j:Nat,j + gj=az.length∧p=.int .i64 (j:Nat)∧Hid (Below x8.heap.size x8 wj))
    case atStart=>exact ⟨0,by omega,rfl,Below.refl _ _⟩
    case round =>
     obtain ⟨j,hj,rfl,HJ⟩:=hrel
     by_cases hjl:j < az.length
     ·have hjl2:(j:Int) < (az.length:Int):=by omega
      obtain ⟨z,hz⟩:∃ z,az[j]?=some z:=⟨_,List.getElem?_eq_getElem hjl⟩
      have HBW:=hidIt (ext_trans HI.out.2 (ext_trans HX8.out HJ.out))
      obtain ⟨b,o,rfl,hbl,cz,_⟩:=rd_at (HAZ.out.ext HBW.out) j hjl
      rw [hz,Option.getD_some] at cz
      have HCZ:Hid (∀ w',Below wr.heap.size wr w'→w'.cell? ⟨b,o + j,none⟩=some (.int .i64 z)):=fun w' hb=>(hb.cell (p:=⟨b,o + j,none⟩) hbl).trans cz
      obtain ⟨hk0,hk1,hk2,hk3,hk4⟩:=seam_at enc (asOf qs) z _ rfl
      obtain ⟨kN,hkN⟩:∃ kN:Nat,brk enc (asOf qs) z=(kN:Int):=⟨(brk enc (asOf qs) z).toNat,by omega⟩
      have BZ:=hidIt (BR.out wr z (ext_trans HX8.out HJ.out))
      rw [hkN] at BZ hk1 hk3 hk4
      rw [← HNN.out] at hk1 hk3 hk4
      have HOL:Hid (∀ w',Below wr.heap.size wr w'→OwnI w' x2.heap.size (.slice ao n3 cap) (gE (asOf qs) (asOf qs).length)):=fun w' hb=>HO8.out.ext (ext_trans HJ.out hb)
      obtain ⟨m1,hm1⟩:∃ m1:Nat,m1=n3 - kN:=⟨_,rfl⟩
      have hw1:IntKind.i64.wrap ((n3:Int) - (kN:Int))=(m1:Nat):=by rw [IntKind.wrap_i64];omega
      have hkn0:¬ (kN:Int) < 0:=by omega
      have hkn1:¬ (n3:Int) < (kN:Int):=by omega
      have hk3':=hidIt hk3
      have hk4':=hidIt hk4
      have HM1:=hidIt hm1
      have HKL:=hidIt hk1
      clear hz hk0 hk1 hk2 hk3 hk4 hkN hm1 hbl
      go_upto_region 19 with (go_at_call 35;refine BZ.out.mono ?_;clear cz;rintro e y1 ⟨rfl,hb⟩;have HY1:=hidIt hb;have cz:=HCZ.out y1 hb;clear hb;(try dsimp only))
      go_cut [123] from 81 to 122 (fun v wF=>v=.bool false∧Hid (Below y1.heap.size y1 wF))
      case first =>
       by_cases h0:0 < kN
       ·obtain ⟨e1,he1,hle1,_,_⟩:=hk3'.out (by omega)
        rw [show ((n3:Int) - (kN:Int)).toNat=m1 by have:=HM1.out;omega] at he1
        obtain ⟨g,rfl,-,-,hnc,-,c1⟩:=(HOL.out y1 HY1.out).cell m1 e1 he1
        have h0':(0:Int) < (kN:Int):=by omega
        have hm1a:(m1:Int) < (n3:Int):=by have:=HM1.out;have:=HKL.out;omega
        have hm1b:(0:Int)≤(m1:Int):=by omega
        have hle1':¬ z < e1:=by omega
        clear he1 hle1
        by_cases hkn:kN < n3
        ·have hkn':(kN:Int) < (n3:Int):=by omega
         obtain ⟨e2,he2,hlt2⟩:=hk4'.out hkn'
         obtain ⟨m2,hm2⟩:∃ m2:Nat,m2 + 1=m1:=⟨m1 - 1,by have:=HM1.out;omega⟩
         rw [show ((n3:Int) - (kN:Int) - 1).toNat=m2 by have:=HM1.out;omega] at he2
         obtain ⟨g',e3,-,-,-,-,c2⟩:=(HOL.out y1 HY1.out).cell m2 e2 he2
         cases e3
         have hw2:IntKind.i64.wrap ((m1:Int) - 1)=(m2:Nat):=by have:=HM1.out;rw [IntKind.wrap_i64];omega
         have hm2a:(m2:Int) < (n3:Int):=by omega
         have hm2b:(0:Int)≤(m2:Int):=by omega
         have hlt2':¬ e2≤z:=by omega
         clear he2 hlt2 hm2
         refine wp_region_held_drew (S:=fun w''=>w''.cell? ⟨b,o + j,none⟩=some (.int .i64 z)∧w''.cell? ⟨g,m1,none⟩=some (.int .i64 e1)∧w''.cell? ⟨g,m2,none⟩=some (.int .i64 e2)) (by kernel_rfl) (⟨cz,c1,c2⟩) (fun hHeld=>?_)
         refine tkH 0 rfl ?_
         try simp only [Act.put,tS]
         refine tkH 1 rfl ?_
         try simp only [Act.put,tS]
         refine tkH 2 rfl ?_
         try simp only [Act.put,tS]
         refine tkH 3 rfl ?_
         try simp only [Act.put,tS]
         refine tkH 4 rfl ?_
         try simp only [Act.put,tS]
         refine tkH 5 rfl ?_
         try simp only [Act.put,tS]
         refine tkH 6 rfl ?_
         try simp only [Act.put,tS]
         refine tkH 7 rfl ?_
         try simp only [Act.put,tS]
         refine tkH 8 rfl ?_
         try simp only [Act.put,tS]
         refine tkH 9 rfl ?_
         try simp only [Act.put,tS]
         refine tkH 10 rfl ?_
         try simp only [Act.put,tS]
         refine tkH 11 rfl ?_
         try simp only [Act.put,tS]
         refine tkH 12 rfl ?_
         try simp only [Act.put,tS]
         refine tkH 13 rfl ?_
         try simp only [Act.put,tS]
         refine tkH 14 rfl ?_
         try simp only [Act.put,tS]
         refine tkH 15 rfl ?_
         try simp only [Act.put,tS]
         refine tkH 16 rfl ?_
         try simp only [Act.put,tS]
         refine tkH 17 rfl ?_
         try simp only [Act.put,tS]
         refine tkH 18 rfl ?_
         try simp only [Act.put,tS]
         refine tkH 19 rfl ?_
         try simp only [Act.put,tS]
         refine tkH 20 rfl ?_
         try simp only [Act.put,tS]
         refine tkH 21 rfl ?_
         try simp only [Act.put,tS]
         refine tkH 22 rfl ?_
         try simp only [Act.put,tS]
         refine tkH 23 rfl ?_
         try simp only [Act.put,tS]
         refine tkH 24 rfl ?_
         try simp only [Act.put,tS]
         refine tkH 25 rfl ?_
         try simp only [Act.put,tS]
         refine tkH 26 rfl ?_
         try simp only [Act.put,tS]
         refine tkH 27 rfl ?_
         try simp only [Act.put,tS]
         refine tkH 28 rfl ?_
         try simp only [Act.put,tS]
         refine tkH 29 rfl ?_
         try simp only [Act.put,tS]
         refine tkH 30 rfl ?_
         try simp only [Act.put,tS]
         refine tkH 31 rfl ?_
         try simp only [Act.put,tS]
         refine tkH 32 rfl ?_
         try simp only [Act.put,tS]
         refine tkH 33 rfl ?_
         try simp only [Act.put,tS]
         refine tkH 34 rfl ?_
         try simp only [Act.put,tS]
         refine tkH 35 rfl ?_
         try simp only [Act.put,tS]
         refine tkH 36 rfl ?_
         try simp only [Act.put,tS]
         refine tkH 37 rfl ?_
         try simp only [Act.put,tS]
         refine tkH 38 rfl ?_
         try simp only [Act.put,tS]
         refine tkH 39 rfl ?_
         try simp only [Act.put,tS]
         refine tkH 40 rfl ?_
         try simp only [Act.put,tS]
         refine tkH 41 rfl ?_
         try simp only [Act.put,tS]
         refine tkH 42 rfl ?_
         try simp only [Act.put,tS]
         refine wpAnyH_done (by kernel_rfl) ?_ _
         go_wp2_with fail
         go_meet
         case rel=>exact ⟨rfl,(Below.refl _ _).drew⟩
        ·have hkn':¬ (kN:Int) < (n3:Int):=by omega
         refine wp_region_held_drew (S:=fun w''=>w''.cell? ⟨b,o + j,none⟩=some (.int .i64 z)∧w''.cell? ⟨g,m1,none⟩=some (.int .i64 e1)) (by kernel_rfl) (⟨cz,c1⟩) (fun hHeld=>?_)
         refine tkH 0 rfl ?_
         try simp only [Act.put,tS]
         refine tkH 1 rfl ?_
         try simp only [Act.put,tS]
         refine tkH 2 rfl ?_
         try simp only [Act.put,tS]
         refine tkH 3 rfl ?_
         try simp only [Act.put,tS]
         refine tkH 4 rfl ?_
         try simp only [Act.put,tS]
         refine tkH 5 rfl ?_
         try simp only [Act.put,tS]
         refine tkH 6 rfl ?_
         try simp only [Act.put,tS]
         refine tkH 7 rfl ?_
         try simp only [Act.put,tS]
         refine tkH 8 rfl ?_
         try simp only [Act.put,tS]
         refine tkH 9 rfl ?_
         try simp only [Act.put,tS]
         refine tkH 10 rfl ?_
         try simp only [Act.put,tS]
         refine tkH 11 rfl ?_
         try simp only [Act.put,tS]
         refine tkH 12 rfl ?_
         try simp only [Act.put,tS]
         refine tkH 13 rfl ?_
         try simp only [Act.put,tS]
         refine tkH 14 rfl ?_
         try simp only [Act.put,tS]
         refine tkH 15 rfl ?_
         try simp only [Act.put,tS]
         refine tkH 16 rfl ?_
         try simp only [Act.put,tS]
         refine tkH 17 rfl ?_
         try simp only [Act.put,tS]
         refine tkH 18 rfl ?_
         try simp only [Act.put,tS]
         refine tkH 19 rfl ?_
         try simp only [Act.put,tS]
         refine tkH 20 rfl ?_
         try simp only [Act.put,tS]
         refine tkH 21 rfl ?_
         try simp only [Act.put,tS]
         refine tkH 22 rfl ?_
         try simp only [Act.put,tS]
         refine tkH 23 rfl ?_
         try simp only [Act.put,tS]
         refine tkH 24 rfl ?_
         try simp only [Act.put,tS]
         refine tkH 25 rfl ?_
         try simp only [Act.put,tS]
         refine tkH 26 rfl ?_
         try simp only [Act.put,tS]
         refine tkH 27 rfl ?_
         try simp only [Act.put,tS]
         refine tkH 28 rfl ?_
         try simp only [Act.put,tS]
         refine wpAnyH_take (i:=29) (oi:=_) (v:=undef) rfl (by kernel_rfl) (by kernel_rfl) (by kernel_rfl) (fun _ _ _ h=>h) (Or.inr ⟨by rfl,rfl⟩) (by assumption) ?_
         try simp only [Act.put,tS]
         refine wpAnyH_take (i:=30) (oi:=_) (v:=undef) rfl (by kernel_rfl) (by kernel_rfl) (by kernel_rfl) (fun _ _ _ h=>h) (Or.inr ⟨by rfl,rfl⟩) (by assumption) ?_
         try simp only [Act.put,tS]
         refine wpAnyH_take (i:=31) (oi:=_) (v:=undef) rfl (by kernel_rfl) (by kernel_rfl) (by kernel_rfl) (fun _ _ _ h=>h) (Or.inr ⟨by rfl,rfl⟩) (by assumption) ?_
         try simp only [Act.put,tS]
         refine wpAnyH_take (i:=32) (oi:=_) (v:=undef) rfl (by kernel_rfl) (by kernel_rfl) (by kernel_rfl) (fun _ _ _ h=>h) (Or.inr ⟨by rfl,rfl⟩) (by assumption) ?_
         try simp only [Act.put,tS]
         refine wpAnyH_take (i:=33) (oi:=_) (v:=undef) rfl (by kernel_rfl) (by kernel_rfl) (by kernel_rfl) (fun _ _ _ h=>h) (Or.inr ⟨by rfl,rfl⟩) (by assumption) ?_
         try simp only [Act.put,tS]
         refine wpAnyH_take (i:=34) (oi:=_) (v:=undef) rfl (by kernel_rfl) (by kernel_rfl) (by kernel_rfl) (fun _ _ _ h=>h) (Or.inr ⟨by rfl,rfl⟩) (by assumption) ?_
         try simp only [Act.put,tS]
         refine wpAnyH_take (i:=35) (oi:=_) (v:=undef) rfl (by kernel_rfl) (by kernel_rfl) (by kernel_rfl) (fun _ _ _ h=>h) (Or.inr ⟨by rfl,rfl⟩) (by assumption) ?_
         try simp only [Act.put,tS]
         refine wpAnyH_take (i:=36) (oi:=_) (v:=undef) rfl (by kernel_rfl) (by kernel_rfl) (by kernel_rfl) (fun _ _ _ h=>h) (Or.inr ⟨by rfl,rfl⟩) (by assumption) ?_
         try simp only [Act.put,tS]
         refine wpAnyH_take (i:=37) (oi:=_) (v:=undef) rfl (by kernel_rfl) (by kernel_rfl) (by kernel_rfl) (fun _ _ _ h=>h) (Or.inr ⟨by rfl,rfl⟩) (by assumption) ?_
         try simp only [Act.put,tS]
         refine wpAnyH_take (i:=38) (oi:=_) (v:=undef) rfl (by kernel_rfl) (by kernel_rfl) (by kernel_rfl) (fun _ _ _ h=>h) (Or.inr ⟨by rfl,rfl⟩) (by assumption) ?_
         try simp only [Act.put,tS]
         refine wpAnyH_take (i:=39) (oi:=_) (v:=undef) rfl (by kernel_rfl) (by kernel_rfl) (by kernel_rfl) (fun _ _ _ h=>h) (Or.inr ⟨by rfl,rfl⟩) (by assumption) ?_
         try simp only [Act.put,tS]
         refine wpAnyH_take (i:=40) (oi:=_) (v:=undef) rfl (by kernel_rfl) (by kernel_rfl) (by kernel_rfl) (fun _ _ _ h=>h) (Or.inr ⟨by rfl,rfl⟩) (by assumption) ?_
         try simp only [Act.put,tS]
         refine tkH 41 rfl ?_
         try simp only [Act.put,tS]
         refine tkH 42 rfl ?_
         try simp only [Act.put,tS]
         refine wpAnyH_done (by kernel_rfl) ?_ _
         go_wp2_with fail
         go_meet
         case rel=>exact ⟨rfl,(Below.refl _ _).drew⟩
       ·have h0':¬ (0:Int) < (kN:Int):=by omega
        by_cases hkn:kN < n3
        ·have hkn':(kN:Int) < (n3:Int):=by omega
         obtain ⟨e2,he2,hlt2⟩:=hk4'.out hkn'
         obtain ⟨m2,hm2⟩:∃ m2:Nat,m2 + 1=m1:=⟨m1 - 1,by have:=HM1.out;omega⟩
         rw [show ((n3:Int) - (kN:Int) - 1).toNat=m2 by have:=HM1.out;omega] at he2
         obtain ⟨g,rfl,-,-,hnc,-,c2⟩:=(HOL.out y1 HY1.out).cell m2 e2 he2
         have hw2:IntKind.i64.wrap ((m1:Int) - 1)=(m2:Nat):=by have:=HM1.out;rw [IntKind.wrap_i64];omega
         have hm2a:(m2:Int) < (n3:Int):=by have:=HM1.out;omega
         have hm2b:(0:Int)≤(m2:Int):=by omega
         have hlt2':¬ e2≤z:=by omega
         clear he2 hlt2 hm2
         refine wp_region_held_drew (S:=fun w''=>w''.cell? ⟨b,o + j,none⟩=some (.int .i64 z)∧w''.cell? ⟨g,m2,none⟩=some (.int .i64 e2)) (by kernel_rfl) (⟨cz,c2⟩) (fun hHeld=>?_)
         refine tkH 0 rfl ?_
         try simp only [Act.put,tS]
         refine tkH 1 rfl ?_
         try simp only [Act.put,tS]
         refine tkH 2 rfl ?_
         try simp only [Act.put,tS]
         refine tkH 3 rfl ?_
         try simp only [Act.put,tS]
         refine tkH 4 rfl ?_
         try simp only [Act.put,tS]
         refine tkH 5 rfl ?_
         try simp only [Act.put,tS]
         refine tkH 6 rfl ?_
         try simp only [Act.put,tS]
         refine tkH 7 rfl ?_
         try simp only [Act.put,tS]
         refine tkH 8 rfl ?_
         try simp only [Act.put,tS]
         refine tkH 9 rfl ?_
         try simp only [Act.put,tS]
         refine tkH 10 rfl ?_
         try simp only [Act.put,tS]
         refine wpAnyH_take (i:=11) (oi:=_) (v:=undef) rfl (by kernel_rfl) (by kernel_rfl) (by kernel_rfl) (fun _ _ _ h=>h) (Or.inr ⟨by rfl,rfl⟩) (by assumption) ?_
         try simp only [Act.put,tS]
         refine wpAnyH_take (i:=12) (oi:=_) (v:=undef) rfl (by kernel_rfl) (by kernel_rfl) (by kernel_rfl) (fun _ _ _ h=>h) (Or.inr ⟨by rfl,rfl⟩) (by assumption) ?_
         try simp only [Act.put,tS]
         refine wpAnyH_take (i:=13) (oi:=_) (v:=undef) rfl (by kernel_rfl) (by kernel_rfl) (by kernel_rfl) (fun _ _ _ h=>h) (Or.inr ⟨by rfl,rfl⟩) (by assumption) ?_
         try simp only [Act.put,tS]
         refine wpAnyH_take (i:=14) (oi:=_) (v:=undef) rfl (by kernel_rfl) (by kernel_rfl) (by kernel_rfl) (fun _ _ _ h=>h) (Or.inr ⟨by rfl,rfl⟩) (by assumption) ?_
         try simp only [Act.put,tS]
         refine wpAnyH_take (i:=15) (oi:=_) (v:=undef) rfl (by kernel_rfl) (by kernel_rfl) (by kernel_rfl) (fun _ _ _ h=>h) (Or.inr ⟨by rfl,rfl⟩) (by assumption) ?_
         try simp only [Act.put,tS]
         refine wpAnyH_take (i:=16) (oi:=_) (v:=undef) rfl (by kernel_rfl) (by kernel_rfl) (by kernel_rfl) (fun _ _ _ h=>h) (Or.inr ⟨by rfl,rfl⟩) (by assumption) ?_
         try simp only [Act.put,tS]
         refine wpAnyH_take (i:=17) (oi:=_) (v:=undef) rfl (by kernel_rfl) (by kernel_rfl) (by kernel_rfl) (fun _ _ _ h=>h) (Or.inr ⟨by rfl,rfl⟩) (by assumption) ?_
         try simp only [Act.put,tS]
         refine wpAnyH_take (i:=18) (oi:=_) (v:=undef) rfl (by kernel_rfl) (by kernel_rfl) (by kernel_rfl) (fun _ _ _ h=>h) (Or.inr ⟨by rfl,rfl⟩) (by assumption) ?_
         try simp only [Act.put,tS]
         refine wpAnyH_take (i:=19) (oi:=_) (v:=undef) rfl (by kernel_rfl) (by kernel_rfl) (by kernel_rfl) (fun _ _ _ h=>h) (Or.inr ⟨by rfl,rfl⟩) (by assumption) ?_
         try simp only [Act.put,tS]
         refine wpAnyH_take (i:=20) (oi:=_) (v:=undef) rfl (by kernel_rfl) (by kernel_rfl) (by kernel_rfl) (fun _ _ _ h=>h) (Or.inr ⟨by rfl,rfl⟩) (by assumption) ?_
         try simp only [Act.put,tS]
         refine wpAnyH_take (i:=21) (oi:=_) (v:=undef) rfl (by kernel_rfl) (by kernel_rfl) (by kernel_rfl) (fun _ _ _ h=>h) (Or.inr ⟨by rfl,rfl⟩) (by assumption) ?_
         try simp only [Act.put,tS]
         refine tkH 22 rfl ?_
         try simp only [Act.put,tS]
         refine tkH 23 rfl ?_
         try simp only [Act.put,tS]
         refine tkH 24 rfl ?_
         try simp only [Act.put,tS]
         refine tkH 25 rfl ?_
         try simp only [Act.put,tS]
         refine tkH 26 rfl ?_
         try simp only [Act.put,tS]
         refine tkH 27 rfl ?_
         try simp only [Act.put,tS]
         refine tkH 28 rfl ?_
         try simp only [Act.put,tS]
         refine tkH 29 rfl ?_
         try simp only [Act.put,tS]
         refine tkH 30 rfl ?_
         try simp only [Act.put,tS]
         refine tkH 31 rfl ?_
         try simp only [Act.put,tS]
         refine tkH 32 rfl ?_
         try simp only [Act.put,tS]
         refine tkH 33 rfl ?_
         try simp only [Act.put,tS]
         refine tkH 34 rfl ?_
         try simp only [Act.put,tS]
         refine tkH 35 rfl ?_
         try simp only [Act.put,tS]
         refine tkH 36 rfl ?_
         try simp only [Act.put,tS]
         refine tkH 37 rfl ?_
         try simp only [Act.put,tS]
         refine tkH 38 rfl ?_
         try simp only [Act.put,tS]
         refine tkH 39 rfl ?_
         try simp only [Act.put,tS]
         refine tkH 40 rfl ?_
         try simp only [Act.put,tS]
         refine tkH 41 rfl ?_
         try simp only [Act.put,tS]
         refine tkH 42 rfl ?_
         try simp only [Act.put,tS]
         refine wpAnyH_done (by kernel_rfl) ?_ _
         go_wp2_with fail
         go_meet
         case rel=>exact ⟨rfl,(Below.refl _ _).drew⟩
        ·have hkn':¬ (kN:Int) < (n3:Int):=by omega
         refine wp_region_held_drew (S:=fun w''=>w''.cell? ⟨b,o + j,none⟩=some (.int .i64 z)) (by kernel_rfl) (cz) (fun hHeld=>?_)
         refine tkH 0 rfl ?_
         try simp only [Act.put,tS]
         refine tkH 1 rfl ?_
         try simp only [Act.put,tS]
         refine tkH 2 rfl ?_
         try simp only [Act.put,tS]
         refine tkH 3 rfl ?_
         try simp only [Act.put,tS]
         refine tkH 4 rfl ?_
         try simp only [Act.put,tS]
         refine tkH 5 rfl ?_
         try simp only [Act.put,tS]
         refine tkH 6 rfl ?_
         try simp only [Act.put,tS]
         refine tkH 7 rfl ?_
         try simp only [Act.put,tS]
         refine tkH 8 rfl ?_
         try simp only [Act.put,tS]
         refine tkH 9 rfl ?_
         try simp only [Act.put,tS]
         refine tkH 10 rfl ?_
         try simp only [Act.put,tS]
         refine wpAnyH_take (i:=11) (oi:=_) (v:=undef) rfl (by kernel_rfl) (by kernel_rfl) (by kernel_rfl) (fun _ _ _ h=>h) (Or.inr ⟨by rfl,rfl⟩) (by assumption) ?_
         try simp only [Act.put,tS]
         refine wpAnyH_take (i:=12) (oi:=_) (v:=undef) rfl (by kernel_rfl) (by kernel_rfl) (by kernel_rfl) (fun _ _ _ h=>h) (Or.inr ⟨by rfl,rfl⟩) (by assumption) ?_
         try simp only [Act.put,tS]
         refine wpAnyH_take (i:=13) (oi:=_) (v:=undef) rfl (by kernel_rfl) (by kernel_rfl) (by kernel_rfl) (fun _ _ _ h=>h) (Or.inr ⟨by rfl,rfl⟩) (by assumption) ?_
         try simp only [Act.put,tS]
         refine wpAnyH_take (i:=14) (oi:=_) (v:=undef) rfl (by kernel_rfl) (by kernel_rfl) (by kernel_rfl) (fun _ _ _ h=>h) (Or.inr ⟨by rfl,rfl⟩) (by assumption) ?_
         try simp only [Act.put,tS]
         refine wpAnyH_take (i:=15) (oi:=_) (v:=undef) rfl (by kernel_rfl) (by kernel_rfl) (by kernel_rfl) (fun _ _ _ h=>h) (Or.inr ⟨by rfl,rfl⟩) (by assumption) ?_
         try simp only [Act.put,tS]
         refine wpAnyH_take (i:=16) (oi:=_) (v:=undef) rfl (by kernel_rfl) (by kernel_rfl) (by kernel_rfl) (fun _ _ _ h=>h) (Or.inr ⟨by rfl,rfl⟩) (by assumption) ?_
         try simp only [Act.put,tS]
         refine wpAnyH_take (i:=17) (oi:=_) (v:=undef) rfl (by kernel_rfl) (by kernel_rfl) (by kernel_rfl) (fun _ _ _ h=>h) (Or.inr ⟨by rfl,rfl⟩) (by assumption) ?_
         try simp only [Act.put,tS]
         refine wpAnyH_take (i:=18) (oi:=_) (v:=undef) rfl (by kernel_rfl) (by kernel_rfl) (by kernel_rfl) (fun _ _ _ h=>h) (Or.inr ⟨by rfl,rfl⟩) (by assumption) ?_
         try simp only [Act.put,tS]
         refine wpAnyH_take (i:=19) (oi:=_) (v:=undef) rfl (by kernel_rfl) (by kernel_rfl) (by kernel_rfl) (fun _ _ _ h=>h) (Or.inr ⟨by rfl,rfl⟩) (by assumption) ?_
         try simp only [Act.put,tS]
         refine wpAnyH_take (i:=20) (oi:=_) (v:=undef) rfl (by kernel_rfl) (by kernel_rfl) (by kernel_rfl) (fun _ _ _ h=>h) (Or.inr ⟨by rfl,rfl⟩) (by assumption) ?_
         try simp only [Act.put,tS]
         refine wpAnyH_take (i:=21) (oi:=_) (v:=undef) rfl (by kernel_rfl) (by kernel_rfl) (by kernel_rfl) (fun _ _ _ h=>h) (Or.inr ⟨by rfl,rfl⟩) (by assumption) ?_
         try simp only [Act.put,tS]
         refine tkH 22 rfl ?_
         try simp only [Act.put,tS]
         refine tkH 23 rfl ?_
         try simp only [Act.put,tS]
         refine tkH 24 rfl ?_
         try simp only [Act.put,tS]
         refine tkH 25 rfl ?_
         try simp only [Act.put,tS]
         refine tkH 26 rfl ?_
         try simp only [Act.put,tS]
         refine tkH 27 rfl ?_
         try simp only [Act.put,tS]
         refine tkH 28 rfl ?_
         try simp only [Act.put,tS]
         refine wpAnyH_take (i:=29) (oi:=_) (v:=undef) rfl (by kernel_rfl) (by kernel_rfl) (by kernel_rfl) (fun _ _ _ h=>h) (Or.inr ⟨by rfl,rfl⟩) (by assumption) ?_
         try simp only [Act.put,tS]
         refine wpAnyH_take (i:=30) (oi:=_) (v:=undef) rfl (by kernel_rfl) (by kernel_rfl) (by kernel_rfl) (fun _ _ _ h=>h) (Or.inr ⟨by rfl,rfl⟩) (by assumption) ?_
         try simp only [Act.put,tS]
         refine wpAnyH_take (i:=31) (oi:=_) (v:=undef) rfl (by kernel_rfl) (by kernel_rfl) (by kernel_rfl) (fun _ _ _ h=>h) (Or.inr ⟨by rfl,rfl⟩) (by assumption) ?_
         try simp only [Act.put,tS]
         refine wpAnyH_take (i:=32) (oi:=_) (v:=undef) rfl (by kernel_rfl) (by kernel_rfl) (by kernel_rfl) (fun _ _ _ h=>h) (Or.inr ⟨by rfl,rfl⟩) (by assumption) ?_
         try simp only [Act.put,tS]
         refine wpAnyH_take (i:=33) (oi:=_) (v:=undef) rfl (by kernel_rfl) (by kernel_rfl) (by kernel_rfl) (fun _ _ _ h=>h) (Or.inr ⟨by rfl,rfl⟩) (by assumption) ?_
         try simp only [Act.put,tS]
         refine wpAnyH_take (i:=34) (oi:=_) (v:=undef) rfl (by kernel_rfl) (by kernel_rfl) (by kernel_rfl) (fun _ _ _ h=>h) (Or.inr ⟨by rfl,rfl⟩) (by assumption) ?_
         try simp only [Act.put,tS]
         refine wpAnyH_take (i:=35) (oi:=_) (v:=undef) rfl (by kernel_rfl) (by kernel_rfl) (by kernel_rfl) (fun _ _ _ h=>h) (Or.inr ⟨by rfl,rfl⟩) (by assumption) ?_
         try simp only [Act.put,tS]
         refine wpAnyH_take (i:=36) (oi:=_) (v:=undef) rfl (by kernel_rfl) (by kernel_rfl) (by kernel_rfl) (fun _ _ _ h=>h) (Or.inr ⟨by rfl,rfl⟩) (by assumption) ?_
         try simp only [Act.put,tS]
         refine wpAnyH_take (i:=37) (oi:=_) (v:=undef) rfl (by kernel_rfl) (by kernel_rfl) (by kernel_rfl) (fun _ _ _ h=>h) (Or.inr ⟨by rfl,rfl⟩) (by assumption) ?_
         try simp only [Act.put,tS]
         refine wpAnyH_take (i:=38) (oi:=_) (v:=undef) rfl (by kernel_rfl) (by kernel_rfl) (by kernel_rfl) (fun _ _ _ h=>h) (Or.inr ⟨by rfl,rfl⟩) (by assumption) ?_
         try simp only [Act.put,tS]
         refine wpAnyH_take (i:=39) (oi:=_) (v:=undef) rfl (by kernel_rfl) (by kernel_rfl) (by kernel_rfl) (fun _ _ _ h=>h) (Or.inr ⟨by rfl,rfl⟩) (by assumption) ?_
         try simp only [Act.put,tS]
         refine wpAnyH_take (i:=40) (oi:=_) (v:=undef) rfl (by kernel_rfl) (by kernel_rfl) (by kernel_rfl) (fun _ _ _ h=>h) (Or.inr ⟨by rfl,rfl⟩) (by assumption) ?_
         try simp only [Act.put,tS]
         refine tkH 41 rfl ?_
         try simp only [Act.put,tS]
         refine tkH 42 rfl ?_
         try simp only [Act.put,tS]
         refine wpAnyH_done (by kernel_rfl) ?_ _
         go_wp2_with fail
         go_meet
         case rel=>exact ⟨rfl,(Below.refl _ _).drew⟩
      obtain ⟨rfl,HYc⟩:=hcut
      have HYY:=hidIt (ext_trans HY1.out HYc.out)
      have HBX:=hidIt (ext_trans HX8.out (ext_trans HJ.out HYY.out))
      have HBJ:=hidIt (ext_trans HJ.out HYY.out)
      go_upto_region 21 with fail
      by_cases h0:0 < kN
      ·have h0':(0:Int) < (kN:Int):=by omega
       obtain ⟨e1,he1,hle1,hs1,hb1⟩:=hk3'.out h0'
       rw [show ((n3:Int) - (kN:Int)).toNat=m1 by have:=HM1.out;omega] at he1
       have HCE:=hidIt (fun w' hb=>(HOL.out w' hb).cell m1 e1 he1)
       obtain ⟨g,rfl,-,-,hnc,-,-⟩:=HCE.out wc HYY.out
       have HC1:Hid (∀ w',Below wc.heap.size wc w'→w'.cell? ⟨g,m1,none⟩=some (.int .i64 e1)):=fun w' hb=>by
        obtain ⟨g',e3,-,-,-,-,c⟩:=HCE.out w' (ext_trans HYY.out hb)
        cases e3
        exact c
       have SKE:Hid (∀ w',Below wc.heap.size wc w'→Calls Tryz.prog 36 #[.pointer (some ⟨t,0,none⟩),.int .i64 (kN:Nat)] w' fun e w''=>e=.returned (.int .i64 e1)∧Below w'.heap.size w' w''):=fun w' hb=>by
        have:=SK.out w' (kN:Nat) (ext_trans HBX.out hb)
        rwa [hs1] at this
       have BRE:Hid (∀ w',Below wc.heap.size wc w'→Calls Tryz.prog 35 #[.pointer (some ⟨t,0,none⟩),.int .i64 e1] w' fun e w''=>e=.returned (.int .i64 (kN:Nat))∧Below w'.heap.size w' w''):=fun w' hb=>by
        have:=BR.out w' e1 (ext_trans HBX.out hb)
        rwa [hb1] at this
       have hm1a:(m1:Int) < (n3:Int):=by have:=HM1.out;have:=HKL.out;omega
       have hm1b:(0:Int)≤(m1:Int):=by omega
       have c1:=HC1.out wc (Below.refl _ _)
       clear he1 hle1 hs1 hb1 HCE
       refine wp_region_held_drew (S:=fun w''=>w''.cell? ⟨g,m1,none⟩=some (.int .i64 e1)) (by kernel_rfl) (c1) (fun hHeld=>?_)
       refine tkH 0 rfl ?_
       try simp only [Act.put,tS]
       refine tkH 1 rfl ?_
       try simp only [Act.put,tS]
       refine tkH 2 rfl ?_
       try simp only [Act.put,tS]
       refine tkH 3 rfl ?_
       try simp only [Act.put,tS]
       refine tkH 4 rfl ?_
       try simp only [Act.put,tS]
       refine tkH 6 rfl ?_
       try simp only [Act.put,tS]
       refine tkH 7 rfl ?_
       try simp only [Act.put,tS]
       refine tkH 8 rfl ?_
       try simp only [Act.put,tS]
       refine tkH 9 rfl ?_
       try simp only [Act.put,tS]
       refine tkH 10 rfl ?_
       try simp only [Act.put,tS]
       refine tkH 11 rfl ?_
       try simp only [Act.put,tS]
       refine rdH 5 rfl fun K hK=>?_
       go_simp
       refine (SKE.out _ (Below.drew (Below.refl _ _))).mono ?_;clear c1;rintro e y2 ⟨rfl,hb⟩;have HY2:=hidIt (ext_trans (Below.drew (Below.refl wc.heap.size wc)) hb);clear hb;have c1:=HC1.out y2 HY2.out;try dsimp only
       refine hK.out _ _ ?_ (fun hHeld=>?_)
       ·(try simp only [World.cell?_drew]);exact c1
       clear hK K
       try simp only [Act.put,tS]
       refine tkH 12 rfl ?_
       try simp only [Act.put,tS]
       refine tkH 13 rfl ?_
       try simp only [Act.put,tS]
       refine tkH 14 rfl ?_
       try simp only [Act.put,tS]
       refine tkH 15 rfl ?_
       try simp only [Act.put,tS]
       refine tkH 16 rfl ?_
       try simp only [Act.put,tS]
       refine tkH 17 rfl ?_
       try simp only [Act.put,tS]
       refine tkH 18 rfl ?_
       try simp only [Act.put,tS]
       refine tkH 19 rfl ?_
       try simp only [Act.put,tS]
       refine tkH 20 rfl ?_
       try simp only [Act.put,tS]
       refine tkH 23 rfl ?_
       try simp only [Act.put,tS]
       refine rdH 21 rfl fun K hK=>?_
       go_simp
       refine (SKE.out _ HY2.out).mono ?_;clear c1;rintro e y3 ⟨rfl,hb⟩;have HY3:=hidIt (ext_trans HY2.out hb);clear hb;have c1:=HC1.out y3 HY3.out;try dsimp only
       refine hK.out _ _ ?_ (fun hHeld=>?_)
       ·(try simp only [World.cell?_drew]);exact c1
       clear hK K
       try simp only [Act.put,tS]
       refine rdH 22 rfl fun K hK=>?_
       go_simp
       refine (BRE.out _ HY3.out).mono ?_;clear c1;rintro e y4 ⟨rfl,hb⟩;have HY4:=hidIt (ext_trans HY3.out hb);clear hb;have c1:=HC1.out y4 HY4.out;try dsimp only
       refine hK.out _ _ ?_ (fun hHeld=>?_)
       ·(try simp only [World.cell?_drew]);exact c1
       clear hK K
       try simp only [Act.put,tS]
       refine tkH 24 rfl ?_
       try simp only [Act.put,tS]
       refine tkH 25 rfl ?_
       try simp only [Act.put,tS]
       refine tkH 26 rfl ?_
       try simp only [Act.put,tS]
       refine wpAnyH_done (by kernel_rfl) ?_ _
       go_wp2_with fail
       go_roundg (az.length - (j + 1))
       case rel=>exact ⟨j + 1,by omega,by go_num,ext_trans HBJ.out HY4.out⟩
       case measure=>omega
      ·have h0':¬ (0:Int) < (kN:Int):=by omega
       refine wp_region_held_drew (S:=fun _=>True) (by kernel_rfl) (trivial) (fun hHeld=>?_)
       refine tkH 0 rfl ?_
       try simp only [Act.put,tS]
       refine tkH 1 rfl ?_
       try simp only [Act.put,tS]
       refine tkH 2 rfl ?_
       try simp only [Act.put,tS]
       refine wpAnyH_take (i:=3) (oi:=_) (v:=undef) rfl (by kernel_rfl) (by kernel_rfl) (by kernel_rfl) (fun _ _ _ h=>h) (Or.inr ⟨by rfl,rfl⟩) (by assumption) ?_
       try simp only [Act.put,tS]
       refine wpAnyH_take (i:=4) (oi:=_) (v:=undef) rfl (by kernel_rfl) (by kernel_rfl) (by kernel_rfl) (fun _ _ _ h=>h) (Or.inr ⟨by rfl,rfl⟩) (by assumption) ?_
       try simp only [Act.put,tS]
       refine wpAnyH_take (i:=5) (oi:=_) (v:=undef) rfl (by kernel_rfl) (by kernel_rfl) (by kernel_rfl) (fun _ _ _ h=>h) (Or.inr ⟨by rfl,rfl⟩) (by assumption) ?_
       try simp only [Act.put,tS]
       refine wpAnyH_take (i:=6) (oi:=_) (v:=undef) rfl (by kernel_rfl) (by kernel_rfl) (by kernel_rfl) (fun _ _ _ h=>h) (Or.inr ⟨by rfl,rfl⟩) (by assumption) ?_
       try simp only [Act.put,tS]
       refine wpAnyH_take (i:=7) (oi:=_) (v:=undef) rfl (by kernel_rfl) (by kernel_rfl) (by kernel_rfl) (fun _ _ _ h=>h) (Or.inr ⟨by rfl,rfl⟩) (by assumption) ?_
       try simp only [Act.put,tS]
       refine wpAnyH_take (i:=8) (oi:=_) (v:=undef) rfl (by kernel_rfl) (by kernel_rfl) (by kernel_rfl) (fun _ _ _ h=>h) (Or.inr ⟨by rfl,rfl⟩) (by assumption) ?_
       try simp only [Act.put,tS]
       refine wpAnyH_take (i:=9) (oi:=_) (v:=undef) rfl (by kernel_rfl) (by kernel_rfl) (by kernel_rfl) (fun _ _ _ h=>h) (Or.inr ⟨by rfl,rfl⟩) (by assumption) ?_
       try simp only [Act.put,tS]
       refine wpAnyH_take (i:=10) (oi:=_) (v:=undef) rfl (by kernel_rfl) (by kernel_rfl) (by kernel_rfl) (fun _ _ _ h=>h) (Or.inr ⟨by rfl,rfl⟩) (by assumption) ?_
       try simp only [Act.put,tS]
       refine wpAnyH_take (i:=11) (oi:=_) (v:=undef) rfl (by kernel_rfl) (by kernel_rfl) (by kernel_rfl) (fun _ _ _ h=>h) (Or.inr ⟨by rfl,rfl⟩) (by assumption) ?_
       try simp only [Act.put,tS]
       refine wpAnyH_take (i:=12) (oi:=_) (v:=undef) rfl (by kernel_rfl) (by kernel_rfl) (by kernel_rfl) (fun _ _ _ h=>h) (Or.inr ⟨by rfl,rfl⟩) (by assumption) ?_
       try simp only [Act.put,tS]
       refine tkH 13 rfl ?_
       try simp only [Act.put,tS]
       refine tkH 14 rfl ?_
       try simp only [Act.put,tS]
       refine tkH 15 rfl ?_
       try simp only [Act.put,tS]
       refine tkH 16 rfl ?_
       try simp only [Act.put,tS]
       refine tkH 17 rfl ?_
       try simp only [Act.put,tS]
       refine wpAnyH_take (i:=18) (oi:=_) (v:=undef) rfl (by kernel_rfl) (by kernel_rfl) (by kernel_rfl) (fun _ _ _ h=>h) (Or.inr ⟨by rfl,rfl⟩) (by assumption) ?_
       try simp only [Act.put,tS]
       refine wpAnyH_take (i:=19) (oi:=_) (v:=undef) rfl (by kernel_rfl) (by kernel_rfl) (by kernel_rfl) (fun _ _ _ h=>h) (Or.inr ⟨by rfl,rfl⟩) (by assumption) ?_
       try simp only [Act.put,tS]
       refine wpAnyH_take (i:=20) (oi:=_) (v:=undef) rfl (by kernel_rfl) (by kernel_rfl) (by kernel_rfl) (fun _ _ _ h=>h) (Or.inr ⟨by rfl,rfl⟩) (by assumption) ?_
       try simp only [Act.put,tS]
       refine wpAnyH_take (i:=21) (oi:=_) (v:=undef) rfl (by kernel_rfl) (by kernel_rfl) (by kernel_rfl) (fun _ _ _ h=>h) (Or.inr ⟨by rfl,rfl⟩) (by assumption) ?_
       try simp only [Act.put,tS]
       refine wpAnyH_take (i:=22) (oi:=_) (v:=undef) rfl (by kernel_rfl) (by kernel_rfl) (by kernel_rfl) (fun _ _ _ h=>h) (Or.inr ⟨by rfl,rfl⟩) (by assumption) ?_
       try simp only [Act.put,tS]
       refine wpAnyH_take (i:=23) (oi:=_) (v:=undef) rfl (by kernel_rfl) (by kernel_rfl) (by kernel_rfl) (fun _ _ _ h=>h) (Or.inr ⟨by rfl,rfl⟩) (by assumption) ?_
       try simp only [Act.put,tS]
       refine wpAnyH_take (i:=24) (oi:=_) (v:=undef) rfl (by kernel_rfl) (by kernel_rfl) (by kernel_rfl) (fun _ _ _ h=>h) (Or.inr ⟨by rfl,rfl⟩) (by assumption) ?_
       try simp only [Act.put,tS]
       refine tkH 25 rfl ?_
       try simp only [Act.put,tS]
       refine tkH 26 rfl ?_
       try simp only [Act.put,tS]
       refine wpAnyH_done (by kernel_rfl) ?_ _
       go_wp2_with fail
       go_roundg (az.length - (j + 1))
       case rel=>exact ⟨j + 1,by omega,by go_num,ext_trans HBJ.out (Below.refl _ _).drew⟩
       case measure=>omega
     ·have hjl2:¬ (j:Int) < (az.length:Int):=by omega
      have HBW:=hidIt (ext_trans HX8.out HJ.out)
      have HTX:=hidIt (HI.out.1.ext HBW.out)
      have HBB:=hidIt (ext_trans HI.out.2 HBW.out)
      by_cases hie:i < ess.length
      ·have hie2:(i:Int) < (ess.length:Int):=by omega
       obtain ⟨es,hes⟩:∃ es,ess[i]?=some es:=⟨_,List.getElem?_eq_getElem hie⟩
       obtain ⟨b,o,va,vc,rfl,hbl,ce0,hed,hbn⟩:=HE'.out i es hes
       have ce:wr.cell? ⟨b,o + i,none⟩=some (.slice va es.length vc):=(HBB.out.cell (p:=⟨b,o + i,none⟩) hbl).trans ce0
       have CG:=hidIt (changed_any enc 65536 L w wr t qs _ es HTX.out hed HBB.out htl hbn)
       clear ce0 hed hbn hes hj
       go_wp2_with (go_at_call 30;refine CG.out.mono ?_;clear ce;rintro e w8 ⟨rfl,hc8⟩;have HC8:=hidIt hc8;clear hc8;(try dsimp only))
       obtain ⟨ps',hT8,hs8,hk8⟩:=HC8.out
       go_roundg (ess.length + 1 - (i + 1))
       case rel=>exact ⟨i + 1,ps',by omega,by go_num,hT8,HBB.out.trans (hk8.below HBB.out.size (fun k e=>by omega))⟩
       case measure=>omega
      ·have hie2:¬ (i:Int) < (ess.length:Int):=by omega
       clear hj
       go_wp2_with fail
       go_roundg (ess.length + 1 - (i + 1))
       case rel=>exact ⟨i + 1,qs,by omega,by go_num,HTX.out,HBB.out⟩
       case measure=>omega
   ·have hil2:¬ (i:Int)≤(ess.length:Int):=by omega
    go_wp2_with fail
    go_ret
    exact ⟨rfl,HI.out.2⟩
 ·have KN:Hid (∀ w',Calls Tryz.prog 25 #[.int .i64 enc,.slice la L.length lc] w' fun e w''=>e=.returned (.bool false)∧w''=w'):=fun w'=>known_no enc la L.length lc w' hLm hkn
  clear hL hE he3 hlv hkn hA
  go_enter Tryz.func5,Tryz.ntmps5
  go_wp2_with (first
   | (go_at_call 16;refine (AB.out w).mono ?_;rintro e w1 ⟨rfl,hb1⟩;have HB1:=hidIt hb1;clear hb1;(try dsimp only))
   | (go_at_call 25;refine (KN.out w1).mono ?_;rintro e w1' ⟨rfl,hw1⟩;rw [hw1];clear hw1;(try dsimp only)))
  go_ret
  exact ⟨rfl,HB1.out⟩
end Go.Proofs.YtdkpkncolpapoaaGreat.P
