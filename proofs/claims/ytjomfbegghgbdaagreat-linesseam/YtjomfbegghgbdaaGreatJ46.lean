import Derived.Test.YtjomfbegghgbdaaGreatJ00
import Derived.Test.YtjomfbegghgbdaaGreatJ39
namespace Go.Proofs.YtjomfbegghgbdaaGreat.P
open Go.RowKit
set_option maxRecDepth 100000 in
set_option maxHeartbeats 16000000 in
theorem lseam_any (x0:Int) (ad:Option Addr) (nd cd:Nat) (D:List Int) (z:Int) (W:World) (hD:Rd .u8 W (.slice ad nd cd) D) (hB:Byt D) (hz:-9223372036854775808≤z∧z≤9223372036854775807) :
  Calls Tryz.prog 4 #[.agg #[.int .i64 x0,.slice ad nd cd],.int .i64 z] W fun e W'=>e=.returned (.bool true)∧Below W.heap.size W W':=by
 obtain ⟨w0,hw0,hb0⟩:∃ w0,w0=W.alloc (.cells #[.int .i64 x0,.slice ad nd cd] 24)∧Below W.heap.size W w0:=⟨_,rfl,ext_alloc (Below.refl _ _) _⟩
 have OP:=hidIt (opened_any x0 (.slice ad nd cd) D w0 (hD.ext hb0) hB)
 rw [hw0] at OP
 have HB0:=hidIt hb0
 have HW0:=hidIt hw0
 clear hw0 hb0 hD hB
 go_enter Tryz.func4,Tryz.ntmps4
 go_upto_region 2 with (go_at_call 18;refine OP.out.mono ?_;rintro e w1 ⟨t,v,rfl,ho,hb⟩;obtain ⟨enc,A,hen,hov,htz,hln,htw⟩:=ho.out;obtain ⟨av,cv,rfl⟩:=hov.form;have HTZ:=hidIt htz;have HEN:=hidIt hen;have HLN:=hidIt hln;have HTW:=hidIt htw;have HB1:=hidIt hb;have hlA:=htz.len;clear ho hb hen hov htz hln htw;(try dsimp only))
 rw [← HW0.out] at HTW HB1
 generalize hw2:World.alloc _ _=w2
 have HS2:Hid (Sm enc W w1.heap.size t (.slice av A.length cv) w2 A):=by
  unfold Hid
  have hb:Below w1.heap.size w1 w2:=by rw [← hw2];exact ext_alloc (Below.refl _ _) _
  have h1:Below W.heap.size W w1:=HB0.out.trans (HB1.out.mono HB0.out.size)
  exact ⟨by rw [← hw2];exact heap_alloc_new _ _,HTZ.out.ext hb,h1.trans (hb.mono h1.size),h1.size,Nat.le_trans HB0.out.size HTW.out⟩
 have HLV:Hid (w2.cell? ⟨w1.heap.size,1,none⟩=some (.slice av A.length cv)):=(cells2 HS2.out.bx).2.2.1
 clear hw2 OP HTZ HTW HB1 HW0 HB0 w0
 generalize w1.heap.size=bo at *
 have s0:=HS2.out.cell
 have s1:=HLV.out
 have CN:=hidIt (Count_z enc w2 t A HS2.out.tz)
 have hcp:=cnt_pos enc A
 generalize cnt enc A=cn at *
 go_upto_region 4 with (go_at_call 19;refine CN.out.mono ?_;rintro e w3 ⟨rfl,hb⟩;have HB3:=hidIt hb;clear hb;(try dsimp only))
 have HS3:=hidIt (HS2.out.ext HB3.out)
 have s0:=HS3.out.cell
 have s1:=(cells2 HS3.out.bx).2.2.1
 clear CN hcp HB3 HS2 HLV
 have WI:=hidIt (within_any z A.length w3 hz (by omega))
 go_upto_region 5 with (go_at_call 22;refine WI.out.mono ?_;rintro e w4 ⟨p,rfl,hp,hw⟩;rw [hw];clear hw;(try dsimp only))
 have HP:=hidIt hp
 have CH1:=hidIt (edit_z HS3.out p p 10 (Nat.le_refl _) hp (fits_pln HEN.out (.inl rfl)) (by have:=HLN.out;omega))
 have HL1:Hid (ln enc (spl A p p [10])≤50004):=by have h1:=ln_spl enc A [10] p p (Nat.le_refl _);have h2:=HLN.out;unfold Hid;simp only [List.length_singleton] at h1;omega
 have HL2:Hid (ln enc (sm2 A p)≤50008):=by have h1:=ln_spl enc (spl A p p [10]) [13] p p (Nat.le_refl _);rw [sm_two A p hp] at h1;have h2:=HL1.out;unfold Hid;simp only [List.length_singleton] at h1;omega
 have HL3:Hid (ln enc (sm3 A p)≤50012):=by have h1:=ln_spl enc (sm2 A p) [120] (p + 1) (p + 1) (Nat.le_refl _);rw [sm_three A p hp] at h1;have h2:=HL2.out;unfold Hid;simp only [List.length_singleton] at h1;omega
 have CH2:Hid (∀ w',Sm enc W bo t (.slice av A.length cv) w' (spl A p p [10])→Calls Tryz.prog 34 #[.pointer (some ⟨t,0,none⟩),.slice (some ⟨w'.heap.size + 1,0,none⟩) 1 1] ((w'.alloc (.cells #[.int .i64 13] 3)).alloc (.cells #[.int .i64 (p:Nat),.int .i64 (p:Nat),.slice (some ⟨w'.heap.size,0,none⟩) 1 1] 64)) fun e w''=>e=.returned (.int .i64 0)∧Sm enc W bo t (.slice av A.length cv) w'' (sm2 A p)):=fun w' hs=>by
  refine (edit_z hs p p 13 (Nat.le_refl _) (by rw [spl_len A _ p HP.out];omega) (fits_pln HEN.out (.inr (.inl rfl))) (by have:=HL1.out;omega)).mono ?_
  rintro e w'' ⟨rfl,h1,_⟩
  rw [sm_two A p HP.out] at h1
  exact ⟨rfl,h1⟩
 go_upto_region 7 with (first | (go_at_call 34;refine CH1.out.mono ?_;rintro e w5 ⟨rfl,h5,_⟩;have HS5:=hidIt h5;clear h5 CH1 s0 s1;have s0:=HS5.out.cell;(try dsimp only)) | (go_at_call 34;refine (CH2.out w5 HS5.out).mono ?_;rintro e w6 ⟨rfl,h6⟩;have HS6:=hidIt h6;clear h6 CH2 s0;(try dsimp only)))
 clear HS3 HS5 WI HLN HL1
 obtain ⟨hle,f,hla⟩:=sm2_line (enc:=enc) (A:=A) HP.out
 have HMID:=hidIt (sm2_mid (enc:=enc) (A:=A) HP.out)
 have OF2:Hid (∀ (z:Nat) w',Sm enc W bo t (.slice av A.length cv) w' (sm2 A p)→Calls Tryz.prog 31 #[.pointer (some ⟨t,0,none⟩),.int .i64 (z:Nat)] w' fun e w''=>e=.returned (.int .i64 (bAt enc (sm2 A p) z))∧Below w'.heap.size w' w''):=fun z w' hs=>by
  have h:=Of_z enc w' t (sm2 A p) (z:Nat) hs.tz
  rw [brk_at,Int.toNat_natCast] at h
  exact h
 obtain ⟨kk,hkk⟩:∃ kk,bAt enc (sm2 A p) p=kk:=⟨_,rfl⟩
 rw [hkk] at hle hla HMID
 have AT2:Hid (∀ w',Sm enc W bo t (.slice av A.length cv) w' (sm2 A p)→Calls Tryz.prog 27 #[.pointer (some ⟨t,0,none⟩),.int .i64 kk] w' fun e w''=>e=.returned (.tuple #[.agg #[.int .i64 f,.int .i64 (p:Nat),.int .i64 ((p:Int) + 2),.int .i64 2],.int .i64 0])∧Below w'.heap.size w' w''):=fun w' hs=>by
  have h:=At_z enc w' t (sm2 A p) kk hs.tz
  rw [hle,hla] at h
  rw [Int.natCast_add] at h
  exact h
 have O1:Hid (∀ w',Sm enc W bo t (.slice av A.length cv) w' (sm2 A p)→Calls Tryz.prog 31 #[.pointer (some ⟨t,0,none⟩),.int .i64 (p:Nat)] w' fun e w''=>e=.returned (.int .i64 kk)∧Below w'.heap.size w' w''):=fun w' hs=>by have h:=OF2.out p w' hs;rw [hkk] at h;exact h
 have O2:Hid (∀ w',Sm enc W bo t (.slice av A.length cv) w' (sm2 A p)→Calls Tryz.prog 31 #[.pointer (some ⟨t,0,none⟩),.int .i64 ((p:Int) + 1)] w' fun e w''=>e=.returned (.int .i64 kk)∧Below w'.heap.size w' w''):=fun w' hs=>by have h:=OF2.out (p + 1) w' hs;rw [HMID.out,Int.natCast_add] at h;exact h
 clear hle hla OF2 HMID hkk
 have ks:=HS6.out.cell
 go_cut [7,8] from 50 to 59 (fun q e wF=>∃ b:Nat,q=.pointer (some ⟨b,0,none⟩)∧e=.int .i64 0∧Hid (wF.heap[b]?=some (.cells #[.int .i64 f,.int .i64 (p:Nat),.int .i64 ((p:Int) + 2),.int .i64 2] 50 (0,0))∧Sm enc W bo t (.slice av A.length cv) wF (sm2 A p)))
 case first =>
  refine wp_region_held_drew (S:=fun w''=>w''.cell? ⟨bo,0,none⟩=some (.pointer (some ⟨t,0,none⟩))) (by kernel_rfl) (ks) (fun hHeld=>?_)
  refine tkH 0 rfl ?_
  try simp only [Act.put,tS]
  refine tkH 1 rfl ?_
  try simp only [Act.put,tS]
  refine tkH 2 rfl ?_
  try simp only [Act.put,tS]
  refine tkH 3 rfl ?_
  try simp only [Act.put,tS]
  refine tkH 4 rfl ?_
  try simp only [Act.put,tS]
  refine wpAnyH_ready (rs:=[5,10]) (by kernel_rfl) (by simp) ?_
  refine (AllReadyH.cons (o:=_) rfl (fun K hK=>?_) (AllReadyH.cons (o:=_) rfl (fun K hK=>?_) AllReadyH.nil))
  ·skip
   go_simp
   refine (O1.out _ (HS6.out.ext (Below.drew (Below.refl _ _)))).mono ?_;rintro e y1 ⟨rfl,hb⟩;have Hy1:=hidIt ((HS6.out.ext (Below.drew (Below.refl _ _))).ext hb);clear hb ks;have ks:=Hy1.out.cell;try dsimp only
   refine hK.out _ _ ?_ (fun hHeld=>?_)
   ·(try simp only [World.cell?_drew]);exact ks
   clear hK K
   try simp only [Act.put,tS]
   refine wpAnyH_ready (rs:=[6,10]) (by kernel_rfl) (by simp) ?_
   refine (AllReadyH.cons (o:=_) rfl (fun K hK=>?_) (AllReadyH.cons (o:=_) rfl (fun K hK=>?_) AllReadyH.nil))
   ·skip
    go_simp
    refine (AT2.out _ (Hy1.out)).mono ?_;rintro e y2 ⟨rfl,hb⟩;have Hy2:=hidIt ((Hy1.out).ext hb);clear hb ks;have ks:=Hy2.out.cell;try dsimp only
    refine hK.out _ _ ?_ (fun hHeld=>?_)
    ·(try simp only [World.cell?_drew]);exact ks
    clear hK K
    try simp only [Act.put,tS]
    refine tkH 7 rfl ?_
    try simp only [Act.put,tS]
    refine tkH 8 rfl ?_
    try simp only [Act.put,tS]
    refine tkH 9 rfl ?_
    try simp only [Act.put,tS]
    refine rdH 10 rfl fun K hK=>?_
    go_simp
    generalize hwA:World.alloc _ _=y3;have hbA:Below y2.heap.size y2 y3:=(by rw [← hwA];exact ext_alloc (Below.refl _ _) _)
    have HN:Hid (y3.heap[y2.heap.size]?=some (.cells #[.int .i64 0,.int .i64 0,.int .i64 0,.int .i64 0] 50 (0,0))):=(by unfold Hid;rw [← hwA];exact heap_alloc_new _ _)
    have Hy3:=hidIt ((Hy2.out).ext hbA)
    have hge:=hidIt ((Hy2.out).bl.size)
    clear hwA hbA ks;have ks:=Hy3.out.cell
    obtain ⟨_,d0,d1,d2,d3,df⟩:=cells4 HN.out
    refine hK.out _ _ ?_ (fun hHeld=>?_)
    ·(try simp only [World.cell?_drew]);exact ks
    clear hK K
    try simp only [Act.put,tS]
    refine rdH 11 rfl fun K hK=>?_
    go_simp
    generalize hwS:World.setCell _ _ _=yF
    obtain ⟨p1,p2⟩:=lay4s HN.out (.int .i64 f) (.int .i64 (p:Nat)) (.int .i64 ((p:Int) + 2)) (.int .i64 2)
    have HNT:Hid (Typ 50 y3 _):=⟨_,HN.out⟩
    rw [hwS] at p1 p2
    have HP1:=hidIt p1
    have HyF:=hidIt (Hy3.out.oth p2 HNT.out hge.out)
    clear hwS p1 p2 d0 d1 d2 d3 df ks;have ks:=HyF.out.cell
    refine hK.out _ _ ?_ (fun hHeld=>?_)
    ·(try simp only [World.cell?_drew]);exact ks
    clear hK K
    try simp only [Act.put,tS]
    refine tkH 12 rfl ?_
    try simp only [Act.put,tS]
    refine wpAnyH_done (by kernel_rfl) ?_ _
    go_wp2_with fail
    go_meet
    case rel=>exact ⟨_,rfl,rfl,by first | exact HP1.out | exact (World.heap_drew ▸ HP1.out),by first | exact HyF.out | exact HyF.out.ext (Below.drew (Below.refl _ _))⟩
   ·skip
    go_simp
    generalize hwA:World.alloc _ _=y2;have hbA:Below y1.heap.size y1 y2:=(by rw [← hwA];exact ext_alloc (Below.refl _ _) _)
    have HN:Hid (y2.heap[y1.heap.size]?=some (.cells #[.int .i64 0,.int .i64 0,.int .i64 0,.int .i64 0] 50 (0,0))):=(by unfold Hid;rw [← hwA];exact heap_alloc_new _ _)
    have Hy2:=hidIt ((Hy1.out).ext hbA)
    have hge:=hidIt ((Hy1.out).bl.size)
    clear hwA hbA ks;have ks:=Hy2.out.cell
    refine hK.out _ _ ?_ (fun hHeld=>?_)
    ·(try simp only [World.cell?_drew]);exact ks
    clear hK K
    try simp only [Act.put,tS]
    refine rdH 6 rfl fun K hK=>?_
    go_simp
    refine (AT2.out _ (Hy2.out)).mono ?_;rintro e y3 ⟨rfl,hb⟩;replace HN:=hidIt ((hb.block _ (Array.getElem?_eq_some_iff.1 HN.out).1).trans HN.out);have Hy3:=hidIt ((Hy2.out).ext hb);clear hb ks;have ks:=Hy3.out.cell;try dsimp only
    obtain ⟨_,d0,d1,d2,d3,df⟩:=cells4 HN.out
    refine hK.out _ _ ?_ (fun hHeld=>?_)
    ·(try simp only [World.cell?_drew]);exact ks
    clear hK K
    try simp only [Act.put,tS]
    refine tkH 7 rfl ?_
    try simp only [Act.put,tS]
    refine tkH 8 rfl ?_
    try simp only [Act.put,tS]
    refine tkH 9 rfl ?_
    try simp only [Act.put,tS]
    refine rdH 11 rfl fun K hK=>?_
    go_simp
    generalize hwS:World.setCell _ _ _=yF
    obtain ⟨p1,p2⟩:=lay4s HN.out (.int .i64 f) (.int .i64 (p:Nat)) (.int .i64 ((p:Int) + 2)) (.int .i64 2)
    have HNT:Hid (Typ 50 y3 _):=⟨_,HN.out⟩
    rw [hwS] at p1 p2
    have HP1:=hidIt p1
    have HyF:=hidIt (Hy3.out.oth p2 HNT.out hge.out)
    clear hwS p1 p2 d0 d1 d2 d3 df ks;have ks:=HyF.out.cell
    refine hK.out _ _ ?_ (fun hHeld=>?_)
    ·(try simp only [World.cell?_drew]);exact ks
    clear hK K
    try simp only [Act.put,tS]
    refine tkH 12 rfl ?_
    try simp only [Act.put,tS]
    refine wpAnyH_done (by kernel_rfl) ?_ _
    go_wp2_with fail
    go_meet
    case rel=>exact ⟨_,rfl,rfl,by first | exact HP1.out | exact (World.heap_drew ▸ HP1.out),by first | exact HyF.out | exact HyF.out.ext (Below.drew (Below.refl _ _))⟩
  ·skip
   go_simp
   generalize hwA:World.alloc _ _=y1;have hbA:Below w6.heap.size w6 y1:=(by rw [← hwA];exact ext_alloc (Below.refl _ _) _)
   have HN:Hid (y1.heap[w6.heap.size]?=some (.cells #[.int .i64 0,.int .i64 0,.int .i64 0,.int .i64 0] 50 (0,0))):=(by unfold Hid;rw [← hwA];exact heap_alloc_new _ _)
   have Hy1:=hidIt ((HS6.out).ext hbA)
   have hge:=hidIt ((HS6.out).bl.size)
   clear hwA hbA ks;have ks:=Hy1.out.cell
   refine hK.out _ _ ?_ (fun hHeld=>?_)
   ·(try simp only [World.cell?_drew]);exact ks
   clear hK K
   try simp only [Act.put,tS]
   refine rdH 5 rfl fun K hK=>?_
   go_simp
   refine (O1.out _ (Hy1.out.ext (Below.drew (Below.refl _ _)))).mono ?_;rintro e y2 ⟨rfl,hb⟩;replace HN:=hidIt ((hb.block _ (Array.getElem?_eq_some_iff.1 HN.out).1).trans HN.out);have Hy2:=hidIt ((Hy1.out.ext (Below.drew (Below.refl _ _))).ext hb);clear hb ks;have ks:=Hy2.out.cell;try dsimp only
   refine hK.out _ _ ?_ (fun hHeld=>?_)
   ·(try simp only [World.cell?_drew]);exact ks
   clear hK K
   try simp only [Act.put,tS]
   refine rdH 6 rfl fun K hK=>?_
   go_simp
   refine (AT2.out _ (Hy2.out)).mono ?_;rintro e y3 ⟨rfl,hb⟩;replace HN:=hidIt ((hb.block _ (Array.getElem?_eq_some_iff.1 HN.out).1).trans HN.out);have Hy3:=hidIt ((Hy2.out).ext hb);clear hb ks;have ks:=Hy3.out.cell;try dsimp only
   obtain ⟨_,d0,d1,d2,d3,df⟩:=cells4 HN.out
   refine hK.out _ _ ?_ (fun hHeld=>?_)
   ·(try simp only [World.cell?_drew]);exact ks
   clear hK K
   try simp only [Act.put,tS]
   refine tkH 7 rfl ?_
   try simp only [Act.put,tS]
   refine tkH 8 rfl ?_
   try simp only [Act.put,tS]
   refine tkH 9 rfl ?_
   try simp only [Act.put,tS]
   refine rdH 11 rfl fun K hK=>?_
   go_simp
   generalize hwS:World.setCell _ _ _=yF
   obtain ⟨p1,p2⟩:=lay4s HN.out (.int .i64 f) (.int .i64 (p:Nat)) (.int .i64 ((p:Int) + 2)) (.int .i64 2)
   have HNT:Hid (Typ 50 y3 _):=⟨_,HN.out⟩
   rw [hwS] at p1 p2
   have HP1:=hidIt p1
   have HyF:=hidIt (Hy3.out.oth p2 HNT.out hge.out)
   clear hwS p1 p2 d0 d1 d2 d3 df ks;have ks:=HyF.out.cell
   refine hK.out _ _ ?_ (fun hHeld=>?_)
   ·(try simp only [World.cell?_drew]);exact ks
   clear hK K
   try simp only [Act.put,tS]
   refine tkH 12 rfl ?_
   try simp only [Act.put,tS]
   refine wpAnyH_done (by kernel_rfl) ?_ _
   go_wp2_with fail
   go_meet
   case rel=>exact ⟨_,rfl,rfl,by first | exact HP1.out | exact (World.heap_drew ▸ HP1.out),by first | exact HyF.out | exact HyF.out.ext (Below.drew (Below.refl _ _))⟩
 case rest =>
  obtain ⟨bl,rfl,rfl,HF⟩:=hcut
  have HS7:Hid (Sl enc W bo t (.slice av A.length cv) bl f p wc (sm2 A p)):=⟨HF.out.2,HF.out.1⟩
  have hwp1:IntKind.i64.wrap ((p:Int) + 1)=(p:Int) + 1:=by rw [IntKind.wrap_i64];omega
  have hwp2:IntKind.i64.wrap ((p:Int) + 2)=(p:Int) + 2:=by rw [IntKind.wrap_i64];omega
  have L1:Hid (∀ w',Sl enc W bo t (.slice av A.length cv) bl f p w' (sm2 A p)→Calls Tryz.prog 31 #[.pointer (some ⟨t,0,none⟩),.int .i64 (p:Nat)] w' fun e w''=>e=.returned (.int .i64 kk)∧Below w'.heap.size w' w''):=fun w' hs=>O1.out w' hs.s
  have L2:Hid (∀ w',Sl enc W bo t (.slice av A.length cv) bl f p w' (sm2 A p)→Calls Tryz.prog 31 #[.pointer (some ⟨t,0,none⟩),.int .i64 ((p:Int) + 1)] w' fun e w''=>e=.returned (.int .i64 kk)∧Below w'.heap.size w' w''):=fun w' hs=>O2.out w' hs.s
  clear HF HS6 ks O2
  have ks:=HS7.out.cs
  go_upto_region 8 with fail
  refine wp_region_held_drew (S:=fun w''=>w''.cell? ⟨bo,0,none⟩=some (.pointer (some ⟨t,0,none⟩))∧w''.cell? ⟨bl,1,none⟩=some (.int .i64 (p:Nat))∧w''.cell? ⟨bl,2,none⟩=some (.int .i64 ((p:Int) + 2))∧w''.cell? ⟨bl,3,none⟩=some (.int .i64 2)) (by kernel_rfl) (ks) (fun hHeld=>?_)
  refine tkH 0 rfl ?_
  try simp only [Act.put,tS]
  refine tkH 1 rfl ?_
  try simp only [Act.put,tS]
  refine tkH 2 rfl ?_
  try simp only [Act.put,tS]
  refine tkH 3 rfl ?_
  try simp only [Act.put,tS]
  refine tkH 4 rfl ?_
  try simp only [Act.put,tS]
  refine tkH 5 rfl ?_
  try simp only [Act.put,tS]
  refine tkH 6 rfl ?_
  try simp only [Act.put,tS]
  refine tkH 7 rfl ?_
  try simp only [Act.put,tS]
  refine tkH 8 rfl ?_
  try simp only [Act.put,tS]
  refine tkH 9 rfl ?_
  try simp only [Act.put,tS]
  refine tkH 10 rfl ?_
  try simp only [Act.put,tS]
  refine tkH 11 rfl ?_
  try simp only [Act.put,tS]
  refine tkH 12 rfl ?_
  try simp only [Act.put,tS]
  refine tkH 13 rfl ?_
  try simp only [Act.put,tS]
  refine tkH 14 rfl ?_
  try simp only [Act.put,tS]
  refine tkH 15 rfl ?_
  try simp only [Act.put,tS]
  refine tkH 16 rfl ?_
  try simp only [Act.put,tS]
  refine tkH 17 rfl ?_
  try simp only [Act.put,tS]
  refine tkH 18 rfl ?_
  try simp only [Act.put,tS]
  refine tkH 19 rfl ?_
  try simp only [Act.put,tS]
  refine tkH 20 rfl ?_
  try simp only [Act.put,tS]
  refine tkH 21 rfl ?_
  try simp only [Act.put,tS]
  refine tkH 22 rfl ?_
  try simp only [Act.put,tS]
  refine tkH 23 rfl ?_
  try simp only [Act.put,tS]
  refine tkH 24 rfl ?_
  try simp only [Act.put,tS]
  refine tkH 26 rfl ?_
  try simp only [Act.put,tS]
  refine tkH 27 rfl ?_
  try simp only [Act.put,tS]
  refine tkH 28 rfl ?_
  try simp only [Act.put,tS]
  refine rdH 25 rfl fun K hK=>?_
  go_simp
  refine (L2.out _ (HS7.out.ext (Below.drew (Below.refl _ _)))).mono ?_;rintro e y1 ⟨rfl,hb⟩;have Hy1:=hidIt ((HS7.out.ext (Below.drew (Below.refl _ _))).ext hb);clear hb ks;have ks:=Hy1.out.cs;try dsimp only
  refine hK.out _ _ ?_ (fun hHeld=>?_)
  ·(try simp only [World.cell?_drew]);exact ks
  clear hK K
  try simp only [Act.put,tS]
  refine rdH 29 rfl fun K hK=>?_
  go_simp
  refine (L1.out _ (Hy1.out)).mono ?_;rintro e y2 ⟨rfl,hb⟩;have Hy2:=hidIt ((Hy1.out).ext hb);clear hb ks;have ks:=Hy2.out.cs;try dsimp only
  refine hK.out _ _ ?_ (fun hHeld=>?_)
  ·(try simp only [World.cell?_drew]);exact ks
  clear hK K
  try simp only [Act.put,tS]
  refine tkH 30 rfl ?_
  try simp only [Act.put,tS]
  refine tkH 31 rfl ?_
  try simp only [Act.put,tS]
  refine wpAnyH_done (by kernel_rfl) ?_ _
  go_wp2_with fail
  clear L1 L2 HS7 ks
  have HMORE:=hidIt (sm_more (enc:=enc) (A:=A) HP.out)
  have HM3:=hidIt (sm3_mid (enc:=enc) (A:=A) HP.out)
  have BR2:Hid (∀ w',Sm enc W bo t (.slice av A.length cv) w' (sm2 A p)→Calls Tryz.prog 35 #[.pointer (some ⟨t,0,none⟩)] w' fun e w''=>e=.returned (.int .i64 (spn enc (sm2 A p)).b)∧Below w'.heap.size w' w''):=fun w' hs=>breaks_z enc w' t _ hs.tz
  have BR3:Hid (∀ w',Sl enc W bo t (.slice av A.length cv) bl f p w' (sm3 A p)→Calls Tryz.prog 35 #[.pointer (some ⟨t,0,none⟩)] w' fun e w''=>e=.returned (.int .i64 ((spn enc (sm2 A p)).b + 1))∧Below w'.heap.size w' w''):=fun w' hs=>by rw [← HMORE.out];exact breaks_z enc w' t _ hs.s.tz
  obtain ⟨k3,hk3⟩:∃ k3,bAt enc (sm3 A p) p=k3:=⟨_,rfl⟩
  rw [hk3] at HM3
  have hk30:0≤k3∧k3≤1000000:=by
   have h1:=bAt_nn enc (sm3 A p) p
   have h2:=bAt_lip enc (sm3 A p) p
   omega
  have P1:Hid (∀ w',Sl enc W bo t (.slice av A.length cv) bl f p w' (sm3 A p)→Calls Tryz.prog 31 #[.pointer (some ⟨t,0,none⟩),.int .i64 (p:Nat)] w' fun e w''=>e=.returned (.int .i64 k3)∧Below w'.heap.size w' w''):=fun w' hs=>by
   have h:=Of_z enc w' t (sm3 A p) (p:Nat) hs.s.tz
   rw [brk_at,Int.toNat_natCast,hk3] at h
   exact h
  have P2:Hid (∀ w',Sl enc W bo t (.slice av A.length cv) bl f p w' (sm3 A p)→Calls Tryz.prog 31 #[.pointer (some ⟨t,0,none⟩),.int .i64 ((p:Int) + 1)] w' fun e w''=>e=.returned (.int .i64 (k3 + 1))∧Below w'.heap.size w' w''):=fun w' hs=>by
   have h:=Of_z enc w' t (sm3 A p) ((p + 1:Nat):Int) hs.s.tz
   rw [brk_at,Int.toNat_natCast,HM3.out,Int.natCast_add] at h
   exact h
  have l2:(sm2 A p).length=A.length + 2:=by unfold sm2;rw [spl_len A _ p HP.out];rfl
  have l3:(sm3 A p).length=A.length + 3:=by unfold sm3;rw [spl_len A _ p HP.out];rfl
  have CH3:Hid (∀ w' vE,EdR w' vE [((p:Int) + 1,(p:Int) + 1,[120])]→Sl enc W bo t (.slice av A.length cv) bl f p w' (sm2 A p)→Calls Tryz.prog 34 #[.pointer (some ⟨t,0,none⟩),vE] w' fun e w''=>e=.returned (.int .i64 0)∧Sl enc W bo t (.slice av A.length cv) bl f p w'' (sm3 A p)):=fun w' vE hE hs=>by
   have h:=chg_z hs vE (p + 1) (p + 1) [120] (by rw [Int.natCast_add];exact hE) (Nat.le_refl _) (by omega) (fun x hx=>by rw [List.mem_singleton.1 hx];exact fits_120 HEN.out) (by have:=HL2.out;simp only [List.length_singleton];omega)
   rw [sm_three A p HP.out] at h
   exact h
  have CH4:Hid (∀ w' vE,EdR w' vE [((p:Int) + 1,(p:Int) + 2,[])]→Sl enc W bo t (.slice av A.length cv) bl f p w' (sm3 A p)→Calls Tryz.prog 34 #[.pointer (some ⟨t,0,none⟩),vE] w' fun e w''=>e=.returned (.int .i64 0)∧Sl enc W bo t (.slice av A.length cv) bl f p w'' (sm2 A p)):=fun w' vE hE hs=>by
   have h:=chg_z hs vE (p + 1) (p + 2) [] (by rw [Int.natCast_add,Int.natCast_add];exact hE) (by omega) (by omega) (fun x hx=>by cases hx) (by have:=HL3.out;simp only [List.length_nil];omega)
   rw [sm_back A p HP.out] at h
   exact h
  have hB0:=spn_nn enc (sm2 A p)
  have hB1:=spn_len enc (sm2 A p)
  rw [l2] at hB1
  generalize (spn enc (sm2 A p)).b=nb at *
  clear hk3 HM3 HMORE l2 l3
  have s0:=Hy2.out.s.cell
  go_upto_region 11 with (go_at_call 35;refine (BR2.out _ Hy2.out.s).mono ?_;rintro e z1 ⟨rfl,hb⟩;have HZ1:=hidIt (Hy2.out.ext hb);clear hb;(try dsimp only))
  have hwn:IntKind.i64.wrap (nb + 1)=nb + 1:=by rw [IntKind.wrap_i64];omega
  have hwk:IntKind.i64.wrap (k3 + 1)=k3 + 1:=by rw [IntKind.wrap_i64];omega
  have ks:=HZ1.out.s.cell
  clear s0 Hy2 Hy1
  refine wp_region_held_drew (S:=fun w''=>w''.cell? ⟨bo,0,none⟩=some (.pointer (some ⟨t,0,none⟩))) (by kernel_rfl) (ks) (fun hHeld=>?_)
  refine tkH 0 rfl ?_
  try simp only [Act.put,tS]
  refine tkH 1 rfl ?_
  try simp only [Act.put,tS]
  refine tkH 2 rfl ?_
  try simp only [Act.put,tS]
  refine tkH 3 rfl ?_
  try simp only [Act.put,tS]
  refine tkH 4 rfl ?_
  try simp only [Act.put,tS]
  refine tkH 5 rfl ?_
  try simp only [Act.put,tS]
  refine rdH 6 rfl fun K hK=>?_
  go_simp
  generalize hwA:World.alloc _ _=zA;have hbA:Below z1.heap.size z1 zA:=(by rw [← hwA];exact ext_alloc (Below.refl _ _) _)
  have hrd:Hid (Rd .i64 zA (.slice (some ⟨z1.heap.size,0,none⟩) 1 1) [120]):=(by unfold Hid;rw [← hwA];exact rdi_lit1 z1 120)
  have HZA:=hidIt (HZ1.out.ext hbA)
  clear hwA hbA ks;have ks:=HZA.out.s.cell
  refine hK.out _ _ ?_ (fun hHeld=>?_)
  ·(try simp only [World.cell?_drew]);exact ks
  clear hK K
  try simp only [Act.put,tS]
  refine tkH 7 rfl ?_
  try simp only [Act.put,tS]
  refine rdH 8 rfl fun K hK=>?_
  go_simp
  generalize hwB:World.alloc _ _=zB;have hbB:Below zA.heap.size zA zB:=(by rw [← hwB];exact ext_alloc (Below.refl _ _) _)
  have hE:Hid (EdR zB (.slice (some ⟨zA.heap.size,0,none⟩) 1 1) [((p:Int) + 1,(p:Int) + 1,[120])]):=(by unfold Hid;rw [← hwB];exact edr_lit1 zA _ _ _ _ hrd.out)
  have HZB:=hidIt (HZA.out.ext hbB)
  clear hwB hbB ks;have ks:=HZB.out.s.cell
  refine hK.out _ _ ?_ (fun hHeld=>?_)
  ·(try simp only [World.cell?_drew]);exact ks
  clear hK K
  try simp only [Act.put,tS]
  refine rdH 9 rfl fun K hK=>?_
  go_simp
  refine (CH3.out _ _ (hE.out.ext (Below.drew (Below.refl _ _))) (HZB.out.ext (Below.drew (Below.refl _ _)))).mono ?_;rintro e z2 ⟨rfl,hs⟩;have HZ2:=hidIt hs;clear hs ks;have ks:=HZ2.out.s.cell;try dsimp only
  refine hK.out _ _ ?_ (fun hHeld=>?_)
  ·(try simp only [World.cell?_drew]);exact ks
  clear hK K
  try simp only [Act.put,tS]
  refine tkH 10 rfl ?_
  try simp only [Act.put,tS]
  refine tkH 11 rfl ?_
  try simp only [Act.put,tS]
  refine tkH 12 rfl ?_
  try simp only [Act.put,tS]
  refine tkH 13 rfl ?_
  try simp only [Act.put,tS]
  refine tkH 15 rfl ?_
  try simp only [Act.put,tS]
  refine tkH 16 rfl ?_
  try simp only [Act.put,tS]
  refine rdH 14 rfl fun K hK=>?_
  go_simp
  refine (BR3.out _ (HZ2.out)).mono ?_;rintro e z3 ⟨rfl,hb⟩;have HZ3:=hidIt ((HZ2.out).ext hb);clear hb ks;have ks:=HZ3.out.s.cell;try dsimp only
  refine hK.out _ _ ?_ (fun hHeld=>?_)
  ·(try simp only [World.cell?_drew]);exact ks
  clear hK K
  try simp only [Act.put,tS]
  refine tkH 17 rfl ?_
  try simp only [Act.put,tS]
  refine tkH 18 rfl ?_
  try simp only [Act.put,tS]
  refine tkH 19 rfl ?_
  try simp only [Act.put,tS]
  refine tkH 20 rfl ?_
  try simp only [Act.put,tS]
  refine tkH 21 rfl ?_
  try simp only [Act.put,tS]
  refine tkH 22 rfl ?_
  try simp only [Act.put,tS]
  refine tkH 23 rfl ?_
  try simp only [Act.put,tS]
  refine tkH 25 rfl ?_
  try simp only [Act.put,tS]
  refine tkH 26 rfl ?_
  try simp only [Act.put,tS]
  refine tkH 27 rfl ?_
  try simp only [Act.put,tS]
  refine rdH 24 rfl fun K hK=>?_
  go_simp
  refine (P2.out _ (HZ3.out)).mono ?_;rintro e z4 ⟨rfl,hb⟩;have HZ4:=hidIt ((HZ3.out).ext hb);clear hb ks;have ks:=HZ4.out.s.cell;try dsimp only
  refine hK.out _ _ ?_ (fun hHeld=>?_)
  ·(try simp only [World.cell?_drew]);exact ks
  clear hK K
  try simp only [Act.put,tS]
  refine rdH 28 rfl fun K hK=>?_
  go_simp
  refine (P1.out _ (HZ4.out)).mono ?_;rintro e z5 ⟨rfl,hb⟩;have HZ5:=hidIt ((HZ4.out).ext hb);clear hb ks;have ks:=HZ5.out.s.cell;try dsimp only
  refine hK.out _ _ ?_ (fun hHeld=>?_)
  ·(try simp only [World.cell?_drew]);exact ks
  clear hK K
  try simp only [Act.put,tS]
  refine tkH 29 rfl ?_
  try simp only [Act.put,tS]
  refine tkH 30 rfl ?_
  try simp only [Act.put,tS]
  refine tkH 31 rfl ?_
  try simp only [Act.put,tS]
  refine wpAnyH_done (by kernel_rfl) ?_ _
  go_upto_region 13 with fail
  have s0:=HZ5.out.s.cell
  go_upto_region 15 with (go_at_call 34;refine (CH4.out _ _ (edr_lit1 z5 _ _ (.slice none 0 0) [] ⟨none,0,rfl,by simp,by decide,fun h=>absurd rfl h⟩) (HZ5.out.ext (ext_alloc (Below.refl _ _) _))).mono ?_;rintro e z6 ⟨rfl,hs⟩;have HZ6:=hidIt hs;clear hs;(try dsimp only))
  clear s0 ks
  have ks:=HZ6.out.s.cell
  clear HZ1 HZ2 HZ3 HZ4 HZ5 HZA HZB hE hrd P1 P2 CH3 CH4 BR3
  go_cut [10,11] from 137 to 146 (fun q e wF=>∃ b:Nat,q=.pointer (some ⟨b,0,none⟩)∧e=.int .i64 0∧Hid (wF.heap[b]?=some (.cells #[.int .i64 f,.int .i64 (p:Nat),.int .i64 ((p:Int) + 2),.int .i64 2] 50 (0,0))∧Sl enc W bo t (.slice av A.length cv) bl f p wF (sm2 A p)))
  case first =>
   refine wp_region_held_drew (S:=fun w''=>w''.cell? ⟨bo,0,none⟩=some (.pointer (some ⟨t,0,none⟩))) (by kernel_rfl) (ks) (fun hHeld=>?_)
   refine tkH 0 rfl ?_
   try simp only [Act.put,tS]
   refine tkH 1 rfl ?_
   try simp only [Act.put,tS]
   refine tkH 2 rfl ?_
   try simp only [Act.put,tS]
   refine tkH 3 rfl ?_
   try simp only [Act.put,tS]
   refine tkH 4 rfl ?_
   try simp only [Act.put,tS]
   refine wpAnyH_ready (rs:=[5,10]) (by kernel_rfl) (by simp) ?_
   refine (AllReadyH.cons (o:=_) rfl (fun K hK=>?_) (AllReadyH.cons (o:=_) rfl (fun K hK=>?_) AllReadyH.nil))
   ·skip
    go_simp
    refine (O1.out _ (HZ6.out.ext (Below.drew (Below.refl _ _))).s).mono ?_;rintro e y1 ⟨rfl,hb⟩;have Hy1:=hidIt ((HZ6.out.ext (Below.drew (Below.refl _ _))).ext hb);clear hb ks;have ks:=Hy1.out.s.cell;try dsimp only
    refine hK.out _ _ ?_ (fun hHeld=>?_)
    ·(try simp only [World.cell?_drew]);exact ks
    clear hK K
    try simp only [Act.put,tS]
    refine wpAnyH_ready (rs:=[6,10]) (by kernel_rfl) (by simp) ?_
    refine (AllReadyH.cons (o:=_) rfl (fun K hK=>?_) (AllReadyH.cons (o:=_) rfl (fun K hK=>?_) AllReadyH.nil))
    ·skip
     go_simp
     refine (AT2.out _ (Hy1.out).s).mono ?_;rintro e y2 ⟨rfl,hb⟩;have Hy2:=hidIt ((Hy1.out).ext hb);clear hb ks;have ks:=Hy2.out.s.cell;try dsimp only
     refine hK.out _ _ ?_ (fun hHeld=>?_)
     ·(try simp only [World.cell?_drew]);exact ks
     clear hK K
     try simp only [Act.put,tS]
     refine tkH 7 rfl ?_
     try simp only [Act.put,tS]
     refine tkH 8 rfl ?_
     try simp only [Act.put,tS]
     refine tkH 9 rfl ?_
     try simp only [Act.put,tS]
     refine rdH 10 rfl fun K hK=>?_
     go_simp
     generalize hwA:World.alloc _ _=y3;have hbA:Below y2.heap.size y2 y3:=(by rw [← hwA];exact ext_alloc (Below.refl _ _) _)
     have HN:Hid (y3.heap[y2.heap.size]?=some (.cells #[.int .i64 0,.int .i64 0,.int .i64 0,.int .i64 0] 50 (0,0))):=(by unfold Hid;rw [← hwA];exact heap_alloc_new _ _)
     have Hy3:=hidIt ((Hy2.out).ext hbA)
     have hge:=hidIt ((Hy2.out).s.bl.size)
     have hnl:=hidIt (Nat.ne_of_lt (Array.getElem?_eq_some_iff.1 (Hy2.out).l).1)
     clear hwA hbA ks;have ks:=Hy3.out.s.cell
     obtain ⟨_,d0,d1,d2,d3,df⟩:=cells4 HN.out
     refine hK.out _ _ ?_ (fun hHeld=>?_)
     ·(try simp only [World.cell?_drew]);exact ks
     clear hK K
     try simp only [Act.put,tS]
     refine rdH 11 rfl fun K hK=>?_
     go_simp
     generalize hwS:World.setCell _ _ _=yF
     obtain ⟨p1,p2⟩:=lay4s HN.out (.int .i64 f) (.int .i64 (p:Nat)) (.int .i64 ((p:Int) + 2)) (.int .i64 2)
     have HNT:Hid (Typ 50 y3 _):=⟨_,HN.out⟩
     rw [hwS] at p1 p2
     have HP1:=hidIt p1
     have HyF:=hidIt (Hy3.out.oth p2 HNT.out hge.out hnl.out)
     clear hwS p1 p2 d0 d1 d2 d3 df ks;have ks:=HyF.out.s.cell
     refine hK.out _ _ ?_ (fun hHeld=>?_)
     ·(try simp only [World.cell?_drew]);exact ks
     clear hK K
     try simp only [Act.put,tS]
     refine tkH 12 rfl ?_
     try simp only [Act.put,tS]
     refine wpAnyH_done (by kernel_rfl) ?_ _
     go_wp2_with fail
     go_meet
     case rel=>exact ⟨_,rfl,rfl,by first | exact HP1.out | exact (World.heap_drew ▸ HP1.out),by first | exact HyF.out | exact HyF.out.ext (Below.drew (Below.refl _ _))⟩
    ·skip
     go_simp
     generalize hwA:World.alloc _ _=y2;have hbA:Below y1.heap.size y1 y2:=(by rw [← hwA];exact ext_alloc (Below.refl _ _) _)
     have HN:Hid (y2.heap[y1.heap.size]?=some (.cells #[.int .i64 0,.int .i64 0,.int .i64 0,.int .i64 0] 50 (0,0))):=(by unfold Hid;rw [← hwA];exact heap_alloc_new _ _)
     have Hy2:=hidIt ((Hy1.out).ext hbA)
     have hge:=hidIt ((Hy1.out).s.bl.size)
     have hnl:=hidIt (Nat.ne_of_lt (Array.getElem?_eq_some_iff.1 (Hy1.out).l).1)
     clear hwA hbA ks;have ks:=Hy2.out.s.cell
     refine hK.out _ _ ?_ (fun hHeld=>?_)
     ·(try simp only [World.cell?_drew]);exact ks
     clear hK K
     try simp only [Act.put,tS]
     refine rdH 6 rfl fun K hK=>?_
     go_simp
     refine (AT2.out _ (Hy2.out).s).mono ?_;rintro e y3 ⟨rfl,hb⟩;replace HN:=hidIt ((hb.block _ (Array.getElem?_eq_some_iff.1 HN.out).1).trans HN.out);have Hy3:=hidIt ((Hy2.out).ext hb);clear hb ks;have ks:=Hy3.out.s.cell;try dsimp only
     obtain ⟨_,d0,d1,d2,d3,df⟩:=cells4 HN.out
     refine hK.out _ _ ?_ (fun hHeld=>?_)
     ·(try simp only [World.cell?_drew]);exact ks
     clear hK K
     try simp only [Act.put,tS]
     refine tkH 7 rfl ?_
     try simp only [Act.put,tS]
     refine tkH 8 rfl ?_
     try simp only [Act.put,tS]
     refine tkH 9 rfl ?_
     try simp only [Act.put,tS]
     refine rdH 11 rfl fun K hK=>?_
     go_simp
     generalize hwS:World.setCell _ _ _=yF
     obtain ⟨p1,p2⟩:=lay4s HN.out (.int .i64 f) (.int .i64 (p:Nat)) (.int .i64 ((p:Int) + 2)) (.int .i64 2)
     have HNT:Hid (Typ 50 y3 _):=⟨_,HN.out⟩
     rw [hwS] at p1 p2
     have HP1:=hidIt p1
     have HyF:=hidIt (Hy3.out.oth p2 HNT.out hge.out hnl.out)
     clear hwS p1 p2 d0 d1 d2 d3 df ks;have ks:=HyF.out.s.cell
     refine hK.out _ _ ?_ (fun hHeld=>?_)
     ·(try simp only [World.cell?_drew]);exact ks
     clear hK K
     try simp only [Act.put,tS]
     refine tkH 12 rfl ?_
     try simp only [Act.put,tS]
     refine wpAnyH_done (by kernel_rfl) ?_ _
     go_wp2_with fail
     go_meet
     case rel=>exact ⟨_,rfl,rfl,by first | exact HP1.out | exact (World.heap_drew ▸ HP1.out),by first | exact HyF.out | exact HyF.out.ext (Below.drew (Below.refl _ _))⟩
   ·skip
    go_simp
    generalize hwA:World.alloc _ _=y1;have hbA:Below z6.heap.size z6 y1:=(by rw [← hwA];exact ext_alloc (Below.refl _ _) _)
    have HN:Hid (y1.heap[z6.heap.size]?=some (.cells #[.int .i64 0,.int .i64 0,.int .i64 0,.int .i64 0] 50 (0,0))):=(by unfold Hid;rw [← hwA];exact heap_alloc_new _ _)
    have Hy1:=hidIt ((HZ6.out).ext hbA)
    have hge:=hidIt ((HZ6.out).s.bl.size)
    have hnl:=hidIt (Nat.ne_of_lt (Array.getElem?_eq_some_iff.1 (HZ6.out).l).1)
    clear hwA hbA ks;have ks:=Hy1.out.s.cell
    refine hK.out _ _ ?_ (fun hHeld=>?_)
    ·(try simp only [World.cell?_drew]);exact ks
    clear hK K
    try simp only [Act.put,tS]
    refine rdH 5 rfl fun K hK=>?_
    go_simp
    refine (O1.out _ (Hy1.out.ext (Below.drew (Below.refl _ _))).s).mono ?_;rintro e y2 ⟨rfl,hb⟩;replace HN:=hidIt ((hb.block _ (Array.getElem?_eq_some_iff.1 HN.out).1).trans HN.out);have Hy2:=hidIt ((Hy1.out.ext (Below.drew (Below.refl _ _))).ext hb);clear hb ks;have ks:=Hy2.out.s.cell;try dsimp only
    refine hK.out _ _ ?_ (fun hHeld=>?_)
    ·(try simp only [World.cell?_drew]);exact ks
    clear hK K
    try simp only [Act.put,tS]
    refine rdH 6 rfl fun K hK=>?_
    go_simp
    refine (AT2.out _ (Hy2.out).s).mono ?_;rintro e y3 ⟨rfl,hb⟩;replace HN:=hidIt ((hb.block _ (Array.getElem?_eq_some_iff.1 HN.out).1).trans HN.out);have Hy3:=hidIt ((Hy2.out).ext hb);clear hb ks;have ks:=Hy3.out.s.cell;try dsimp only
    obtain ⟨_,d0,d1,d2,d3,df⟩:=cells4 HN.out
    refine hK.out _ _ ?_ (fun hHeld=>?_)
    ·(try simp only [World.cell?_drew]);exact ks
    clear hK K
    try simp only [Act.put,tS]
    refine tkH 7 rfl ?_
    try simp only [Act.put,tS]
    refine tkH 8 rfl ?_
    try simp only [Act.put,tS]
    refine tkH 9 rfl ?_
    try simp only [Act.put,tS]
    refine rdH 11 rfl fun K hK=>?_
    go_simp
    generalize hwS:World.setCell _ _ _=yF
    obtain ⟨p1,p2⟩:=lay4s HN.out (.int .i64 f) (.int .i64 (p:Nat)) (.int .i64 ((p:Int) + 2)) (.int .i64 2)
    have HNT:Hid (Typ 50 y3 _):=⟨_,HN.out⟩
    rw [hwS] at p1 p2
    have HP1:=hidIt p1
    have HyF:=hidIt (Hy3.out.oth p2 HNT.out hge.out hnl.out)
    clear hwS p1 p2 d0 d1 d2 d3 df ks;have ks:=HyF.out.s.cell
    refine hK.out _ _ ?_ (fun hHeld=>?_)
    ·(try simp only [World.cell?_drew]);exact ks
    clear hK K
    try simp only [Act.put,tS]
    refine tkH 12 rfl ?_
    try simp only [Act.put,tS]
    refine wpAnyH_done (by kernel_rfl) ?_ _
    go_wp2_with fail
    go_meet
    case rel=>exact ⟨_,rfl,rfl,by first | exact HP1.out | exact (World.heap_drew ▸ HP1.out),by first | exact HyF.out | exact HyF.out.ext (Below.drew (Below.refl _ _))⟩
  case rest =>
   obtain ⟨bm,rfl,rfl,HF⟩:=hcut
   obtain ⟨_,a0,a1,a2,a3,_⟩:=cells4 HF.out.1
   obtain ⟨_,l0,l1,l2,l3,_⟩:=cells4 HF.out.2.l
   have s0:=HF.out.2.s.cell
   clear ks
   go_wp2_with (go_at_call 35;refine (BR2.out _ HF.out.2.s).mono ?_;rintro e z9 ⟨rfl,hb⟩;have HZ9:=hidIt (HF.out.2.ext hb);have HBM:=hidIt ((hb.block _ (Array.getElem?_eq_some_iff.1 HF.out.1).1).trans HF.out.1);clear hb a0 a1 a2 a3 l0 l1 l2 l3 s0;obtain ⟨_,a0,a1,a2,a3,_⟩:=cells4 HBM.out;obtain ⟨_,l0,l1,l2,l3,_⟩:=cells4 HZ9.out.l;(try dsimp only))
   go_ret
   exact ⟨rfl,HZ9.out.s.bl⟩
end Go.Proofs.YtjomfbegghgbdaaGreat.P
