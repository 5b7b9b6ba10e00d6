import Derived.Test.YtjomfbegghgbdaaGreatK36
import Derived.Deep.LoopGhost
import Derived.Deep.CutRange
import Derived.Deep.CutBlock
set_option maxRecDepth 100000
namespace Go.Proofs.YtjomfbegghgbdaaGreat.P
open Go.RowKit
structure AlI (enc:Int) (A:List Int) (w:World) (ao:Option Addr) (n cap:Nat) (i:Nat) (f:Int) (wr:World):Prop where
 n':(n:Int)=bAt enc A i
 f':f=skA enc A (bAt enc A i)
 ok:A[i]?=some 10→i=0∨A[i - 1]?≠some 13
 own:OwnL wr w.heap.size (.slice ao n cap) (lns enc A n)
 bel:Below w.heap.size w wr
theorem AlI.fits {enc:Int} {A:List Int} {w:World} {ao:Option Addr} {n cap:Nat} {i:Nat} {f:Int} {wr:World} (h:AlI enc A w ao n cap i f wr) (hA:A.length≤65536) (hi:i≤A.length):n≤65536∧0≤f∧f≤65536:=by
 have h1:=bAt_lip enc A i
 have h2:=h.n'
 have h3:=skA_in enc A (bAt enc A i) (bAt_nn enc A i) (bAt_le enc A i)
 rw [← h.f'] at h3
 omega
theorem AlI.push {enc:Int} {A:List Int} {w:World} {ao:Option Addr} {n cap:Nat} {i:Nat} {f:Int} {wr:World} (h:AlI enc A w ao n cap i f wr) (i':Nat) (y:Ln) (h1:bAt enc A i'=bAt enc A i + 1) (h2:skA enc A (bAt enc A i + 1)=(i':Nat))
  (h3:lnK enc A (bAt enc A i)=y) (h4:A[i']?=some 10→A[i' - 1]?≠some 13) {a8:Option Addr} {n8 c8:Nat} {w8:World} (ho:OwnL w8 w.heap.size (.slice a8 n8 c8) (lns enc A n ++ [y])) (hn:(lns enc A n ++ [y]).length=n8) (hb:Below w.heap.size w w8):AlI enc A w a8 n8 c8 i' (i':Nat) w8:=by
 rw [List.length_append,lns_len] at hn
 subst hn
 refine ⟨?_,by rw [h1,h2],fun e=>.inr (h4 e),?_,hb⟩
 ·have:=h.n'
  show ((n + 1:Nat):Int)=_
  rw [h1]
  omega
 ·show OwnL w8 w.heap.size (.slice a8 (n + 1) c8) (lns enc A (n + 1))
  rw [lns_succ,h.n',h3]
  exact ho
theorem AlI.last {enc:Int} {A:List Int} {w:World} {ao:Option Addr} {n cap:Nat} {f:Int} {wr:World} (h:AlI enc A w ao n cap A.length f wr) {a8:Option Addr} {n8 c8:Nat} {w8:World} (ho:OwnL w8 w.heap.size (.slice a8 n8 c8) (lns enc A n ++ [⟨f,A.length,A.length,0⟩])) (hn:(lns enc A n ++ [(⟨f,A.length,A.length,0⟩:Ln)]).length=n8):(n8:Int)=(spn enc A).b + 1∧OwnL w8 w.heap.size (.slice a8 n8 c8) (lns enc A n8):=by
 rw [List.length_append,lns_len] at hn
 subst hn
 have e:=h.n'
 have e2:=h.f'
 rw [bAt_len enc A _ (Nat.le_refl _)] at e e2
 refine ⟨by show ((n + 1:Nat):Int)=_;omega,?_⟩
 show OwnL w8 w.heap.size (.slice a8 (n + 1) c8) (lns enc A (n + 1))
 rw [lns_succ,e]
 unfold lnK
 rw [if_pos rfl,← e2]
 exact ho
set_option maxHeartbeats 8000000 in
theorem rAll_any (enc:Int) (va:Value) (A:List Int) (w:World) (hA:Rd .i64 w va A) (hl:A.length≤65536) :
  Calls Tryz.prog 40 #[va] w fun e w'=>∃ (ao:Option Addr) (n cap:Nat),e=.returned (.tuple #[.slice ao n cap,.int .i64 (cnt enc A)])∧Hid ((n:Int)=(spn enc A).b + 1∧OwnL w' w.heap.size (.slice ao n cap) (lns enc A n))∧Below w.heap.size w w':=by
 obtain ⟨aa,ca,rfl,ha1,ha2,_⟩:=id hA
 have HA:=zh hA
 clear hA
 have HI0:Hid (AlI enc A w none 0 0 0 0 w):=⟨by rw [bAt_zero];rfl,by rw [bAt_zero,skA_zero],fun _=>.inl rfl,OwnL.nil _ _,Below.refl _ _⟩
 go_enter Tryz.func40,Tryz.ntmps40
 go_wp2_with fail
 go_loopg [4,5,6] A.length (fun gk lv fv p wr=>∃ (i:Nat) (ao:Option Addr) (n cap:Nat) (f:Int),i≤A.length∧i + gk=A.length∧p=.int .i64 (i:Nat)∧fv=.int .i64 f∧lv=.slice ao n cap∧Hid (AlI enc A w ao n cap i f wr))
 case atStart=>exact ⟨0,none,0,0,0,by omega,by omega,rfl,rfl,rfl,HI0.out⟩
 case round =>
  obtain ⟨i,ao,n,cap,f,hil,hig,rfl,rfl,rfl,HI⟩:=hrel
  obtain ⟨hn1,hf0,hf1⟩:=HI.out.fits hl hil
  have HG:=zh hig
  clear hig
  by_cases hlt:i < A.length
  ·have hltI:(i:Int) < (A.length:Int):=by omega
   obtain ⟨b,o,rfl,hbl,ci,_⟩:=rd_at (HA.out.ext HI.out.bel) i hlt
   obtain ⟨x,hx⟩:∃ x,A[i]?=some x:=⟨_,List.getElem?_eq_getElem hlt⟩
   rw [hx,Option.getD_some] at ci
   have HX:=zh hx
   clear hx
   have hNX:Hid (∀ y,A[i + 1]?=some y→wr.cell? ⟨b,o + (i + 1),none⟩=some (.int .i64 y)):=fun y hy=>by
    obtain ⟨b',o',e1,_,c',_⟩:=rd_at (HA.out.ext HI.out.bel) (i + 1) (List.getElem?_eq_some_iff.1 hy).1
    cases e1
    rw [hy,Option.getD_some] at c'
    exact c'
   have hwi:IntKind.i64.wrap ((i:Int) + 1)=((i + 1:Nat):Int):=by rw [IntKind.wrap_i64];omega
   have hwj:IntKind.i64.wrap ((i:Int) + 2)=((i + 2:Nat):Int):=by rw [IntKind.wrap_i64];omega
   by_cases h10:x=10
   ·subst h10
    obtain ⟨q1,q2,q3,q4⟩:=ln_lf (enc:=enc) HX.out (HI.out.ok HX.out)
    rw [← HI.out.f'] at q4
    have HP:Hid (∀ a8 n8 c8 w8,OwnL w8 w.heap.size (.slice a8 n8 c8) (lns enc A n ++ [⟨f,(i:Nat),(i + 1:Nat),1⟩])→(lns enc A n ++ [(⟨f,(i:Nat),(i + 1:Nat),1⟩:Ln)]).length=n8→Below w.heap.size w w8→AlI enc A w a8 n8 c8 (i + 1) ((i + 1:Nat):Int) w8):=fun a8 n8 c8 w8 o8 e8 b8=>HI.out.push (i + 1) _ q1 q2 q4 (fun _=>by rw [show i + 1 - 1=i by omega,HX.out];decide) o8 e8 b8
    clear q1 q2 q3 q4
    have HOA:Hid (OwnL (wr.alloc (.cells #[.int .i64 f,.int .i64 (i:Nat),.int .i64 (i + 1:Nat),.int .i64 1] 85)) w.heap.size (.slice ao n cap) (lns enc A n)):=HI.out.own.ext (zxa (Below.refl _ _) _)
    have HNW:=zh (lit4 wr 85 ⟨f,(i:Nat),(i + 1:Nat),1⟩)
    have HZ:=zh (show w.heap.size≤(wr.alloc (.cells #[.int .i64 f,.int .i64 (i:Nat),.int .i64 (i + 1:Nat),.int .i64 1] 85)).heap.size from Nat.le_trans HI.out.bel.size (by simp))
    have HLN:=zh (show (lns enc A n).length + 1≤1099511627776 by rw [lns_len];omega)
    have HBI:=zh HI.out.bel
    go_wp2_with (at_builtin;refine wpl_line rfl _ _ 75 rfl w.heap.size Tryz.info_line Tryz.underlying75 (.slice ao n cap) (lns enc A n) rfl HOA.out ⟨f,(i:Nat),(i + 1:Nat),1⟩ wr.heap.size rfl HNW.out HLN.out HZ.out ?_;intro v8 w8 ho8 hb8;obtain ⟨a8,c8,hv8⟩:=ho8.form;generalize hn8:(lns enc A n ++ [(⟨f,(i:Nat),(i + 1:Nat),1⟩:Ln)]).length=n8 at hv8;subst hv8;have HP8:=zh (HP.out a8 n8 c8 w8 ho8 hn8 (HBI.out.trans ((zxa (Below.refl wr.heap.size wr) _).mono HBI.out.size |>.trans hb8)));clear ho8 hb8 hn8)
    go_roundg (A.length - (i + 1))
    case rel=>exact ⟨i + 1,a8,n8,c8,_,by omega,by omega,by go_num,rfl,rfl,HP8.out⟩
    case measure=>have:=HG.out;omega
   ·by_cases h13:x=13
    ·subst h13
     by_cases hn:i + 1 < A.length
     ·have hnI:((i + 1:Nat):Int) < (A.length:Int):=by omega
      obtain ⟨y,hy⟩:∃ y,A[i + 1]?=some y:=⟨_,List.getElem?_eq_getElem hn⟩
      have cy:=hNX.out y hy
      have HY:=zh hy
      clear hy
      by_cases hy10:y=10
      ·subst hy10
       have hwk:IntKind.i64.wrap (((i + 1:Nat):Int) + 1)=((i + 2:Nat):Int):=by rw [IntKind.wrap_i64];omega
       obtain ⟨q1,q2,q3,q4⟩:=ln_crlf (enc:=enc) HX.out HY.out
       rw [← HI.out.f'] at q4
       have HP:Hid (∀ a8 n8 c8 w8,OwnL w8 w.heap.size (.slice a8 n8 c8) (lns enc A n ++ [⟨f,(i:Nat),(i + 2:Nat),2⟩])→(lns enc A n ++ [(⟨f,(i:Nat),(i + 2:Nat),2⟩:Ln)]).length=n8→Below w.heap.size w w8→AlI enc A w a8 n8 c8 (i + 2) ((i + 2:Nat):Int) w8):=fun a8 n8 c8 w8 o8 e8 b8=>HI.out.push (i + 2) _ q1 q2 q4 (fun _=>by rw [show i + 2 - 1=i + 1 by omega,HY.out];decide) o8 e8 b8
       clear q1 q2 q3 q4
       have HOA:Hid (OwnL (wr.alloc (.cells #[.int .i64 f,.int .i64 (i:Nat),.int .i64 (i + 2:Nat),.int .i64 2] 85)) w.heap.size (.slice ao n cap) (lns enc A n)):=HI.out.own.ext (zxa (Below.refl _ _) _)
       have HNW:=zh (lit4 wr 85 ⟨f,(i:Nat),(i + 2:Nat),2⟩)
       have HZ:=zh (show w.heap.size≤(wr.alloc (.cells #[.int .i64 f,.int .i64 (i:Nat),.int .i64 (i + 2:Nat),.int .i64 2] 85)).heap.size from Nat.le_trans HI.out.bel.size (by simp))
       have HLN:=zh (show (lns enc A n).length + 1≤1099511627776 by rw [lns_len];omega)
       have HBI:=zh HI.out.bel
       go_wp2_with (at_builtin;refine wpl_line rfl _ _ 75 rfl w.heap.size Tryz.info_line Tryz.underlying75 (.slice ao n cap) (lns enc A n) rfl HOA.out ⟨f,(i:Nat),(i + 2:Nat),2⟩ wr.heap.size rfl HNW.out HLN.out HZ.out ?_;intro v8 w8 ho8 hb8;obtain ⟨a8,c8,hv8⟩:=ho8.form;generalize hn8:(lns enc A n ++ [(⟨f,(i:Nat),(i + 2:Nat),2⟩:Ln)]).length=n8 at hv8;subst hv8;have HP8:=zh (HP.out a8 n8 c8 w8 ho8 hn8 (HBI.out.trans ((zxa (Below.refl wr.heap.size wr) _).mono HBI.out.size |>.trans hb8)));clear ho8 hb8 hn8)
       go_roundg (A.length - (i + 2))
       case rel=>exact ⟨i + 2,a8,n8,c8,_,by omega,by omega,by go_num,rfl,rfl,HP8.out⟩
       case measure=>have:=HG.out;omega
      ·have HNE:Hid (A[i + 1]?≠some 10):=by unfold Hid;rw [HY.out];intro e;exact hy10 (Option.some.inj e)
       obtain ⟨q1,q2,q3,q4⟩:=ln_cr (enc:=enc) HX.out HNE.out
       rw [← HI.out.f'] at q4
       have HP:Hid (∀ a8 n8 c8 w8,OwnL w8 w.heap.size (.slice a8 n8 c8) (lns enc A n ++ [⟨f,(i:Nat),(i + 1:Nat),3⟩])→(lns enc A n ++ [(⟨f,(i:Nat),(i + 1:Nat),3⟩:Ln)]).length=n8→Below w.heap.size w w8→AlI enc A w a8 n8 c8 (i + 1) ((i + 1:Nat):Int) w8):=fun a8 n8 c8 w8 o8 e8 b8=>HI.out.push (i + 1) _ q1 q2 q4 (fun e=>absurd e HNE.out) o8 e8 b8
       clear q1 q2 q3 q4
       have HOA:Hid (OwnL (wr.alloc (.cells #[.int .i64 f,.int .i64 (i:Nat),.int .i64 (i + 1:Nat),.int .i64 3] 85)) w.heap.size (.slice ao n cap) (lns enc A n)):=HI.out.own.ext (zxa (Below.refl _ _) _)
       have HNW:=zh (lit4 wr 85 ⟨f,(i:Nat),(i + 1:Nat),3⟩)
       have HZ:=zh (show w.heap.size≤(wr.alloc (.cells #[.int .i64 f,.int .i64 (i:Nat),.int .i64 (i + 1:Nat),.int .i64 3] 85)).heap.size from Nat.le_trans HI.out.bel.size (by simp))
       have HLN:=zh (show (lns enc A n).length + 1≤1099511627776 by rw [lns_len];omega)
       have HBI:=zh HI.out.bel
       go_wp2_with (at_builtin;refine wpl_line rfl _ _ 75 rfl w.heap.size Tryz.info_line Tryz.underlying75 (.slice ao n cap) (lns enc A n) rfl HOA.out ⟨f,(i:Nat),(i + 1:Nat),3⟩ wr.heap.size rfl HNW.out HLN.out HZ.out ?_;intro v8 w8 ho8 hb8;obtain ⟨a8,c8,hv8⟩:=ho8.form;generalize hn8:(lns enc A n ++ [(⟨f,(i:Nat),(i + 1:Nat),3⟩:Ln)]).length=n8 at hv8;subst hv8;have HP8:=zh (HP.out a8 n8 c8 w8 ho8 hn8 (HBI.out.trans ((zxa (Below.refl wr.heap.size wr) _).mono HBI.out.size |>.trans hb8)));clear ho8 hb8 hn8)
       go_roundg (A.length - (i + 1))
       case rel=>exact ⟨i + 1,a8,n8,c8,_,by omega,by omega,by go_num,rfl,rfl,HP8.out⟩
       case measure=>have:=HG.out;omega
     ·have hnI:¬ ((i + 1:Nat):Int) < (A.length:Int):=by omega
      have HNE:Hid (A[i + 1]?≠some 10):=by unfold Hid;rw [List.getElem?_eq_none (by omega)];simp
      obtain ⟨q1,q2,q3,q4⟩:=ln_cr (enc:=enc) HX.out HNE.out
      rw [← HI.out.f'] at q4
      have HP:Hid (∀ a8 n8 c8 w8,OwnL w8 w.heap.size (.slice a8 n8 c8) (lns enc A n ++ [⟨f,(i:Nat),(i + 1:Nat),3⟩])→(lns enc A n ++ [(⟨f,(i:Nat),(i + 1:Nat),3⟩:Ln)]).length=n8→Below w.heap.size w w8→AlI enc A w a8 n8 c8 (i + 1) ((i + 1:Nat):Int) w8):=fun a8 n8 c8 w8 o8 e8 b8=>HI.out.push (i + 1) _ q1 q2 q4 (fun e=>absurd e HNE.out) o8 e8 b8
      clear q1 q2 q3 q4
      have HOA:Hid (OwnL (wr.alloc (.cells #[.int .i64 f,.int .i64 (i:Nat),.int .i64 (i + 1:Nat),.int .i64 3] 85)) w.heap.size (.slice ao n cap) (lns enc A n)):=HI.out.own.ext (zxa (Below.refl _ _) _)
      have HNW:=zh (lit4 wr 85 ⟨f,(i:Nat),(i + 1:Nat),3⟩)
      have HZ:=zh (show w.heap.size≤(wr.alloc (.cells #[.int .i64 f,.int .i64 (i:Nat),.int .i64 (i + 1:Nat),.int .i64 3] 85)).heap.size from Nat.le_trans HI.out.bel.size (by simp))
      have HLN:=zh (show (lns enc A n).length + 1≤1099511627776 by rw [lns_len];omega)
      have HBI:=zh HI.out.bel
      go_wp2_with (at_builtin;refine wpl_line rfl _ _ 75 rfl w.heap.size Tryz.info_line Tryz.underlying75 (.slice ao n cap) (lns enc A n) rfl HOA.out ⟨f,(i:Nat),(i + 1:Nat),3⟩ wr.heap.size rfl HNW.out HLN.out HZ.out ?_;intro v8 w8 ho8 hb8;obtain ⟨a8,c8,hv8⟩:=ho8.form;generalize hn8:(lns enc A n ++ [(⟨f,(i:Nat),(i + 1:Nat),3⟩:Ln)]).length=n8 at hv8;subst hv8;have HP8:=zh (HP.out a8 n8 c8 w8 ho8 hn8 (HBI.out.trans ((zxa (Below.refl wr.heap.size wr) _).mono HBI.out.size |>.trans hb8)));clear ho8 hb8 hn8)
      go_roundg (A.length - (i + 1))
      case rel=>exact ⟨i + 1,a8,n8,c8,_,by omega,by omega,by go_num,rfl,rfl,HP8.out⟩
      case measure=>have:=HG.out;omega
    ·have HS:Hid (AlI enc A w ao n cap (i + 1) f wr):=by
      have e:=ln_no (enc:=enc) HX.out h10 h13
      exact ⟨by rw [e];exact HI.out.n',by rw [e];exact HI.out.f',fun _=>.inr (by rw [show i + 1 - 1=i by omega,HX.out];intro e;exact h13 (Option.some.inj e)),HI.out.own,HI.out.bel⟩
     go_wp2_with fail
     go_roundg (A.length - (i + 1))
     case rel=>exact ⟨i + 1,ao,n,cap,f,by omega,by omega,by go_num,rfl,rfl,HS.out⟩
     case measure=>have:=HG.out;omega
  ·obtain rfl:i=A.length:=by omega
   have hnl:¬ (A.length:Int) < (A.length:Int):=by omega
   have HFB:Hid (f=skA enc A (spn enc A).b∧(n:Int)=(spn enc A).b):=by
    have h1:=HI.out.f'
    have h2:=HI.out.n'
    rw [bAt_len enc A _ (Nat.le_refl _)] at h1 h2
    exact ⟨h1,h2⟩
   have HP:Hid (∀ a8 n8 c8 w8,OwnL w8 w.heap.size (.slice a8 n8 c8) (lns enc A n ++ [⟨f,(A.length:Nat),(A.length:Nat),0⟩])→(lns enc A n ++ [(⟨f,(A.length:Nat),(A.length:Nat),0⟩:Ln)]).length=n8→((n8:Int)=(spn enc A).b + 1∧OwnL w8 w.heap.size (.slice a8 n8 c8) (lns enc A n8))):=fun a8 n8 c8 w8 o8 e8=>HI.out.last o8 e8
   have HOA:Hid (OwnL (wr.alloc (.cells #[.int .i64 f,.int .i64 (A.length:Nat),.int .i64 (A.length:Nat),.int .i64 0] 85)) w.heap.size (.slice ao n cap) (lns enc A n)):=HI.out.own.ext (zxa (Below.refl _ _) _)
   have HNW:=zh (lit4 wr 85 ⟨f,(A.length:Nat),(A.length:Nat),0⟩)
   have HBI:=zh HI.out.bel
   have HZ:=zh (show w.heap.size≤(wr.alloc (.cells #[.int .i64 f,.int .i64 (A.length:Nat),.int .i64 (A.length:Nat),.int .i64 0] 85)).heap.size from Nat.le_trans HBI.out.size (by simp))
   have HLN:=zh (show (lns enc A n).length + 1≤1099511627776 by rw [lns_len];omega)
   go_upto_region 18 with (at_builtin;refine wpl_line rfl _ _ 75 rfl w.heap.size Tryz.info_line Tryz.underlying75 (.slice ao n cap) (lns enc A n) rfl HOA.out ⟨f,(A.length:Nat),(A.length:Nat),0⟩ wr.heap.size rfl HNW.out HLN.out HZ.out ?_;intro v8 w8 ho8 hb8;obtain ⟨a8,c8,hv8⟩:=ho8.form;generalize hn8:(lns enc A n ++ [(⟨f,(A.length:Nat),(A.length:Nat),0⟩:Ln)]).length=n8 at hv8;subst hv8;have HP8:=zh (HP.out a8 n8 c8 w8 ho8 hn8);have HB8:=zh (HBI.out.trans ((zxa (Below.refl wr.heap.size wr) _).mono HBI.out.size |>.trans hb8));clear ho8 hb8 hn8)
   by_cases h0:(A.length:Int)=0
   ·have HC:=zh (show cnt enc A=(n8:Nat) by unfold cnt;rw [if_pos (.inl (by omega)),HP8.out.1])
    go_wp2_with fail
    go_ret2
    exact ⟨a8,n8,c8,by rw [HC.out];rfl,HP8.out,HB8.out⟩
   ·have hne:A≠[]:=fun e=>h0 (by rw [e];rfl)
    by_cases h1:f < (A.length:Int)
    ·have HC:=zh (show cnt enc A=(n8:Nat) by unfold cnt;rw [if_pos (.inr (by rw [← HFB.out.1];exact h1)),HP8.out.1])
     go_wp2_with fail
     go_ret2
     exact ⟨a8,n8,c8,by rw [HC.out];rfl,HP8.out,HB8.out⟩
    ·have HC:=zh (show cnt enc A=(n:Nat) by unfold cnt;rw [if_neg (by rw [← HFB.out.1];omega),HFB.out.2])
     go_wp2_with fail
     go_ret2
     exact ⟨a8,n8,c8,by rw [HC.out];rfl,HP8.out,HB8.out⟩
open Go.RowKit
theorem rCount_any (enc:Int) (va:Value) (A:List Int) (w:World) (hA:Rd .i64 w va A) (hl:A.length≤65536):Calls Tryz.prog 71 #[va] w fun e w'=>e=.returned (.int .i64 (cnt enc A))∧Below w.heap.size w w':=by
 have AL:=zh (rAll_any enc va A w hA hl)
 clear hA hl
 go_enter Tryz.func71,Tryz.ntmps71
 go_wp2_with (go_at_call 40;refine AL.out.mono ?_;rintro e w1 ⟨ao,n,cap,rfl,_,hb⟩;have HB:=zh hb;clear hb;(try dsimp only))
 go_ret
 exact ⟨rfl,HB.out⟩
theorem cells4 {w:World} {b:Nat} {T:TypeId} {v0 v1 v2 v3:Value} (h:w.heap[b]?=some (.cells #[v0,v1,v2,v3] T (0,0))):b < w.heap.size∧w.cell? ⟨b,0,none⟩=some v0∧w.cell? ⟨b,1,none⟩=some v1∧w.cell? ⟨b,2,none⟩=some v2∧w.cell? ⟨b,3,none⟩=some v3∧(∀ i,w.frozen? ⟨b,i,none⟩=false):=by
 refine ⟨(Array.getElem?_eq_some_iff.1 h).1,?_,?_,?_,?_,fun i=>by simp [World.frozen?,h]⟩ <;> (rw [cell_of_row _ _ _ _ _ _ h];rfl)
theorem below4 {w w0 w1:World} {T:TypeId} {cs:Array Value} (hb0:Below w.heap.size w w0) (hg:w1.heap[w.heap.size]?=some (.cells cs T (0,0))) (hb:Below w0.heap.size w0 w1) (v0 v1 v2 v3:Value):Below w.heap.size w ((((w1.setCell ⟨w.heap.size,0,none⟩ v0).setCell ⟨w.heap.size,1,none⟩ v1).setCell ⟨w.heap.size,2,none⟩ v2).setCell ⟨w.heap.size,3,none⟩ v3):=by
 obtain ⟨h1,g1⟩:=set1 hg 0 v0
 obtain ⟨h2,g2⟩:=set1 h1 1 v1
 obtain ⟨h3,g3⟩:=set1 h2 2 v2
 obtain ⟨_,g4⟩:=set1 h3 3 v3
 exact zbp (zxt hb0 hb) (zxt hb0 hb).size (zgt (zgt (zgt g1 g2) g3) g4) (Nat.le_refl _)
def lnA (enc:Int) (A:List Int) (k:Int):Ln:=if k < 0∨(spn enc A).b < k then ⟨0,0,0,0⟩ else lnK enc A k
def lnE (enc:Int) (A:List Int) (k:Int):Int:=if k < 0∨(spn enc A).b < k then 2 else 0
set_option maxHeartbeats 4000000 in
theorem rAt_any (enc:Int) (va:Value) (A:List Int) (k:Int) (w:World) (hA:Rd .i64 w va A) (hl:A.length≤65536):Calls Tryz.prog 126 #[va,.int .i64 k] w fun e w'=>e=.returned (.tuple #[.agg #[.int .i64 (lnA enc A k).f,.int .i64 (lnA enc A k).t,.int .i64 (lnA enc A k).n,.int .i64 (lnA enc A k).b],.int .i64 (lnE enc A k)])∧Below w.heap.size w w':=by
 have sL:=spn_len enc A
 have sN:=spn_nn enc A
 obtain ⟨w0,hw0,kk0,hb0⟩:∃ w0,w0=w.alloc (.cells #[.int .i64 0,.int .i64 0,.int .i64 0,.int .i64 0] 85)∧w0.heap[w.heap.size]?=some (.cells #[.int .i64 0,.int .i64 0,.int .i64 0,.int .i64 0] 85 (0,0))∧Below w.heap.size w w0:=⟨_,rfl,heap_alloc_new _ _,zxa (Below.refl _ _) _⟩
 have AL:=zh (rAll_any enc va A w0 (hA.ext hb0) hl)
 clear hA
 have HB0:=zh hb0
 have HK0:=zh kk0
 by_cases h0:k < 0
 ·have HE:Hid (lnA enc A k=⟨0,0,0,0⟩∧lnE enc A k=2):=⟨by unfold lnA;rw [if_pos (.inl h0)],by unfold lnE;rw [if_pos (.inl h0)]⟩
  clear hb0 kk0
  go_enter Tryz.func126,Tryz.ntmps126
  go_upto_region 1 with fail
  rw [← hw0]
  clear hw0
  go_wp2_with (go_at_call 40;refine AL.out.mono ?_;rintro e w1 ⟨ao,n,cap,rfl,hn,hb⟩;have HB:=zh hb;have HX:=zh ((hb.block _ (Array.getElem?_eq_some_iff.1 HK0.out).1).trans HK0.out);obtain ⟨hlt,c0,c1,c2,c3,fz⟩:=cells4 HX.out;clear hb;(try dsimp only))
  exact bodyPost_ret (v:=.tuple #[.agg #[.int .i64 0,.int .i64 0,.int .i64 0,.int .i64 0],.int .i64 2]) (by simp [results,Tryz.results126,go_sem,c0,c1,c2,c3]) rfl ⟨by rw [HE.out.1,HE.out.2],below4 HB0.out HX.out HB.out _ _ _ _⟩
 ·by_cases h1:(spn enc A).b < k
  ·have HE:Hid (lnA enc A k=⟨0,0,0,0⟩∧lnE enc A k=2):=⟨by unfold lnA;rw [if_pos (.inr h1)],by unfold lnE;rw [if_pos (.inr h1)]⟩
   have HK1:=zh h1
   clear hb0 kk0 h1 sL sN
   go_enter Tryz.func126,Tryz.ntmps126
   go_upto_region 1 with fail
   rw [← hw0]
   clear hw0
   go_wp2_with (go_at_call 40;refine AL.out.mono ?_;rintro e w1 ⟨ao,n,cap,rfl,hn,hb⟩;have HB:=zh hb;have HX:=zh ((hb.block _ (Array.getElem?_eq_some_iff.1 HK0.out).1).trans HK0.out);obtain ⟨hlt,c0,c1,c2,c3,fz⟩:=cells4 HX.out;clear hb;have hkn:((n:Nat):Int)≤k:=(by have:=hn.out.1;have:=HK1.out;omega);(try dsimp only))
   exact bodyPost_ret (v:=.tuple #[.agg #[.int .i64 0,.int .i64 0,.int .i64 0,.int .i64 0],.int .i64 2]) (by simp [results,Tryz.results126,go_sem,c0,c1,c2,c3]) rfl ⟨by rw [HE.out.1,HE.out.2],below4 HB0.out HX.out HB.out _ _ _ _⟩
  ·have HE:Hid (lnA enc A k=lnK enc A k∧lnE enc A k=0):=⟨by unfold lnA;rw [if_neg (by omega)],by unfold lnE;rw [if_neg (by omega)]⟩
   obtain ⟨i,rfl⟩:∃ i:Nat,k=i:=⟨k.toNat,by omega⟩
   have HK1:=zh h1
   have hi9:i≤65536:=by have:=spn_len enc A;omega
   clear hb0 kk0 h1 sL sN
   go_enter Tryz.func126,Tryz.ntmps126
   go_upto_region 1 with fail
   rw [← hw0]
   clear hw0
   go_wp2_with (go_at_call 40;refine AL.out.mono ?_;rintro e w1 ⟨ao,n,cap,rfl,hn,hb⟩;have HB:=zh hb;have HX:=zh ((hb.block _ (Array.getElem?_eq_some_iff.1 HK0.out).1).trans HK0.out);obtain ⟨hlt,c0,c1,c2,c3,fz⟩:=cells4 HX.out;clear hb;have hkn:¬ ((n:Nat):Int)≤(i:Int):=(by have:=hn.out.1;have:=HK1.out;omega);have hin:i < n:=(by omega);obtain ⟨ao',cap',e1,_,_,r5⟩:=hn.out.2.rd;rw [lns_len] at e1;simp only [Value.slice.injEq] at e1;obtain ⟨rfl,_,rfl⟩:=e1;obtain ⟨g,rfl,hg,hc⟩:=r5 (by intro e;have:=congrArg List.length e;rw [lns_len] at this;simp at this;omega);obtain ⟨d0,d1,d2,d3⟩:=hc i _ (lns_at enc A n i hin);generalize lnK enc A ((i:Nat):Int)=y at *;clear hc hn;(try dsimp only))
   exact bodyPost_ret (v:=.tuple #[.agg #[.int .i64 y.f,.int .i64 y.t,.int .i64 y.n,.int .i64 y.b],.int .i64 0]) (by simp [results,Tryz.results126,go_sem,c0,c1,c2,c3]) rfl ⟨by rw [HE.out.1,HE.out.2],below4 HB0.out HX.out HB.out _ _ _ _⟩
set_option maxHeartbeats 4000000 in
theorem rOf_any (enc:Int) (va:Value) (A:List Int) (z:Int) (w:World) (hA:Rd .i64 w va A) (hl:A.length≤65536):Calls Tryz.prog 103 #[va,.int .i64 z] w fun e w'=>e=.returned (.int .i64 (brk enc A z))∧Below w.heap.size w w':=by
 have AL:=zh (rAll_any enc va A w hA hl)
 obtain ⟨k,hk⟩:∃ k:Nat,(k:Int)=brk enc A z:=⟨(brk enc A z).toNat,by rw [brk_at];have:=bAt_nn enc A z.toNat;omega⟩
 obtain ⟨hF1,hF2⟩:=of_first enc A z k hk
 have hkB:(k:Int)≤(spn enc A).b:=by rw [hk,brk_at];exact bAt_le enc A _
 have sL:=spn_len enc A
 have HF1:=zh hF1
 have HF2:=zh hF2
 have HK:=zh hk
 have HKB:=zh hkB
 have HSL:Hid ((spn enc A).b≤65536):=by unfold Hid;omega
 clear hA hF1 hF2 hk hkB sL
 rw [← HK.out]
 go_enter Tryz.func103,Tryz.ntmps103
 go_upto_block 0 with (go_at_call 40;refine AL.out.mono ?_;rintro e w1 ⟨ao,n,cap,rfl,hn,hb⟩;have HB:=zh hb;have hn9:n≤65537:=(by have:=hn.out.1;have:=HSL.out;omega);have hkn:k < n:=(by have:=hn.out.1;have:=HKB.out;omega);have HN:=zh hn.out.1;obtain ⟨ao',cap',e1,hcap,_,r5⟩:=hn.out.2.rd;rw [lns_len] at e1 hcap;simp only [Value.slice.injEq] at e1;obtain ⟨rfl,_,rfl⟩:=e1;obtain ⟨g,rfl,hg,hc⟩:=r5 (by intro e;have:=congrArg List.length e;rw [lns_len] at this;simp at this;omega);have HC:Hid (∀ i,i < n→w1.cell? ⟨g,i * 4 + 2,none⟩=some (.int .i64 (lnK enc A (i:Nat)).n)):=(fun i hi=>(hc i _ (lns_at enc A n i hi)).2.2.1);clear hb hn r5 hc;(try dsimp only))
 go_wp2_with fail
 go_loopg [7] n (fun gk p wr=>∃ i:Nat,i + gk=n∧p=.int .i64 (i:Nat)∧i≤k + 1∧(i≤k∨i=n)∧wr=w1)
 case atStart=>exact ⟨0,by omega,rfl,by omega,by omega,rfl⟩
 case round =>
  obtain ⟨i,hig,rfl,hi1,hi2,rfl⟩:=hrel
  by_cases hlt:i < n
  ·have hik:i≤k:=by omega
   have hltI:(i:Int) < (n:Int):=by omega
   have ci:=HC.out i hlt
   rcases Nat.lt_or_eq_of_le hik with h1 | h1
   ·have hz:¬ z < (lnK enc A (i:Nat)).n:=by have:=HF1.out i h1;omega
    generalize (lnK enc A (i:Nat)).n=q at *
    go_wp2_with fail
    go_roundg (n - (i + 1))
    case rel=>exact ⟨i + 1,by omega,by go_num,by omega,by omega,rfl⟩
    case measure=>omega
   ·subst h1
    by_cases hz:z < (lnK enc A (i:Nat)).n
    ·generalize (lnK enc A (i:Nat)).n=q at *
     go_wp2_with fail
     go_ret
     exact ⟨rfl,HB.out⟩
    ·have hin:i + 1=n:=by
      have:=HN.out
      rcases Int.lt_or_le (i:Int) (spn enc A).b with h | h
      ·exact absurd (HF2.out h) hz
      ·have:=HKB.out;omega
     generalize (lnK enc A (i:Nat)).n=q at *
     go_wp2_with fail
     go_roundg (n - (i + 1))
     case rel=>exact ⟨i + 1,by omega,by go_num,by omega,by omega,rfl⟩
     case measure=>omega
  ·have hin:i=n:=by omega
   subst hin
   have hnl:¬ (i:Int) < (i:Int):=by omega
   have hw:IntKind.i64.wrap ((i:Int) - 1)=(k:Nat):=by rw [IntKind.wrap_i64];omega
   go_wp2_with fail
   go_ret
   exact ⟨rfl,HB.out⟩
open Go.RowKit
theorem sub_one (A:List Int) (p:Int):sub A p (p + 1)=if 0≤p then (A[p.toNat]?).toList else []:=by
 unfold sub clp
 by_cases h0:0≤p
 ·rw [if_pos h0]
  by_cases h1:p.toNat < A.length
  ·rw [if_neg (by omega),List.getElem?_eq_getElem h1]
   simp only
   rw [show (max p 0).toNat=p.toNat by omega,show (min (p + 1) (A.length:Int)).toNat - p.toNat=1 by omega,List.drop_eq_getElem_cons h1]
   rfl
  ·rw [if_pos (by omega),List.getElem?_eq_none (by omega)]
   simp
 ·rw [if_neg h0,if_pos (by omega)]
  simp
def isA (A:List Int) (p x:Int):Bool:=decide (0≤p∧A[p.toNat]?=some x)
theorem isAtom_any (enc:Int) (w:World) (t:Nat) (A:List Int) (p x:Int) (h:Tz enc w t A) (h1:-9≤p) (h2:p≤1099511627776):Calls Tryz.prog 58 #[.pointer (some ⟨t,0,none⟩),.int .i64 p,.int .i64 x] w fun e w'=>e=.returned (.bool (isA A p x))∧Below w.heap.size w w':=by
 have hw:IntKind.i64.wrap (p + 1)=p + 1:=by rw [IntKind.wrap_i64];omega
 have AT:=zh (Atoms_z enc w t A p (p + 1) h)
 rw [sub_one] at AT
 clear h
 by_cases hc:0≤p∧p.toNat < A.length
 ·obtain ⟨y,hy⟩:∃ y,A[p.toNat]?=some y:=⟨_,List.getElem?_eq_getElem hc.2⟩
  rw [if_pos hc.1,hy] at AT
  have HA:Hid (isA A p x=decide (y=x)):=by unfold Hid isA;simp [hc.1,hy]
  clear hc
  go_enter Tryz.func58,Tryz.ntmps58
  go_wp2_with (go_at_call 32;refine AT.out.mono ?_;rintro e w1 ⟨v,rfl,ho,hb⟩;obtain ⟨g,cap,rfl,hg,hl,hm,hcc⟩:=OwnI.row ho (by simp);have c0:w1.cell? ⟨g,0,none⟩=some (.int .i64 y):=hcc 0 _ rfl;have HB:=zh hb;clear hb ho hcc;(try dsimp only [Option.toList,List.length_cons,List.length_nil,Nat.zero_add] at *))
  go_ret
  exact ⟨by rw [HA.out];rfl,HB.out⟩
 ·have e:(if 0≤p then (A[p.toNat]?).toList else [])=[]:=by
   split
   ·rw [List.getElem?_eq_none (by omega)];rfl
   ·rfl
  rw [e] at AT
  have HA:Hid (isA A p x=false):=by
   unfold Hid isA
   rw [decide_eq_false_iff_not]
   rintro ⟨q1,q2⟩
   exact hc ⟨q1,(List.getElem?_eq_some_iff.1 q2).1⟩
  clear e hc
  go_enter Tryz.func58,Tryz.ntmps58
  go_wp2_with (go_at_call 32;refine AT.out.mono ?_;rintro e w1 ⟨v,rfl,ho,hb⟩;obtain ⟨ao,cap,rfl⟩:=ho.form;have HB:=zh hb;clear hb ho;(try dsimp only [List.length_nil]))
  go_ret
  exact ⟨by rw [HA.out];rfl,HB.out⟩
end Go.Proofs.YtjomfbegghgbdaaGreat.P
