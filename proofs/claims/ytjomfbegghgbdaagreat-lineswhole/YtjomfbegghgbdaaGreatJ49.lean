import Derived.Test.YtjomfbegghgbdaaGreatJ00
import Derived.Test.YtjomfbegghgbdaaGreatJ33
import Derived.Test.YtjomfbegghgbdaaGreatJ40
import Derived.Deep.RegionHeld3
import Derived.OrdersHeld
namespace Go.Proofs.YtjomfbegghgbdaaGreat.P
open Go.RowKit
set_option maxRecDepth 100000 in
set_option maxHeartbeats 8000000 in
theorem rWhole_any (enc:Int) (va:Value) (A:List Int) (f l:Int) (w:World) (hA:Rd .i64 w va A) (hl:A.length≤65536):Calls Tryz.prog 131 #[va,.int .i64 f,.int .i64 l] w fun e w'=>e=.returned (.tuple #[.int .i64 (whA enc A f l).f,.int .i64 (whA enc A f l).t,.int .i64 (whA enc A f l).e])∧Below w.heap.size w w':=by
 have AL:=hidIt (rAll_any enc va A w hA hl)
 clear hA
 by_cases h0:f < 0
 ·have HE:=hidIt (show whA enc A f l=⟨0,0,0,2⟩ by unfold whA;rw [if_pos (.inl h0)])
  go_enter Tryz.func131,Tryz.ntmps131
  go_wp2_with (go_at_call 40;refine AL.out.mono ?_;rintro e w1 ⟨ao,n,cap,rfl,hn,hb⟩;have HB:=hidIt hb;clear hb hn;(try dsimp only))
  exact bodyPost_ret (v:=.tuple #[.int .i64 0,.int .i64 0,.int .i64 2]) (by simp [results,Tryz.results131,go_sem]) rfl ⟨by rw [HE.out],HB.out⟩
 by_cases h1:l < f
 ·have HE:=hidIt (show whA enc A f l=⟨0,0,0,2⟩ by unfold whA;rw [if_pos (.inr (.inl h1))])
  go_enter Tryz.func131,Tryz.ntmps131
  go_wp2_with (go_at_call 40;refine AL.out.mono ?_;rintro e w1 ⟨ao,n,cap,rfl,hn,hb⟩;have HB:=hidIt hb;clear hb hn;(try dsimp only))
  exact bodyPost_ret (v:=.tuple #[.int .i64 0,.int .i64 0,.int .i64 2]) (by simp [results,Tryz.results131,go_sem]) rfl ⟨by rw [HE.out],HB.out⟩
 by_cases h2:cnt enc A≤l
 ·have HE:=hidIt (show whA enc A f l=⟨0,0,0,2⟩ by unfold whA;rw [if_pos (.inr (.inr h2))])
  generalize cnt enc A=z at *
  go_enter Tryz.func131,Tryz.ntmps131
  go_wp2_with (go_at_call 40;refine AL.out.mono ?_;rintro e w1 ⟨ao,n,cap,rfl,hn,hb⟩;have HB:=hidIt hb;clear hb hn;(try dsimp only))
  exact bodyPost_ret (v:=.tuple #[.int .i64 0,.int .i64 0,.int .i64 2]) (by simp [results,Tryz.results131,go_sem]) rfl ⟨by rw [HE.out],HB.out⟩
 have hc:=cnt_le enc A
 have sL:=spn_len enc A
 obtain ⟨i,rfl⟩:∃ i:Nat,f=i:=⟨f.toNat,by omega⟩
 obtain ⟨j,rfl⟩:∃ j:Nat,l=j:=⟨l.toNat,by omega⟩
 have HJ:=hidIt (show (j:Int) < (spn enc A).b + 1 by omega)
 have hij:i≤j:=by omega
 have hj9:j≤65536:=by omega
 have HE:=hidIt (show whA enc A i j=if (lnK enc A (j:Nat)).b=0∧0 < (i:Int)∧(lnK enc A ((i:Int) - 1)).f < (lnK enc A ((i:Int) - 1)).t then ⟨(lnK enc A ((i:Int) - 1)).t,(lnK enc A (j:Nat)).n,1,0⟩ else ⟨(lnK enc A (i:Nat)).f,(lnK enc A (j:Nat)).n,1,0⟩ by unfold whA;rw [if_neg (by omega)])
 clear hc sL
 go_enter Tryz.func131,Tryz.ntmps131
 go_upto_region 2 with (go_at_call 40;refine AL.out.mono ?_;rintro e w1 ⟨ao,n,cap,rfl,hn,hb⟩;have HB:=hidIt hb;have hjn:j < n:=(by have:=hn.out.1;have:=HJ.out;omega);obtain ⟨ao',cap',e1,hcap,_,r5⟩:=hn.out.2.rd;rw [lns_len] at e1 hcap;simp only [Value.slice.injEq] at e1;obtain ⟨rfl,_,rfl⟩:=e1;obtain ⟨g,rfl,hg,hc⟩:=r5 (by intro e;have:=congrArg List.length e;rw [lns_len] at this;simp at this;omega);have HC:Hid (∀ k,k < n→w1.cell? ⟨g,k * 4,none⟩=some (.int .i64 (lnK enc A (k:Nat)).f)∧w1.cell? ⟨g,k * 4 + 1,none⟩=some (.int .i64 (lnK enc A (k:Nat)).t)∧w1.cell? ⟨g,k * 4 + 2,none⟩=some (.int .i64 (lnK enc A (k:Nat)).n)∧w1.cell? ⟨g,k * 4 + 3,none⟩=some (.int .i64 (lnK enc A (k:Nat)).b)):=(fun k hk=>hc k _ (lns_at enc A n k hk));clear hb hn r5 hc;(try dsimp only))
 have hin:i < n:=by omega
 obtain ⟨_,_,y2,y3⟩:=HC.out j hjn
 obtain ⟨x0,_,_,_⟩:=HC.out i hin
 generalize cnt enc A=z at *
 by_cases hy:(lnK enc A (j:Nat)).b=0
 ·rw [hy] at y3
  by_cases hpos:0 < (i:Int)
  ·obtain ⟨k,hk⟩:∃ k:Nat,(i:Int) - 1=k:=⟨i - 1,by omega⟩
   have hpn:0 < i:=by omega
   have hkn:k < n:=by omega
   obtain ⟨u0,u1,_,_⟩:=HC.out k hkn
   have hwk:IntKind.i64.wrap ((i:Int) - 1)=(k:Nat):=by rw [IntKind.wrap_i64];omega
   rw [hk] at HE
   by_cases hu:(lnK enc A (k:Nat)).f < (lnK enc A (k:Nat)).t
   ·have HE2:=hidIt (HE.out.trans (if_pos ⟨hy,hpos,hu⟩))
    generalize lnK enc A (j:Nat)=y at *
    generalize lnK enc A (i:Nat)=x at *
    generalize lnK enc A (k:Nat)=u at *
    clear hk HE HC
    go_upto_region 4 with fail
    refine wp_region_held_drew (S:=fun w''=>w''.cell? ⟨g,i * 4,none⟩=some (.int .i64 x.f)∧w''.cell? ⟨g,j * 4 + 2,none⟩=some (.int .i64 y.n)∧w''.cell? ⟨g,j * 4 + 3,none⟩=some (.int .i64 0)∧w''.cell? ⟨g,k * 4,none⟩=some (.int .i64 u.f)∧w''.cell? ⟨g,k * 4 + 1,none⟩=some (.int .i64 u.t)) (by kernel_rfl) (⟨x0,y2,y3,u0,u1⟩) (fun hHeld=>?_)
    refine tkH 0 rfl ?_
    try simp only [Act.put,tS]
    refine tkH 1 rfl ?_
    try simp only [Act.put,tS]
    refine tkH 2 rfl ?_
    try simp only [Act.put,tS]
    refine tkH 3 rfl ?_
    try simp only [Act.put,tS]
    refine tkH 4 rfl ?_
    try simp only [Act.put,tS]
    refine tkH 5 rfl ?_
    try simp only [Act.put,tS]
    refine tkH 6 rfl ?_
    try simp only [Act.put,tS]
    refine tkH 7 rfl ?_
    try simp only [Act.put,tS]
    refine tkH 8 rfl ?_
    try simp only [Act.put,tS]
    refine tkH 9 rfl ?_
    try simp only [Act.put,tS]
    refine tkH 10 rfl ?_
    try simp only [Act.put,tS]
    refine tkH 11 rfl ?_
    try simp only [Act.put,tS]
    refine tkH 12 rfl ?_
    try simp only [Act.put,tS]
    refine tkH 13 rfl ?_
    try simp only [Act.put,tS]
    refine tkH 14 rfl ?_
    try simp only [Act.put,tS]
    refine tkH 15 rfl ?_
    try simp only [Act.put,tS]
    refine tkH 16 rfl ?_
    try simp only [Act.put,tS]
    refine tkH 17 rfl ?_
    try simp only [Act.put,tS]
    refine tkH 18 rfl ?_
    try simp only [Act.put,tS]
    refine tkH 19 rfl ?_
    try simp only [Act.put,tS]
    refine tkH 20 rfl ?_
    try simp only [Act.put,tS]
    refine tkH 21 rfl ?_
    try simp only [Act.put,tS]
    refine tkH 22 rfl ?_
    try simp only [Act.put,tS]
    refine tkH 23 rfl ?_
    try simp only [Act.put,tS]
    refine tkH 24 rfl ?_
    try simp only [Act.put,tS]
    refine wpAnyH_done (by kernel_rfl) ?_ _
    go_upto_region 5 with fail
    refine wp_region_held_drew (S:=fun w''=>w''.cell? ⟨g,i * 4,none⟩=some (.int .i64 x.f)∧w''.cell? ⟨g,j * 4 + 2,none⟩=some (.int .i64 y.n)∧w''.cell? ⟨g,j * 4 + 3,none⟩=some (.int .i64 0)∧w''.cell? ⟨g,k * 4,none⟩=some (.int .i64 u.f)∧w''.cell? ⟨g,k * 4 + 1,none⟩=some (.int .i64 u.t)) (by kernel_rfl) (hHeld) (fun hHeld=>?_)
    refine tkH 0 rfl ?_
    try simp only [Act.put,tS]
    refine tkH 1 rfl ?_
    try simp only [Act.put,tS]
    refine tkH 2 rfl ?_
    try simp only [Act.put,tS]
    refine tkH 3 rfl ?_
    try simp only [Act.put,tS]
    refine tkH 4 rfl ?_
    try simp only [Act.put,tS]
    refine tkH 5 rfl ?_
    try simp only [Act.put,tS]
    refine tkH 6 rfl ?_
    try simp only [Act.put,tS]
    refine tkH 7 rfl ?_
    try simp only [Act.put,tS]
    refine tkH 8 rfl ?_
    try simp only [Act.put,tS]
    refine tkH 9 rfl ?_
    try simp only [Act.put,tS]
    refine tkH 10 rfl ?_
    try simp only [Act.put,tS]
    refine tkH 11 rfl ?_
    try simp only [Act.put,tS]
    refine tkH 12 rfl ?_
    try simp only [Act.put,tS]
    refine tkH 13 rfl ?_
    try simp only [Act.put,tS]
    refine wpAnyH_done (by kernel_rfl) ?_ _
    go_wp2_with fail
    exact bodyPost_ret (v:=.tuple #[.int .i64 u.t,.int .i64 y.n,.int .i64 0]) (by simp [results,Tryz.results131,go_sem]) rfl ⟨by first | rw [HE2.out] | rw [show whA enc A 0 j=_ from HE2.out],by first | exact HB.out | exact HB.out.drew | exact HB.out.drew.drew⟩
   ·have HE2:=hidIt (HE.out.trans (if_neg (fun e=>hu e.2.2)))
    generalize lnK enc A (j:Nat)=y at *
    generalize lnK enc A (i:Nat)=x at *
    generalize lnK enc A (k:Nat)=u at *
    clear hk HE HC
    go_upto_region 4 with fail
    refine wp_region_held_drew (S:=fun w''=>w''.cell? ⟨g,i * 4,none⟩=some (.int .i64 x.f)∧w''.cell? ⟨g,j * 4 + 2,none⟩=some (.int .i64 y.n)∧w''.cell? ⟨g,j * 4 + 3,none⟩=some (.int .i64 0)∧w''.cell? ⟨g,k * 4,none⟩=some (.int .i64 u.f)∧w''.cell? ⟨g,k * 4 + 1,none⟩=some (.int .i64 u.t)) (by kernel_rfl) (⟨x0,y2,y3,u0,u1⟩) (fun hHeld=>?_)
    refine tkH 0 rfl ?_
    try simp only [Act.put,tS]
    refine tkH 1 rfl ?_
    try simp only [Act.put,tS]
    refine tkH 2 rfl ?_
    try simp only [Act.put,tS]
    refine tkH 3 rfl ?_
    try simp only [Act.put,tS]
    refine tkH 4 rfl ?_
    try simp only [Act.put,tS]
    refine tkH 5 rfl ?_
    try simp only [Act.put,tS]
    refine tkH 6 rfl ?_
    try simp only [Act.put,tS]
    refine tkH 7 rfl ?_
    try simp only [Act.put,tS]
    refine tkH 8 rfl ?_
    try simp only [Act.put,tS]
    refine tkH 9 rfl ?_
    try simp only [Act.put,tS]
    refine tkH 10 rfl ?_
    try simp only [Act.put,tS]
    refine tkH 11 rfl ?_
    try simp only [Act.put,tS]
    refine tkH 12 rfl ?_
    try simp only [Act.put,tS]
    refine tkH 13 rfl ?_
    try simp only [Act.put,tS]
    refine tkH 14 rfl ?_
    try simp only [Act.put,tS]
    refine tkH 15 rfl ?_
    try simp only [Act.put,tS]
    refine tkH 16 rfl ?_
    try simp only [Act.put,tS]
    refine tkH 17 rfl ?_
    try simp only [Act.put,tS]
    refine tkH 18 rfl ?_
    try simp only [Act.put,tS]
    refine tkH 19 rfl ?_
    try simp only [Act.put,tS]
    refine tkH 20 rfl ?_
    try simp only [Act.put,tS]
    refine tkH 21 rfl ?_
    try simp only [Act.put,tS]
    refine tkH 22 rfl ?_
    try simp only [Act.put,tS]
    refine tkH 23 rfl ?_
    try simp only [Act.put,tS]
    refine tkH 24 rfl ?_
    try simp only [Act.put,tS]
    refine wpAnyH_done (by kernel_rfl) ?_ _
    go_upto_region 6 with fail
    refine wp_region_held_drew (S:=fun w''=>w''.cell? ⟨g,i * 4,none⟩=some (.int .i64 x.f)∧w''.cell? ⟨g,j * 4 + 2,none⟩=some (.int .i64 y.n)∧w''.cell? ⟨g,j * 4 + 3,none⟩=some (.int .i64 0)∧w''.cell? ⟨g,k * 4,none⟩=some (.int .i64 u.f)∧w''.cell? ⟨g,k * 4 + 1,none⟩=some (.int .i64 u.t)) (by kernel_rfl) (hHeld) (fun hHeld=>?_)
    refine tkH 0 rfl ?_
    try simp only [Act.put,tS]
    refine tkH 1 rfl ?_
    try simp only [Act.put,tS]
    refine tkH 2 rfl ?_
    try simp only [Act.put,tS]
    refine tkH 3 rfl ?_
    try simp only [Act.put,tS]
    refine tkH 4 rfl ?_
    try simp only [Act.put,tS]
    refine tkH 5 rfl ?_
    try simp only [Act.put,tS]
    refine tkH 6 rfl ?_
    try simp only [Act.put,tS]
    refine tkH 7 rfl ?_
    try simp only [Act.put,tS]
    refine tkH 8 rfl ?_
    try simp only [Act.put,tS]
    refine tkH 9 rfl ?_
    try simp only [Act.put,tS]
    refine tkH 10 rfl ?_
    try simp only [Act.put,tS]
    refine tkH 11 rfl ?_
    try simp only [Act.put,tS]
    refine tkH 12 rfl ?_
    try simp only [Act.put,tS]
    refine wpAnyH_done (by kernel_rfl) ?_ _
    go_wp2_with fail
    exact bodyPost_ret (v:=.tuple #[.int .i64 x.f,.int .i64 y.n,.int .i64 0]) (by simp [results,Tryz.results131,go_sem]) rfl ⟨by first | rw [HE2.out] | rw [show whA enc A 0 j=_ from HE2.out],by first | exact HB.out | exact HB.out.drew | exact HB.out.drew.drew⟩
  ·have HE2:=hidIt (HE.out.trans (if_neg (fun e=>hpos e.2.1)))
   obtain rfl:i=0:=by omega
   generalize lnK enc A (j:Nat)=y at *
   generalize lnK enc A ((0:Nat):Int)=x at *
   simp only [Nat.zero_mul] at x0
   go_upto_region 4 with fail
   refine wp_region_held_drew (S:=fun w''=>w''.cell? ⟨g,0,none⟩=some (.int .i64 x.f)∧w''.cell? ⟨g,j * 4 + 2,none⟩=some (.int .i64 y.n)∧w''.cell? ⟨g,j * 4 + 3,none⟩=some (.int .i64 0)) (by kernel_rfl) (⟨x0,y2,y3⟩) (fun hHeld=>?_)
   refine tkH 0 rfl ?_
   try simp only [Act.put,tS]
   refine tkH 1 rfl ?_
   try simp only [Act.put,tS]
   refine tkH 2 rfl ?_
   try simp only [Act.put,tS]
   refine tkH 3 rfl ?_
   try simp only [Act.put,tS]
   refine tkH 4 rfl ?_
   try simp only [Act.put,tS]
   refine tkH 5 rfl ?_
   try simp only [Act.put,tS]
   refine tkH 6 rfl ?_
   try simp only [Act.put,tS]
   refine tkH 7 rfl ?_
   try simp only [Act.put,tS]
   refine tkH 8 rfl ?_
   try simp only [Act.put,tS]
   refine tkH 9 rfl ?_
   try simp only [Act.put,tS]
   refine tkH 10 rfl ?_
   try simp only [Act.put,tS]
   refine wpAnyH_take (i:=11) (oi:=_) (v:=undef) rfl (by kernel_rfl) (by kernel_rfl) (by kernel_rfl) (fun _ _ _ h=>h) (Or.inr ⟨by rfl,rfl⟩) (by assumption) ?_
   try simp only [Act.put,tS]
   refine wpAnyH_take (i:=12) (oi:=_) (v:=undef) rfl (by kernel_rfl) (by kernel_rfl) (by kernel_rfl) (fun _ _ _ h=>h) (Or.inr ⟨by rfl,rfl⟩) (by assumption) ?_
   try simp only [Act.put,tS]
   refine wpAnyH_take (i:=13) (oi:=_) (v:=undef) rfl (by kernel_rfl) (by kernel_rfl) (by kernel_rfl) (fun _ _ _ h=>h) (Or.inr ⟨by rfl,rfl⟩) (by assumption) ?_
   try simp only [Act.put,tS]
   refine wpAnyH_take (i:=14) (oi:=_) (v:=undef) rfl (by kernel_rfl) (by kernel_rfl) (by kernel_rfl) (fun _ _ _ h=>h) (Or.inr ⟨by rfl,rfl⟩) (by assumption) ?_
   try simp only [Act.put,tS]
   refine wpAnyH_take (i:=15) (oi:=_) (v:=undef) rfl (by kernel_rfl) (by kernel_rfl) (by kernel_rfl) (fun _ _ _ h=>h) (Or.inr ⟨by rfl,rfl⟩) (by assumption) ?_
   try simp only [Act.put,tS]
   refine wpAnyH_take (i:=16) (oi:=_) (v:=undef) rfl (by kernel_rfl) (by kernel_rfl) (by kernel_rfl) (fun _ _ _ h=>h) (Or.inr ⟨by rfl,rfl⟩) (by assumption) ?_
   try simp only [Act.put,tS]
   refine wpAnyH_take (i:=17) (oi:=_) (v:=undef) rfl (by kernel_rfl) (by kernel_rfl) (by kernel_rfl) (fun _ _ _ h=>h) (Or.inr ⟨by rfl,rfl⟩) (by assumption) ?_
   try simp only [Act.put,tS]
   refine wpAnyH_take (i:=18) (oi:=_) (v:=undef) rfl (by kernel_rfl) (by kernel_rfl) (by kernel_rfl) (fun _ _ _ h=>h) (Or.inr ⟨by rfl,rfl⟩) (by assumption) ?_
   try simp only [Act.put,tS]
   refine wpAnyH_take (i:=19) (oi:=_) (v:=undef) rfl (by kernel_rfl) (by kernel_rfl) (by kernel_rfl) (fun _ _ _ h=>h) (Or.inr ⟨by rfl,rfl⟩) (by assumption) ?_
   try simp only [Act.put,tS]
   refine wpAnyH_take (i:=20) (oi:=_) (v:=undef) rfl (by kernel_rfl) (by kernel_rfl) (by kernel_rfl) (fun _ _ _ h=>h) (Or.inr ⟨by rfl,rfl⟩) (by assumption) ?_
   try simp only [Act.put,tS]
   refine wpAnyH_take (i:=21) (oi:=_) (v:=undef) rfl (by kernel_rfl) (by kernel_rfl) (by kernel_rfl) (fun _ _ _ h=>h) (Or.inr ⟨by rfl,rfl⟩) (by assumption) ?_
   try simp only [Act.put,tS]
   refine wpAnyH_take (i:=22) (oi:=_) (v:=undef) rfl (by kernel_rfl) (by kernel_rfl) (by kernel_rfl) (fun _ _ _ h=>h) (Or.inr ⟨by rfl,rfl⟩) (by assumption) ?_
   try simp only [Act.put,tS]
   refine wpAnyH_take (i:=23) (oi:=_) (v:=undef) rfl (by kernel_rfl) (by kernel_rfl) (by kernel_rfl) (fun _ _ _ h=>h) (Or.inr ⟨by rfl,rfl⟩) (by assumption) ?_
   try simp only [Act.put,tS]
   refine tkH 24 rfl ?_
   try simp only [Act.put,tS]
   refine wpAnyH_done (by kernel_rfl) ?_ _
   go_upto_region 6 with fail
   refine wp_region_held_drew (S:=fun w''=>w''.cell? ⟨g,0,none⟩=some (.int .i64 x.f)∧w''.cell? ⟨g,j * 4 + 2,none⟩=some (.int .i64 y.n)∧w''.cell? ⟨g,j * 4 + 3,none⟩=some (.int .i64 0)) (by kernel_rfl) (hHeld) (fun hHeld=>?_)
   refine tkH 0 rfl ?_
   try simp only [Act.put,tS]
   refine tkH 1 rfl ?_
   try simp only [Act.put,tS]
   refine tkH 2 rfl ?_
   try simp only [Act.put,tS]
   refine tkH 3 rfl ?_
   try simp only [Act.put,tS]
   refine tkH 4 rfl ?_
   try simp only [Act.put,tS]
   refine tkH 5 rfl ?_
   try simp only [Act.put,tS]
   refine tkH 6 rfl ?_
   try simp only [Act.put,tS]
   refine tkH 7 rfl ?_
   try simp only [Act.put,tS]
   refine tkH 8 rfl ?_
   try simp only [Act.put,tS]
   refine tkH 9 rfl ?_
   try simp only [Act.put,tS]
   refine tkH 10 rfl ?_
   try simp only [Act.put,tS]
   refine tkH 11 rfl ?_
   try simp only [Act.put,tS]
   refine tkH 12 rfl ?_
   try simp only [Act.put,tS]
   refine wpAnyH_done (by kernel_rfl) ?_ _
   go_wp2_with fail
   exact bodyPost_ret (v:=.tuple #[.int .i64 x.f,.int .i64 y.n,.int .i64 0]) (by simp [results,Tryz.results131,go_sem]) rfl ⟨by first | rw [HE2.out] | rw [show whA enc A 0 j=_ from HE2.out],by first | exact HB.out | exact HB.out.drew | exact HB.out.drew.drew⟩
 ·have HE2:=hidIt (HE.out.trans (if_neg (fun e=>hy e.1)))
  generalize lnK enc A (j:Nat)=y at *
  generalize lnK enc A (i:Nat)=x at *
  have hb':(y.b == 0)=false:=by simp [hy]
  go_upto_region 4 with fail
  refine wp_region_held_drew (S:=fun w''=>w''.cell? ⟨g,i * 4,none⟩=some (.int .i64 x.f)∧w''.cell? ⟨g,j * 4 + 2,none⟩=some (.int .i64 y.n)∧w''.cell? ⟨g,j * 4 + 3,none⟩=some (.int .i64 y.b)) (by kernel_rfl) (⟨x0,y2,y3⟩) (fun hHeld=>?_)
  refine tkH 0 rfl ?_
  try simp only [Act.put,tS]
  refine tkH 1 rfl ?_
  try simp only [Act.put,tS]
  refine tkH 2 rfl ?_
  try simp only [Act.put,tS]
  refine tkH 3 rfl ?_
  try simp only [Act.put,tS]
  refine tkH 4 rfl ?_
  try simp only [Act.put,tS]
  refine tkH 5 rfl ?_
  try simp only [Act.put,tS]
  refine tkH 6 rfl ?_
  try simp only [Act.put,tS]
  refine wpAnyH_take (i:=7) (oi:=_) (v:=undef) rfl (by kernel_rfl) (by kernel_rfl) (by kernel_rfl) (fun _ _ _ h=>h) (Or.inr ⟨by rfl,rfl⟩) (by assumption) ?_
  try simp only [Act.put,tS]
  refine wpAnyH_take (i:=8) (oi:=_) (v:=undef) rfl (by kernel_rfl) (by kernel_rfl) (by kernel_rfl) (fun _ _ _ h=>h) (Or.inr ⟨by rfl,rfl⟩) (by assumption) ?_
  try simp only [Act.put,tS]
  refine tkH 9 rfl ?_
  try simp only [Act.put,tS]
  refine tkH 10 rfl ?_
  try simp only [Act.put,tS]
  refine wpAnyH_take (i:=11) (oi:=_) (v:=undef) rfl (by kernel_rfl) (by kernel_rfl) (by kernel_rfl) (fun _ _ _ h=>h) (Or.inr ⟨by rfl,rfl⟩) (by assumption) ?_
  try simp only [Act.put,tS]
  refine wpAnyH_take (i:=12) (oi:=_) (v:=undef) rfl (by kernel_rfl) (by kernel_rfl) (by kernel_rfl) (fun _ _ _ h=>h) (Or.inr ⟨by rfl,rfl⟩) (by assumption) ?_
  try simp only [Act.put,tS]
  refine wpAnyH_take (i:=13) (oi:=_) (v:=undef) rfl (by kernel_rfl) (by kernel_rfl) (by kernel_rfl) (fun _ _ _ h=>h) (Or.inr ⟨by rfl,rfl⟩) (by assumption) ?_
  try simp only [Act.put,tS]
  refine wpAnyH_take (i:=14) (oi:=_) (v:=undef) rfl (by kernel_rfl) (by kernel_rfl) (by kernel_rfl) (fun _ _ _ h=>h) (Or.inr ⟨by rfl,rfl⟩) (by assumption) ?_
  try simp only [Act.put,tS]
  refine wpAnyH_take (i:=15) (oi:=_) (v:=undef) rfl (by kernel_rfl) (by kernel_rfl) (by kernel_rfl) (fun _ _ _ h=>h) (Or.inr ⟨by rfl,rfl⟩) (by assumption) ?_
  try simp only [Act.put,tS]
  refine wpAnyH_take (i:=16) (oi:=_) (v:=undef) rfl (by kernel_rfl) (by kernel_rfl) (by kernel_rfl) (fun _ _ _ h=>h) (Or.inr ⟨by rfl,rfl⟩) (by assumption) ?_
  try simp only [Act.put,tS]
  refine wpAnyH_take (i:=17) (oi:=_) (v:=undef) rfl (by kernel_rfl) (by kernel_rfl) (by kernel_rfl) (fun _ _ _ h=>h) (Or.inr ⟨by rfl,rfl⟩) (by assumption) ?_
  try simp only [Act.put,tS]
  refine wpAnyH_take (i:=18) (oi:=_) (v:=undef) rfl (by kernel_rfl) (by kernel_rfl) (by kernel_rfl) (fun _ _ _ h=>h) (Or.inr ⟨by rfl,rfl⟩) (by assumption) ?_
  try simp only [Act.put,tS]
  refine wpAnyH_take (i:=19) (oi:=_) (v:=undef) rfl (by kernel_rfl) (by kernel_rfl) (by kernel_rfl) (fun _ _ _ h=>h) (Or.inr ⟨by rfl,rfl⟩) (by assumption) ?_
  try simp only [Act.put,tS]
  refine wpAnyH_take (i:=20) (oi:=_) (v:=undef) rfl (by kernel_rfl) (by kernel_rfl) (by kernel_rfl) (fun _ _ _ h=>h) (Or.inr ⟨by rfl,rfl⟩) (by assumption) ?_
  try simp only [Act.put,tS]
  refine wpAnyH_take (i:=21) (oi:=_) (v:=undef) rfl (by kernel_rfl) (by kernel_rfl) (by kernel_rfl) (fun _ _ _ h=>h) (Or.inr ⟨by rfl,rfl⟩) (by assumption) ?_
  try simp only [Act.put,tS]
  refine wpAnyH_take (i:=22) (oi:=_) (v:=undef) rfl (by kernel_rfl) (by kernel_rfl) (by kernel_rfl) (fun _ _ _ h=>h) (Or.inr ⟨by rfl,rfl⟩) (by assumption) ?_
  try simp only [Act.put,tS]
  refine wpAnyH_take (i:=23) (oi:=_) (v:=undef) rfl (by kernel_rfl) (by kernel_rfl) (by kernel_rfl) (fun _ _ _ h=>h) (Or.inr ⟨by rfl,rfl⟩) (by assumption) ?_
  try simp only [Act.put,tS]
  refine tkH 24 rfl ?_
  try simp only [Act.put,tS]
  refine wpAnyH_done (by kernel_rfl) ?_ _
  go_upto_region 6 with fail
  refine wp_region_held_drew (S:=fun w''=>w''.cell? ⟨g,i * 4,none⟩=some (.int .i64 x.f)∧w''.cell? ⟨g,j * 4 + 2,none⟩=some (.int .i64 y.n)∧w''.cell? ⟨g,j * 4 + 3,none⟩=some (.int .i64 y.b)) (by kernel_rfl) (hHeld) (fun hHeld=>?_)
  refine tkH 0 rfl ?_
  try simp only [Act.put,tS]
  refine tkH 1 rfl ?_
  try simp only [Act.put,tS]
  refine tkH 2 rfl ?_
  try simp only [Act.put,tS]
  refine tkH 3 rfl ?_
  try simp only [Act.put,tS]
  refine tkH 4 rfl ?_
  try simp only [Act.put,tS]
  refine tkH 5 rfl ?_
  try simp only [Act.put,tS]
  refine tkH 6 rfl ?_
  try simp only [Act.put,tS]
  refine tkH 7 rfl ?_
  try simp only [Act.put,tS]
  refine tkH 8 rfl ?_
  try simp only [Act.put,tS]
  refine tkH 9 rfl ?_
  try simp only [Act.put,tS]
  refine tkH 10 rfl ?_
  try simp only [Act.put,tS]
  refine tkH 11 rfl ?_
  try simp only [Act.put,tS]
  refine tkH 12 rfl ?_
  try simp only [Act.put,tS]
  refine wpAnyH_done (by kernel_rfl) ?_ _
  go_wp2_with fail
  exact bodyPost_ret (v:=.tuple #[.int .i64 x.f,.int .i64 y.n,.int .i64 0]) (by simp [results,Tryz.results131,go_sem]) rfl ⟨by first | rw [HE2.out] | rw [show whA enc A 0 j=_ from HE2.out],by first | exact HB.out | exact HB.out.drew | exact HB.out.drew.drew⟩
end Go.Proofs.YtjomfbegghgbdaaGreat.P

namespace Go.Proofs.YtjomfbegghgbdaaGreat.P
open Go.RowKit
theorem lay3 {w0 y3:World} {gl:Nat} {T:TypeId} {cs:Array Value} (h:y3.heap[gl]?=some (.cells cs T (0,0))) (hs:cs.size=3) (hb:Below w0.heap.size w0 y3) (hge:w0.heap.size≤gl) (v0 v1 v2:Value) :
  (((y3.setCell ⟨gl,0,none⟩ v0).setCell ⟨gl,1,none⟩ v1).setCell ⟨gl,2,none⟩ v2).heap[gl]?=some (.cells #[v0,v1,v2] T (0,0))∧Below w0.heap.size w0 (((y3.setCell ⟨gl,0,none⟩ v0).setCell ⟨gl,1,none⟩ v1).setCell ⟨gl,2,none⟩ v2):=by
 obtain ⟨h1,g1⟩:=set1 h 0 v0
 obtain ⟨h2,g2⟩:=set1 h1 1 v1
 obtain ⟨h3,g3⟩:=set1 h2 2 v2
 refine ⟨?_,below_put hb hb.size (grown_trans (grown_trans g1 g2) g3) hge⟩
 rw [h3]
 obtain ⟨l⟩:=cs
 match l,hs with
 | [_,_,_],_=>rfl
theorem whA_k (enc:Int) (A:List Int) (f l:Int):((whA enc A f l).e=0∧(whA enc A f l).k=1)∨((whA enc A f l).e=2∧(whA enc A f l).k=0):=by
 unfold whA
 split
 ·exact .inr ⟨rfl,rfl⟩
 ·split
  ·exact .inl ⟨rfl,rfl⟩
  ·exact .inl ⟨rfl,rfl⟩
set_option maxRecDepth 100000 in
set_option maxHeartbeats 8000000 in
theorem wholes_any (enc:Int) (w:World) (g t:Nat) (A:List Int) (m:Nat) (o:Opv) (v:Value) (h:BtW enc w g t A m) (hv:∃ ap np cp,v=.slice ap np cp):Yes 106 w g o v:=by
 intro w1 hb1
 obtain ⟨ap,np,cp,rfl⟩:=hv
 obtain ⟨who,k,a,b,put⟩:=o
 unfold Opv.val
 dsimp only
 obtain ⟨w0,hw0,kk0,hb0⟩:∃ w0,w0=w1.alloc (.cells #[.int .i64 who,.int .i64 k,.int .i64 a,.int .i64 b,.slice ap np cp] 38)∧w0.heap[w1.heap.size]?=some (.cells #[.int .i64 who,.int .i64 k,.int .i64 a,.int .i64 b,.slice ap np cp] 38 (0,0))∧Below w1.heap.size w1 w0:=⟨_,rfl,heap_alloc_new _ _,ext_alloc (Below.refl _ _) _⟩
 have HB0:=hidIt hb0
 have HW0:=hidIt ((h.ext hb1).ext hb0)
 obtain ⟨hlt,c0,c1,c2,c3,c4⟩:=cells5 kk0
 obtain ⟨va,hg,hva⟩:=HW0.out.ex
 obtain ⟨aa,ca,hvv⟩:=hva.form
 subst hvv
 have HGG:=hidIt hg
 have HVA:=hidIt hva
 have hlen:=HW0.out.tz.len
 have HS:Hid (∀ w',Below w0.heap.size w0 w'→w'.cell? ⟨g,0,none⟩=some (.pointer (some ⟨t,0,none⟩))∧w'.cell? ⟨g,1,none⟩=some (.slice aa A.length ca)∧w'.cell? ⟨w1.heap.size,2,none⟩=some (.int .i64 a)∧w'.cell? ⟨w1.heap.size,3,none⟩=some (.int .i64 b)):=fun w' hb=>⟨(hb.cell (p:=⟨g,0,none⟩) HW0.out.lt).trans (cells2 HGG.out).2.1,(hb.cell (p:=⟨g,1,none⟩) HW0.out.lt).trans (cells2 HGG.out).2.2.1,(hb.cell (p:=⟨w1.heap.size,2,none⟩) hlt).trans c2,(hb.cell (p:=⟨w1.heap.size,3,none⟩) hlt).trans c3⟩
 have ks:=HS.out w0 (Below.refl _ _)
 clear hg hva h hb0 hb1 kk0
 have WH:Hid (∀ w',Below w0.heap.size w0 w'→Calls Tryz.prog 29 #[.pointer (some ⟨t,0,none⟩),.int .i64 a,.int .i64 b] w' fun e w''=>e=.returned (.tuple #[.agg #[.int .i64 (whA enc A a b).f,.int .i64 (whA enc A a b).t,.int .i64 (whA enc A a b).k],.int .i64 (whA enc A a b).e])∧Below w'.heap.size w' w''):=fun w' hb=>Whole_z enc w' t A a b (HW0.out.tz.ext hb)
 have RW:Hid (∀ w',Below w0.heap.size w0 w'→Calls Tryz.prog 131 #[.slice aa A.length ca,.int .i64 a,.int .i64 b] w' fun e w''=>e=.returned (.tuple #[.int .i64 (whA enc A a b).f,.int .i64 (whA enc A a b).t,.int .i64 (whA enc A a b).e])∧Below w'.heap.size w' w''):=fun w' hb=>rWhole_any enc _ A a b w' (HVA.out.ext hb).rdi hlen
 have HKK:=hidIt (whA_k enc A a b)
 generalize whA enc A a b=y at *
 go_enter Tryz.func106,Tryz.ntmps106
 go_upto_region 1 with fail
 rw [← hw0]
 clear hw0
 go_cut [5,6] from 11 to 22 (fun p e wF=>∃ gl:Nat,p=.pointer (some ⟨gl,0,none⟩)∧e=.int .i64 y.e∧Hid (wF.heap[gl]?=some (.cells #[.int .i64 y.f,.int .i64 y.t,.int .i64 y.k] 56 (0,0))∧Below w0.heap.size w0 wF))
 case first =>
  refine wp_region_held_drew (S:=fun w''=>w''.cell? ⟨g,0,none⟩=some (.pointer (some ⟨t,0,none⟩))∧w''.cell? ⟨g,1,none⟩=some (.slice aa A.length ca)∧w''.cell? ⟨w1.heap.size,2,none⟩=some (.int .i64 a)∧w''.cell? ⟨w1.heap.size,3,none⟩=some (.int .i64 b)) (by kernel_rfl) (ks) (fun hHeld=>?_)
  refine tkH 0 rfl ?_
  try simp only [Act.put,tS]
  refine tkH 1 rfl ?_
  try simp only [Act.put,tS]
  refine tkH 2 rfl ?_
  try simp only [Act.put,tS]
  refine tkH 3 rfl ?_
  try simp only [Act.put,tS]
  refine tkH 4 rfl ?_
  try simp only [Act.put,tS]
  refine tkH 5 rfl ?_
  try simp only [Act.put,tS]
  refine tkH 6 rfl ?_
  try simp only [Act.put,tS]
  refine tkH 7 rfl ?_
  try simp only [Act.put,tS]
  refine wpAnyH_ready (rs:=[8,12]) (by kernel_rfl) (by simp) ?_
  refine (AllReadyH.cons (o:=_) rfl (fun K hK=>?_) (AllReadyH.cons (o:=_) rfl (fun K hK=>?_) AllReadyH.nil))
  ·skip
   go_simp
   refine (WH.out _ (Below.drew (Below.refl _ _))).mono ?_;rintro e y2 ⟨rfl,hb⟩;have Hy2:=hidIt (ext_trans (Below.drew (Below.refl w0.heap.size w0)) hb);clear hb;clear ks;have ks:=HS.out y2 Hy2.out;try dsimp only
   refine hK.out _ _ ?_ (fun hHeld=>?_)
   ·(try simp only [World.cell?_drew]);exact ks
   clear hK K
   try simp only [Act.put,tS]
   refine tkH 9 rfl ?_
   try simp only [Act.put,tS]
   refine tkH 10 rfl ?_
   try simp only [Act.put,tS]
   refine tkH 11 rfl ?_
   try simp only [Act.put,tS]
   refine rdH 12 rfl fun K hK=>?_
   go_simp
   generalize hwN:World.alloc _ _=y3;have hst:Below y2.heap.size y2 y3:=(by rw [← hwN];exact ext_alloc (Below.refl _ _) _);have HL:Hid (y3.heap[y2.heap.size]?=some (.cells #[.int .i64 0,.int .i64 0,.int .i64 0] 56 (0,0))):=(by unfold Hid;rw [← hwN];exact heap_alloc_new _ _);have Hy3:=hidIt (ext_trans Hy2.out hst);clear hwN hst;clear ks;have ks:=HS.out y3 Hy3.out;have hge:=hidIt Hy2.out.size;obtain ⟨hgl,d0,d1,d2,fz⟩:=cells3 HL.out;try dsimp only
   refine hK.out _ _ ?_ (fun hHeld=>?_)
   ·(try simp only [World.cell?_drew]);exact ks
   clear hK K
   try simp only [Act.put,tS]
   refine rdH 13 rfl fun K hK=>?_
   go_simp
   generalize hwF:World.setCell (World.setCell (World.setCell y3 _ _) _ _) _ _=yF;have HL2:Hid (yF.heap[y2.heap.size]?=some (.cells #[.int .i64 y.f,.int .i64 y.t,.int .i64 y.k] 56 (0,0))):=(by unfold Hid;rw [← hwF];exact (lay3 HL.out rfl Hy3.out hge.out _ _ _).1);have HyF:Hid (Below w0.heap.size w0 yF):=(by unfold Hid;rw [← hwF];exact (lay3 HL.out rfl Hy3.out hge.out _ _ _).2);clear hwF d0 d1 d2 fz hgl;clear ks;have ks:=HS.out yF HyF.out;try dsimp only
   refine hK.out _ _ ?_ (fun hHeld=>?_)
   ·(try simp only [World.cell?_drew]);exact ks
   clear hK K
   try simp only [Act.put,tS]
   refine tkH 14 rfl ?_
   try simp only [Act.put,tS]
   refine wpAnyH_done (by kernel_rfl) ?_ _
   go_wp2_with fail
   go_meet
   case rel=>exact ⟨y2.heap.size,rfl,rfl,HL2.out,by first | exact HyF.out | exact HyF.out.drew⟩
  ·skip
   go_simp
   generalize hwN:World.alloc _ _=y2;have Hy2:Hid (Below w0.heap.size w0 y2):=(by unfold Hid;rw [← hwN];exact ext_alloc (Below.refl _ _) _);have HLa:Hid (y2.heap[w0.heap.size]?=some (.cells #[.int .i64 0,.int .i64 0,.int .i64 0] 56 (0,0))):=(by unfold Hid;rw [← hwN];exact heap_alloc_new _ _);clear hwN;clear ks;have ks:=HS.out y2 Hy2.out;have hge:=hidIt (Nat.le_refl w0.heap.size);try dsimp only
   refine hK.out _ _ ?_ (fun hHeld=>?_)
   ·(try simp only [World.cell?_drew]);exact ks
   clear hK K
   try simp only [Act.put,tS]
   refine rdH 8 rfl fun K hK=>?_
   go_simp
   refine (WH.out _ Hy2.out.drew).mono ?_;rintro e y3 ⟨rfl,hb⟩;have HL:Hid (y3.heap[w0.heap.size]?=some (.cells #[.int .i64 0,.int .i64 0,.int .i64 0] 56 (0,0))):=(hb.block _ (Array.getElem?_eq_some_iff.1 HLa.out).1).trans HLa.out;have Hy3:=hidIt (ext_trans Hy2.out.drew hb);clear hb HLa;clear ks;have ks:=HS.out y3 Hy3.out;obtain ⟨hgl,d0,d1,d2,fz⟩:=cells3 HL.out;try dsimp only
   refine hK.out _ _ ?_ (fun hHeld=>?_)
   ·(try simp only [World.cell?_drew]);exact ks
   clear hK K
   try simp only [Act.put,tS]
   refine tkH 9 rfl ?_
   try simp only [Act.put,tS]
   refine tkH 10 rfl ?_
   try simp only [Act.put,tS]
   refine tkH 11 rfl ?_
   try simp only [Act.put,tS]
   refine rdH 13 rfl fun K hK=>?_
   go_simp
   generalize hwF:World.setCell (World.setCell (World.setCell y3 _ _) _ _) _ _=yF;have HL2:Hid (yF.heap[w0.heap.size]?=some (.cells #[.int .i64 y.f,.int .i64 y.t,.int .i64 y.k] 56 (0,0))):=(by unfold Hid;rw [← hwF];exact (lay3 HL.out rfl Hy3.out hge.out _ _ _).1);have HyF:Hid (Below w0.heap.size w0 yF):=(by unfold Hid;rw [← hwF];exact (lay3 HL.out rfl Hy3.out hge.out _ _ _).2);clear hwF d0 d1 d2 fz hgl;clear ks;have ks:=HS.out yF HyF.out;try dsimp only
   refine hK.out _ _ ?_ (fun hHeld=>?_)
   ·(try simp only [World.cell?_drew]);exact ks
   clear hK K
   try simp only [Act.put,tS]
   refine tkH 14 rfl ?_
   try simp only [Act.put,tS]
   refine wpAnyH_done (by kernel_rfl) ?_ _
   go_wp2_with fail
   go_meet
   case rel=>exact ⟨w0.heap.size,rfl,rfl,HL2.out,by first | exact HyF.out | exact HyF.out.drew⟩
 obtain ⟨g5,rfl,rfl,H5⟩:=hcut
 clear ks
 have ks:=HS.out wc H5.out.2
 go_upto_region 2 with fail
 refine wp_region_held_drew (S:=fun w''=>w''.cell? ⟨g,0,none⟩=some (.pointer (some ⟨t,0,none⟩))∧w''.cell? ⟨g,1,none⟩=some (.slice aa A.length ca)∧w''.cell? ⟨w1.heap.size,2,none⟩=some (.int .i64 a)∧w''.cell? ⟨w1.heap.size,3,none⟩=some (.int .i64 b)) (by kernel_rfl) (ks) (fun hHeld=>?_)
 refine tkH 0 rfl ?_
 try simp only [Act.put,tS]
 refine tkH 1 rfl ?_
 try simp only [Act.put,tS]
 refine tkH 2 rfl ?_
 try simp only [Act.put,tS]
 refine tkH 3 rfl ?_
 try simp only [Act.put,tS]
 refine tkH 4 rfl ?_
 try simp only [Act.put,tS]
 refine tkH 5 rfl ?_
 try simp only [Act.put,tS]
 refine tkH 6 rfl ?_
 try simp only [Act.put,tS]
 refine tkH 7 rfl ?_
 try simp only [Act.put,tS]
 refine rdH 8 rfl fun K hK=>?_
 go_simp
 refine (RW.out _ (ext_trans H5.out.2 (Below.drew (Below.refl _ _)))).mono ?_;rintro e y2 ⟨rfl,hb⟩;have Hy2:=hidIt (ext_trans (Below.drew (Below.refl wc.heap.size wc)) hb);clear hb;clear ks;have ks:=HS.out y2 (ext_trans H5.out.2 Hy2.out);try dsimp only
 refine hK.out _ _ ?_ (fun hHeld=>?_)
 ·(try simp only [World.cell?_drew]);exact ks
 clear hK K
 try simp only [Act.put,tS]
 refine tkH 9 rfl ?_
 try simp only [Act.put,tS]
 refine tkH 10 rfl ?_
 try simp only [Act.put,tS]
 refine tkH 11 rfl ?_
 try simp only [Act.put,tS]
 refine tkH 12 rfl ?_
 try simp only [Act.put,tS]
 refine tkH 13 rfl ?_
 try simp only [Act.put,tS]
 refine tkH 14 rfl ?_
 try simp only [Act.put,tS]
 refine tkH 15 rfl ?_
 try simp only [Act.put,tS]
 refine wpAnyH_done (by kernel_rfl) ?_ _
 obtain ⟨_,e0,e1,e2,_⟩:=cells3 ((Hy2.out.block g5 (Array.getElem?_eq_some_iff.1 H5.out.1).1).trans H5.out.1)
 clear ks hHeld
 rcases HKK.out with ⟨k1,k2⟩ | ⟨k1,k2⟩
 ·rw [k2] at e2
  rw [k1]
  go_wp2_with fail
  go_ret
  exact ⟨rfl,ext_trans HB0.out (ext_trans H5.out.2 Hy2.out)⟩
 ·rw [k2] at e2
  rw [k1]
  go_wp2_with fail
  go_ret
  exact ⟨rfl,ext_trans HB0.out (ext_trans H5.out.2 Hy2.out)⟩
end Go.Proofs.YtjomfbegghgbdaaGreat.P
