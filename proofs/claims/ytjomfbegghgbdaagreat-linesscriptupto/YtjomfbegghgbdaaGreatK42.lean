import Derived.Test.YtjomfbegghgbdaaGreatK41
import Derived.Deep.RegionHeld3
import Derived.OrdersHeld
set_option maxRecDepth 100000
namespace Go.Proofs.YtjomfbegghgbdaaGreat.P
open Go.RowKit
set_option maxHeartbeats 8000000 in
theorem rWhole_any (enc:Int) (va:Value) (A:List Int) (f l:Int) (w:World) (hA:Rd .i64 w va A) (hl:A.length≤65536):Calls Tryz.prog 131 #[va,.int .i64 f,.int .i64 l] w fun e w'=>e=.returned (.tuple #[.int .i64 (whA enc A f l).f,.int .i64 (whA enc A f l).t,.int .i64 (whA enc A f l).e])∧Below w.heap.size w w':=by
 have AL:=zh (rAll_any enc va A w hA hl)
 clear hA
 by_cases h0:f < 0
 ·have HE:=zh (show whA enc A f l=⟨0,0,0,2⟩ by unfold whA;rw [if_pos (.inl h0)])
  go_enter Tryz.func131,Tryz.ntmps131
  go_wp2_with (go_at_call 40;refine AL.out.mono ?_;rintro e w1 ⟨ao,n,cap,rfl,hn,hb⟩;have HB:=zh hb;clear hb hn;(try dsimp only))
  exact bodyPost_ret (v:=.tuple #[.int .i64 0,.int .i64 0,.int .i64 2]) (by simp [results,Tryz.results131,go_sem]) rfl ⟨by rw [HE.out],HB.out⟩
 by_cases h1:l < f
 ·have HE:=zh (show whA enc A f l=⟨0,0,0,2⟩ by unfold whA;rw [if_pos (.inr (.inl h1))])
  go_enter Tryz.func131,Tryz.ntmps131
  go_wp2_with (go_at_call 40;refine AL.out.mono ?_;rintro e w1 ⟨ao,n,cap,rfl,hn,hb⟩;have HB:=zh hb;clear hb hn;(try dsimp only))
  exact bodyPost_ret (v:=.tuple #[.int .i64 0,.int .i64 0,.int .i64 2]) (by simp [results,Tryz.results131,go_sem]) rfl ⟨by rw [HE.out],HB.out⟩
 by_cases h2:cnt enc A≤l
 ·have HE:=zh (show whA enc A f l=⟨0,0,0,2⟩ by unfold whA;rw [if_pos (.inr (.inr h2))])
  generalize cnt enc A=z at *
  go_enter Tryz.func131,Tryz.ntmps131
  go_wp2_with (go_at_call 40;refine AL.out.mono ?_;rintro e w1 ⟨ao,n,cap,rfl,hn,hb⟩;have HB:=zh hb;clear hb hn;(try dsimp only))
  exact bodyPost_ret (v:=.tuple #[.int .i64 0,.int .i64 0,.int .i64 2]) (by simp [results,Tryz.results131,go_sem]) rfl ⟨by rw [HE.out],HB.out⟩
 have hc:=cnt_le enc A
 have sL:=spn_len enc A
 obtain ⟨i,rfl⟩:∃ i:Nat,f=i:=⟨f.toNat,by omega⟩
 obtain ⟨j,rfl⟩:∃ j:Nat,l=j:=⟨l.toNat,by omega⟩
 have HJ:=zh (show (j:Int) < (spn enc A).b + 1 by omega)
 have hij:i≤j:=by omega
 have hj9:j≤65536:=by omega
 have HE:=zh (show whA enc A i j=if (lnK enc A (j:Nat)).b=0∧0 < (i:Int)∧(lnK enc A ((i:Int) - 1)).f < (lnK enc A ((i:Int) - 1)).t then ⟨(lnK enc A ((i:Int) - 1)).t,(lnK enc A (j:Nat)).n,1,0⟩ else ⟨(lnK enc A (i:Nat)).f,(lnK enc A (j:Nat)).n,1,0⟩ by unfold whA;rw [if_neg (by omega)])
 clear hc sL
 go_enter Tryz.func131,Tryz.ntmps131
 go_upto_region 2 with (go_at_call 40;refine AL.out.mono ?_;rintro e w1 ⟨ao,n,cap,rfl,hn,hb⟩;have HB:=zh hb;have hjn:j < n:=(by have:=hn.out.1;have:=HJ.out;omega);obtain ⟨ao',cap',e1,hcap,_,r5⟩:=hn.out.2.rd;rw [lns_len] at e1 hcap;simp only [Value.slice.injEq] at e1;obtain ⟨rfl,_,rfl⟩:=e1;obtain ⟨g,rfl,hg,hc⟩:=r5 (by intro e;have:=congrArg List.length e;rw [lns_len] at this;simp at this;omega);have HC:Hid (∀ k,k < n→w1.cell? ⟨g,k * 4,none⟩=some (.int .i64 (lnK enc A (k:Nat)).f)∧w1.cell? ⟨g,k * 4 + 1,none⟩=some (.int .i64 (lnK enc A (k:Nat)).t)∧w1.cell? ⟨g,k * 4 + 2,none⟩=some (.int .i64 (lnK enc A (k:Nat)).n)∧w1.cell? ⟨g,k * 4 + 3,none⟩=some (.int .i64 (lnK enc A (k:Nat)).b)):=(fun k hk=>hc k _ (lns_at enc A n k hk));clear hb hn r5 hc;(try dsimp only))
 have hin:i < n:=by omega
 obtain ⟨_,_,y2,y3⟩:=HC.out j hjn
 obtain ⟨x0,_,_,_⟩:=HC.out i hin
 generalize cnt enc A=z at *
 by_cases hy:(lnK enc A (j:Nat)).b=0
 ·rw [hy] at y3
  by_cases hpos:0 < (i:Int)
  ·obtain ⟨k,hk⟩:∃ k:Nat,(i:Int) - 1=k:=⟨i - 1,by omega⟩
   have hpn:0 < i:=by omega
   have hkn:k < n:=by omega
   obtain ⟨u0,u1,_,_⟩:=HC.out k hkn
   have hwk:IntKind.i64.wrap ((i:Int) - 1)=(k:Nat):=by rw [IntKind.wrap_i64];omega
   rw [hk] at HE
   by_cases hu:(lnK enc A (k:Nat)).f < (lnK enc A (k:Nat)).t
   ·have HE2:=zh (HE.out.trans (if_pos ⟨hy,hpos,hu⟩))
    generalize lnK enc A (j:Nat)=y at *
    generalize lnK enc A (i:Nat)=x at *
    generalize lnK enc A (k:Nat)=u at *
    clear hk HE HC
    go_upto_region 4 with fail
    refine wp_region_held_drew (S:=fun w''=>w''.cell? ⟨g,i * 4,none⟩=some (.int .i64 x.f)∧w''.cell? ⟨g,j * 4 + 2,none⟩=some (.int .i64 y.n)∧w''.cell? ⟨g,j * 4 + 3,none⟩=some (.int .i64 0)∧w''.cell? ⟨g,k * 4,none⟩=some (.int .i64 u.f)∧w''.cell? ⟨g,k * 4 + 1,none⟩=some (.int .i64 u.t)) (by kernel_rfl) (⟨x0,y2,y3,u0,u1⟩) (fun hHeld=>?_)
    refine tkH 0 rfl ?_
    refine tkH 1 rfl ?_
    refine tkH 2 rfl ?_
    refine tkH 3 rfl ?_
    refine tkH 4 rfl ?_
    refine tkH 5 rfl ?_
    refine tkH 6 rfl ?_
    refine tkH 7 rfl ?_
    refine tkH 8 rfl ?_
    refine tkH 9 rfl ?_
    refine tkH 10 rfl ?_
    refine tkH 11 rfl ?_
    refine tkH 12 rfl ?_
    refine tkH 13 rfl ?_
    refine tkH 14 rfl ?_
    refine tkH 15 rfl ?_
    refine tkH 16 rfl ?_
    refine tkH 17 rfl ?_
    refine tkH 18 rfl ?_
    refine tkH 19 rfl ?_
    refine tkH 20 rfl ?_
    refine tkH 21 rfl ?_
    refine tkH 22 rfl ?_
    refine tkH 23 rfl ?_
    refine tkH 24 rfl ?_
    refine dnH ?_
    go_upto_region 5 with fail
    refine wp_region_held_drew (S:=fun w''=>w''.cell? ⟨g,i * 4,none⟩=some (.int .i64 x.f)∧w''.cell? ⟨g,j * 4 + 2,none⟩=some (.int .i64 y.n)∧w''.cell? ⟨g,j * 4 + 3,none⟩=some (.int .i64 0)∧w''.cell? ⟨g,k * 4,none⟩=some (.int .i64 u.f)∧w''.cell? ⟨g,k * 4 + 1,none⟩=some (.int .i64 u.t)) (by kernel_rfl) (hHeld) (fun hHeld=>?_)
    refine tkH 0 rfl ?_
    refine tkH 1 rfl ?_
    refine tkH 2 rfl ?_
    refine tkH 3 rfl ?_
    refine tkH 4 rfl ?_
    refine tkH 5 rfl ?_
    refine tkH 6 rfl ?_
    refine tkH 7 rfl ?_
    refine tkH 8 rfl ?_
    refine tkH 9 rfl ?_
    refine tkH 10 rfl ?_
    refine tkH 11 rfl ?_
    refine tkH 12 rfl ?_
    refine tkH 13 rfl ?_
    refine dnH ?_
    go_wp2_with fail
    exact bodyPost_ret (v:=.tuple #[.int .i64 u.t,.int .i64 y.n,.int .i64 0]) (by simp [results,Tryz.results131,go_sem]) rfl ⟨by first | rw [HE2.out] | rw [show whA enc A 0 j=_ from HE2.out],by first | exact HB.out | exact HB.out.drew | exact HB.out.drew.drew⟩
   ·have HE2:=zh (HE.out.trans (if_neg (fun e=>hu e.2.2)))
    generalize lnK enc A (j:Nat)=y at *
    generalize lnK enc A (i:Nat)=x at *
    generalize lnK enc A (k:Nat)=u at *
    clear hk HE HC
    go_upto_region 4 with fail
    refine wp_region_held_drew (S:=fun w''=>w''.cell? ⟨g,i * 4,none⟩=some (.int .i64 x.f)∧w''.cell? ⟨g,j * 4 + 2,none⟩=some (.int .i64 y.n)∧w''.cell? ⟨g,j * 4 + 3,none⟩=some (.int .i64 0)∧w''.cell? ⟨g,k * 4,none⟩=some (.int .i64 u.f)∧w''.cell? ⟨g,k * 4 + 1,none⟩=some (.int .i64 u.t)) (by kernel_rfl) (⟨x0,y2,y3,u0,u1⟩) (fun hHeld=>?_)
    refine tkH 0 rfl ?_
    refine tkH 1 rfl ?_
    refine tkH 2 rfl ?_
    refine tkH 3 rfl ?_
    refine tkH 4 rfl ?_
    refine tkH 5 rfl ?_
    refine tkH 6 rfl ?_
    refine tkH 7 rfl ?_
    refine tkH 8 rfl ?_
    refine tkH 9 rfl ?_
    refine tkH 10 rfl ?_
    refine tkH 11 rfl ?_
    refine tkH 12 rfl ?_
    refine tkH 13 rfl ?_
    refine tkH 14 rfl ?_
    refine tkH 15 rfl ?_
    refine tkH 16 rfl ?_
    refine tkH 17 rfl ?_
    refine tkH 18 rfl ?_
    refine tkH 19 rfl ?_
    refine tkH 20 rfl ?_
    refine tkH 21 rfl ?_
    refine tkH 22 rfl ?_
    refine tkH 23 rfl ?_
    refine tkH 24 rfl ?_
    refine dnH ?_
    go_upto_region 6 with fail
    refine wp_region_held_drew (S:=fun w''=>w''.cell? ⟨g,i * 4,none⟩=some (.int .i64 x.f)∧w''.cell? ⟨g,j * 4 + 2,none⟩=some (.int .i64 y.n)∧w''.cell? ⟨g,j * 4 + 3,none⟩=some (.int .i64 0)∧w''.cell? ⟨g,k * 4,none⟩=some (.int .i64 u.f)∧w''.cell? ⟨g,k * 4 + 1,none⟩=some (.int .i64 u.t)) (by kernel_rfl) (hHeld) (fun hHeld=>?_)
    refine tkH 0 rfl ?_
    refine tkH 1 rfl ?_
    refine tkH 2 rfl ?_
    refine tkH 3 rfl ?_
    refine tkH 4 rfl ?_
    refine tkH 5 rfl ?_
    refine tkH 6 rfl ?_
    refine tkH 7 rfl ?_
    refine tkH 8 rfl ?_
    refine tkH 9 rfl ?_
    refine tkH 10 rfl ?_
    refine tkH 11 rfl ?_
    refine tkH 12 rfl ?_
    refine dnH ?_
    go_wp2_with fail
    exact bodyPost_ret (v:=.tuple #[.int .i64 x.f,.int .i64 y.n,.int .i64 0]) (by simp [results,Tryz.results131,go_sem]) rfl ⟨by first | rw [HE2.out] | rw [show whA enc A 0 j=_ from HE2.out],by first | exact HB.out | exact HB.out.drew | exact HB.out.drew.drew⟩
  ·have HE2:=zh (HE.out.trans (if_neg (fun e=>hpos e.2.1)))
   obtain rfl:i=0:=by omega
   generalize lnK enc A (j:Nat)=y at *
   generalize lnK enc A ((0:Nat):Int)=x at *
   simp only [Nat.zero_mul] at x0
   go_upto_region 4 with fail
   refine wp_region_held_drew (S:=fun w''=>w''.cell? ⟨g,0,none⟩=some (.int .i64 x.f)∧w''.cell? ⟨g,j * 4 + 2,none⟩=some (.int .i64 y.n)∧w''.cell? ⟨g,j * 4 + 3,none⟩=some (.int .i64 0)) (by kernel_rfl) (⟨x0,y2,y3⟩) (fun hHeld=>?_)
   refine tkH 0 rfl ?_
   refine tkH 1 rfl ?_
   refine tkH 2 rfl ?_
   refine tkH 3 rfl ?_
   refine tkH 4 rfl ?_
   refine tkH 5 rfl ?_
   refine tkH 6 rfl ?_
   refine tkH 7 rfl ?_
   refine tkH 8 rfl ?_
   refine tkH 9 rfl ?_
   refine tkH 10 rfl ?_
   refine tuH 11 rfl ?_
   refine tuH 12 rfl ?_
   refine tuH 13 rfl ?_
   refine tuH 14 rfl ?_
   refine tuH 15 rfl ?_
   refine tuH 16 rfl ?_
   refine tuH 17 rfl ?_
   refine tuH 18 rfl ?_
   refine tuH 19 rfl ?_
   refine tuH 20 rfl ?_
   refine tuH 21 rfl ?_
   refine tuH 22 rfl ?_
   refine tuH 23 rfl ?_
   refine tkH 24 rfl ?_
   refine dnH ?_
   go_upto_region 6 with fail
   refine wp_region_held_drew (S:=fun w''=>w''.cell? ⟨g,0,none⟩=some (.int .i64 x.f)∧w''.cell? ⟨g,j * 4 + 2,none⟩=some (.int .i64 y.n)∧w''.cell? ⟨g,j * 4 + 3,none⟩=some (.int .i64 0)) (by kernel_rfl) (hHeld) (fun hHeld=>?_)
   refine tkH 0 rfl ?_
   refine tkH 1 rfl ?_
   refine tkH 2 rfl ?_
   refine tkH 3 rfl ?_
   refine tkH 4 rfl ?_
   refine tkH 5 rfl ?_
   refine tkH 6 rfl ?_
   refine tkH 7 rfl ?_
   refine tkH 8 rfl ?_
   refine tkH 9 rfl ?_
   refine tkH 10 rfl ?_
   refine tkH 11 rfl ?_
   refine tkH 12 rfl ?_
   refine dnH ?_
   go_wp2_with fail
   exact bodyPost_ret (v:=.tuple #[.int .i64 x.f,.int .i64 y.n,.int .i64 0]) (by simp [results,Tryz.results131,go_sem]) rfl ⟨by first | rw [HE2.out] | rw [show whA enc A 0 j=_ from HE2.out],by first | exact HB.out | exact HB.out.drew | exact HB.out.drew.drew⟩
 ·have HE2:=zh (HE.out.trans (if_neg (fun e=>hy e.1)))
  generalize lnK enc A (j:Nat)=y at *
  generalize lnK enc A (i:Nat)=x at *
  have hb':(y.b == 0)=false:=by simp [hy]
  go_upto_region 4 with fail
  refine wp_region_held_drew (S:=fun w''=>w''.cell? ⟨g,i * 4,none⟩=some (.int .i64 x.f)∧w''.cell? ⟨g,j * 4 + 2,none⟩=some (.int .i64 y.n)∧w''.cell? ⟨g,j * 4 + 3,none⟩=some (.int .i64 y.b)) (by kernel_rfl) (⟨x0,y2,y3⟩) (fun hHeld=>?_)
  refine tkH 0 rfl ?_
  refine tkH 1 rfl ?_
  refine tkH 2 rfl ?_
  refine tkH 3 rfl ?_
  refine tkH 4 rfl ?_
  refine tkH 5 rfl ?_
  refine tkH 6 rfl ?_
  refine tuH 7 rfl ?_
  refine tuH 8 rfl ?_
  refine tkH 9 rfl ?_
  refine tkH 10 rfl ?_
  refine tuH 11 rfl ?_
  refine tuH 12 rfl ?_
  refine tuH 13 rfl ?_
  refine tuH 14 rfl ?_
  refine tuH 15 rfl ?_
  refine tuH 16 rfl ?_
  refine tuH 17 rfl ?_
  refine tuH 18 rfl ?_
  refine tuH 19 rfl ?_
  refine tuH 20 rfl ?_
  refine tuH 21 rfl ?_
  refine tuH 22 rfl ?_
  refine tuH 23 rfl ?_
  refine tkH 24 rfl ?_
  refine dnH ?_
  go_upto_region 6 with fail
  refine wp_region_held_drew (S:=fun w''=>w''.cell? ⟨g,i * 4,none⟩=some (.int .i64 x.f)∧w''.cell? ⟨g,j * 4 + 2,none⟩=some (.int .i64 y.n)∧w''.cell? ⟨g,j * 4 + 3,none⟩=some (.int .i64 y.b)) (by kernel_rfl) (hHeld) (fun hHeld=>?_)
  refine tkH 0 rfl ?_
  refine tkH 1 rfl ?_
  refine tkH 2 rfl ?_
  refine tkH 3 rfl ?_
  refine tkH 4 rfl ?_
  refine tkH 5 rfl ?_
  refine tkH 6 rfl ?_
  refine tkH 7 rfl ?_
  refine tkH 8 rfl ?_
  refine tkH 9 rfl ?_
  refine tkH 10 rfl ?_
  refine tkH 11 rfl ?_
  refine tkH 12 rfl ?_
  refine dnH ?_
  go_wp2_with fail
  exact bodyPost_ret (v:=.tuple #[.int .i64 x.f,.int .i64 y.n,.int .i64 0]) (by simp [results,Tryz.results131,go_sem]) rfl ⟨by first | rw [HE2.out] | rw [show whA enc A 0 j=_ from HE2.out],by first | exact HB.out | exact HB.out.drew | exact HB.out.drew.drew⟩
open Go.RowKit
theorem lay3 {w0 y3:World} {gl:Nat} {T:TypeId} {cs:Array Value} (h:y3.heap[gl]?=some (.cells cs T (0,0))) (hs:cs.size=3) (hb:Below w0.heap.size w0 y3) (hge:w0.heap.size≤gl) (v0 v1 v2:Value) :
  (((y3.setCell ⟨gl,0,none⟩ v0).setCell ⟨gl,1,none⟩ v1).setCell ⟨gl,2,none⟩ v2).heap[gl]?=some (.cells #[v0,v1,v2] T (0,0))∧Below w0.heap.size w0 (((y3.setCell ⟨gl,0,none⟩ v0).setCell ⟨gl,1,none⟩ v1).setCell ⟨gl,2,none⟩ v2):=by
 obtain ⟨h1,g1⟩:=set1 h 0 v0
 obtain ⟨h2,g2⟩:=set1 h1 1 v1
 obtain ⟨h3,g3⟩:=set1 h2 2 v2
 refine ⟨?_,zbp hb hb.size (zgt (zgt g1 g2) g3) hge⟩
 rw [h3]
 obtain ⟨l⟩:=cs
 match l,hs with
 | [_,_,_],_=>rfl
theorem whA_k (enc:Int) (A:List Int) (f l:Int):((whA enc A f l).e=0∧(whA enc A f l).k=1)∨((whA enc A f l).e=2∧(whA enc A f l).k=0):=by
 unfold whA
 split
 ·exact .inr ⟨rfl,rfl⟩
 ·split
  ·exact .inl ⟨rfl,rfl⟩
  ·exact .inl ⟨rfl,rfl⟩
set_option maxHeartbeats 8000000 in
theorem wholes_any (enc:Int) (w:World) (g t:Nat) (A:List Int) (m:Nat) (o:Opv) (v:Value) (h:BtW enc w g t A m) (hv:∃ ap np cp,v=.slice ap np cp):Yes 106 w g o v:=by
 intro w1 hb1
 obtain ⟨ap,np,cp,rfl⟩:=hv
 obtain ⟨who,k,a,b,put⟩:=o
 unfold Opv.val
 dsimp only
 obtain ⟨w0,hw0,kk0,hb0⟩:∃ w0,w0=w1.alloc (.cells #[.int .i64 who,.int .i64 k,.int .i64 a,.int .i64 b,.slice ap np cp] 38)∧w0.heap[w1.heap.size]?=some (.cells #[.int .i64 who,.int .i64 k,.int .i64 a,.int .i64 b,.slice ap np cp] 38 (0,0))∧Below w1.heap.size w1 w0:=⟨_,rfl,heap_alloc_new _ _,zxa (Below.refl _ _) _⟩
 have HB0:=zh hb0
 have HW0:=zh ((h.ext hb1).ext hb0)
 obtain ⟨hlt,c0,c1,c2,c3,c4⟩:=cells5 kk0
 obtain ⟨va,hg,hva⟩:=HW0.out.ex
 obtain ⟨aa,ca,hvv⟩:=hva.form
 subst hvv
 have HGG:=zh hg
 have HVA:=zh hva
 have hlen:=HW0.out.tz.len
 have HS:Hid (∀ w',Below w0.heap.size w0 w'→w'.cell? ⟨g,0,none⟩=some (.pointer (some ⟨t,0,none⟩))∧w'.cell? ⟨g,1,none⟩=some (.slice aa A.length ca)∧w'.cell? ⟨w1.heap.size,2,none⟩=some (.int .i64 a)∧w'.cell? ⟨w1.heap.size,3,none⟩=some (.int .i64 b)):=fun w' hb=>⟨(hb.cell (p:=⟨g,0,none⟩) HW0.out.lt).trans (cells2 HGG.out).2.1,(hb.cell (p:=⟨g,1,none⟩) HW0.out.lt).trans (cells2 HGG.out).2.2.1,(hb.cell (p:=⟨w1.heap.size,2,none⟩) hlt).trans c2,(hb.cell (p:=⟨w1.heap.size,3,none⟩) hlt).trans c3⟩
 have ks:=HS.out w0 (Below.refl _ _)
 clear hg hva h hb0 hb1 kk0
 have WH:Hid (∀ w',Below w0.heap.size w0 w'→Calls Tryz.prog 29 #[.pointer (some ⟨t,0,none⟩),.int .i64 a,.int .i64 b] w' fun e w''=>e=.returned (.tuple #[.agg #[.int .i64 (whA enc A a b).f,.int .i64 (whA enc A a b).t,.int .i64 (whA enc A a b).k],.int .i64 (whA enc A a b).e])∧Below w'.heap.size w' w''):=fun w' hb=>Whole_z enc w' t A a b (HW0.out.tz.ext hb)
 have RW:Hid (∀ w',Below w0.heap.size w0 w'→Calls Tryz.prog 131 #[.slice aa A.length ca,.int .i64 a,.int .i64 b] w' fun e w''=>e=.returned (.tuple #[.int .i64 (whA enc A a b).f,.int .i64 (whA enc A a b).t,.int .i64 (whA enc A a b).e])∧Below w'.heap.size w' w''):=fun w' hb=>rWhole_any enc _ A a b w' (HVA.out.ext hb).rdi hlen
 have HKK:=zh (whA_k enc A a b)
 generalize whA enc A a b=y at *
 go_enter Tryz.func106,Tryz.ntmps106
 go_upto_region 1 with fail
 rw [← hw0]
 clear hw0
 go_cut [5,6] from 11 to 22 (fun p e wF=>∃ gl:Nat,p=.pointer (some ⟨gl,0,none⟩)∧e=.int .i64 y.e∧Hid (wF.heap[gl]?=some (.cells #[.int .i64 y.f,.int .i64 y.t,.int .i64 y.k] 56 (0,0))∧Below w0.heap.size w0 wF))
 case first =>
  refine wp_region_held_drew (S:=fun w''=>w''.cell? ⟨g,0,none⟩=some (.pointer (some ⟨t,0,none⟩))∧w''.cell? ⟨g,1,none⟩=some (.slice aa A.length ca)∧w''.cell? ⟨w1.heap.size,2,none⟩=some (.int .i64 a)∧w''.cell? ⟨w1.heap.size,3,none⟩=some (.int .i64 b)) (by kernel_rfl) (ks) (fun hHeld=>?_)
  refine tkH 0 rfl ?_
  refine tkH 1 rfl ?_
  refine tkH 2 rfl ?_
  refine tkH 3 rfl ?_
  refine tkH 4 rfl ?_
  refine tkH 5 rfl ?_
  refine tkH 6 rfl ?_
  refine tkH 7 rfl ?_
  refine wpAnyH_ready (rs:=[8,12]) (by kernel_rfl) (by simp) ?_
  refine (AllReadyH.cons (o:=_) rfl (fun K hK=>?_) (AllReadyH.cons (o:=_) rfl (fun K hK=>?_) AllReadyH.nil))
  ·skip
   go_simp
   refine (WH.out _ (Below.drew (Below.refl _ _))).mono ?_;rintro e y2 ⟨rfl,hb⟩;have Hy2:=zh (zxt (Below.drew (Below.refl w0.heap.size w0)) hb);clear hb;clear ks;have ks:=HS.out y2 Hy2.out;try dsimp only
   refine hK.out _ _ ?_ (fun hHeld=>?_)
   ·(try simp only [World.cell?_drew]);exact ks
   clear hK K
   try simp only [Act.put,tS]
   refine tkH 9 rfl ?_
   refine tkH 10 rfl ?_
   refine tkH 11 rfl ?_
   refine rdH 12 rfl fun K hK=>?_
   go_simp
   generalize hwN:World.alloc _ _=y3;have hst:Below y2.heap.size y2 y3:=(by rw [← hwN];exact zxa (Below.refl _ _) _);have HL:Hid (y3.heap[y2.heap.size]?=some (.cells #[.int .i64 0,.int .i64 0,.int .i64 0] 56 (0,0))):=(by unfold Hid;rw [← hwN];exact heap_alloc_new _ _);have Hy3:=zh (zxt Hy2.out hst);clear hwN hst;clear ks;have ks:=HS.out y3 Hy3.out;have hge:=zh Hy2.out.size;obtain ⟨hgl,d0,d1,d2,fz⟩:=cells3 HL.out;try dsimp only
   refine hK.out _ _ ?_ (fun hHeld=>?_)
   ·(try simp only [World.cell?_drew]);exact ks
   clear hK K
   try simp only [Act.put,tS]
   refine rdH 13 rfl fun K hK=>?_
   go_simp
   generalize hwF:World.setCell (World.setCell (World.setCell y3 _ _) _ _) _ _=yF;have HL2:Hid (yF.heap[y2.heap.size]?=some (.cells #[.int .i64 y.f,.int .i64 y.t,.int .i64 y.k] 56 (0,0))):=(by unfold Hid;rw [← hwF];exact (lay3 HL.out rfl Hy3.out hge.out _ _ _).1);have HyF:Hid (Below w0.heap.size w0 yF):=(by unfold Hid;rw [← hwF];exact (lay3 HL.out rfl Hy3.out hge.out _ _ _).2);clear hwF d0 d1 d2 fz hgl;clear ks;have ks:=HS.out yF HyF.out;try dsimp only
   refine hK.out _ _ ?_ (fun hHeld=>?_)
   ·(try simp only [World.cell?_drew]);exact ks
   clear hK K
   try simp only [Act.put,tS]
   refine tkH 14 rfl ?_
   refine dnH ?_
   go_wp2_with fail
   go_meet
   case rel=>exact ⟨y2.heap.size,rfl,rfl,HL2.out,by first | exact HyF.out | exact HyF.out.drew⟩
  ·skip
   go_simp
   generalize hwN:World.alloc _ _=y2;have Hy2:Hid (Below w0.heap.size w0 y2):=(by unfold Hid;rw [← hwN];exact zxa (Below.refl _ _) _);have HLa:Hid (y2.heap[w0.heap.size]?=some (.cells #[.int .i64 0,.int .i64 0,.int .i64 0] 56 (0,0))):=(by unfold Hid;rw [← hwN];exact heap_alloc_new _ _);clear hwN;clear ks;have ks:=HS.out y2 Hy2.out;have hge:=zh (Nat.le_refl w0.heap.size);try dsimp only
   refine hK.out _ _ ?_ (fun hHeld=>?_)
   ·(try simp only [World.cell?_drew]);exact ks
   clear hK K
   try simp only [Act.put,tS]
   refine rdH 8 rfl fun K hK=>?_
   go_simp
   refine (WH.out _ Hy2.out.drew).mono ?_;rintro e y3 ⟨rfl,hb⟩;have HL:Hid (y3.heap[w0.heap.size]?=some (.cells #[.int .i64 0,.int .i64 0,.int .i64 0] 56 (0,0))):=(hb.block _ (Array.getElem?_eq_some_iff.1 HLa.out).1).trans HLa.out;have Hy3:=zh (zxt Hy2.out.drew hb);clear hb HLa;clear ks;have ks:=HS.out y3 Hy3.out;obtain ⟨hgl,d0,d1,d2,fz⟩:=cells3 HL.out;try dsimp only
   refine hK.out _ _ ?_ (fun hHeld=>?_)
   ·(try simp only [World.cell?_drew]);exact ks
   clear hK K
   try simp only [Act.put,tS]
   refine tkH 9 rfl ?_
   refine tkH 10 rfl ?_
   refine tkH 11 rfl ?_
   refine rdH 13 rfl fun K hK=>?_
   go_simp
   generalize hwF:World.setCell (World.setCell (World.setCell y3 _ _) _ _) _ _=yF;have HL2:Hid (yF.heap[w0.heap.size]?=some (.cells #[.int .i64 y.f,.int .i64 y.t,.int .i64 y.k] 56 (0,0))):=(by unfold Hid;rw [← hwF];exact (lay3 HL.out rfl Hy3.out hge.out _ _ _).1);have HyF:Hid (Below w0.heap.size w0 yF):=(by unfold Hid;rw [← hwF];exact (lay3 HL.out rfl Hy3.out hge.out _ _ _).2);clear hwF d0 d1 d2 fz hgl;clear ks;have ks:=HS.out yF HyF.out;try dsimp only
   refine hK.out _ _ ?_ (fun hHeld=>?_)
   ·(try simp only [World.cell?_drew]);exact ks
   clear hK K
   try simp only [Act.put,tS]
   refine tkH 14 rfl ?_
   refine dnH ?_
   go_wp2_with fail
   go_meet
   case rel=>exact ⟨w0.heap.size,rfl,rfl,HL2.out,by first | exact HyF.out | exact HyF.out.drew⟩
 obtain ⟨g5,rfl,rfl,H5⟩:=hcut
 clear ks
 have ks:=HS.out wc H5.out.2
 go_upto_region 2 with fail
 refine wp_region_held_drew (S:=fun w''=>w''.cell? ⟨g,0,none⟩=some (.pointer (some ⟨t,0,none⟩))∧w''.cell? ⟨g,1,none⟩=some (.slice aa A.length ca)∧w''.cell? ⟨w1.heap.size,2,none⟩=some (.int .i64 a)∧w''.cell? ⟨w1.heap.size,3,none⟩=some (.int .i64 b)) (by kernel_rfl) (ks) (fun hHeld=>?_)
 refine tkH 0 rfl ?_
 refine tkH 1 rfl ?_
 refine tkH 2 rfl ?_
 refine tkH 3 rfl ?_
 refine tkH 4 rfl ?_
 refine tkH 5 rfl ?_
 refine tkH 6 rfl ?_
 refine tkH 7 rfl ?_
 refine rdH 8 rfl fun K hK=>?_
 go_simp
 refine (RW.out _ (zxt H5.out.2 (Below.drew (Below.refl _ _)))).mono ?_;rintro e y2 ⟨rfl,hb⟩;have Hy2:=zh (zxt (Below.drew (Below.refl wc.heap.size wc)) hb);clear hb;clear ks;have ks:=HS.out y2 (zxt H5.out.2 Hy2.out);try dsimp only
 refine hK.out _ _ ?_ (fun hHeld=>?_)
 ·(try simp only [World.cell?_drew]);exact ks
 clear hK K
 try simp only [Act.put,tS]
 refine tkH 9 rfl ?_
 refine tkH 10 rfl ?_
 refine tkH 11 rfl ?_
 refine tkH 12 rfl ?_
 refine tkH 13 rfl ?_
 refine tkH 14 rfl ?_
 refine tkH 15 rfl ?_
 refine dnH ?_
 obtain ⟨_,e0,e1,e2,_⟩:=cells3 ((Hy2.out.block g5 (Array.getElem?_eq_some_iff.1 H5.out.1).1).trans H5.out.1)
 clear ks hHeld
 rcases HKK.out with ⟨k1,k2⟩ | ⟨k1,k2⟩
 ·rw [k2] at e2
  rw [k1]
  go_wp2_with fail
  go_ret
  exact ⟨rfl,zxt HB0.out (zxt H5.out.2 Hy2.out)⟩
 ·rw [k2] at e2
  rw [k1]
  go_wp2_with fail
  go_ret
  exact ⟨rfl,zxt HB0.out (zxt H5.out.2 Hy2.out)⟩
open Go.RowKit
theorem cells3x {w:World} {b:Nat} {T:TypeId} {v0 v1 v2:Value} (h:w.heap[b]?=some (.cells #[v0,v1,v2] T (0,0))):b < w.heap.size∧w.cell? ⟨b,0,none⟩=some v0∧w.cell? ⟨b,1,none⟩=some v1∧w.cell? ⟨b,2,none⟩=some v2∧(∀ i,w.frozen? ⟨b,i,none⟩=false):=by
 refine ⟨(Array.getElem?_eq_some_iff.1 h).1,?_,?_,?_,fun i=>by simp [World.frozen?,h]⟩ <;> (rw [cell_of_row _ _ _ _ _ _ h];rfl)
theorem ownI_ge {w:World} {base:Nat} {v:Value} {zs:List Int} (h:OwnI w base v zs) {g:Nat} (hg:v.ownBlock=some g):base≤g:=by
 rcases h.2 with ⟨rfl,_⟩ | ⟨g',cap,cur,rfl,h0,hc,_⟩
 ·cases hg
 ·cases hg
  exact h0
structure Rdr (enc:Int) (A:List Int) (w:World) (r t s:Nat) (H:Nat→Prop):Prop where
 ex:∃ v hand,w.heap[r]?=some (.cells #[.pointer (some ⟨t,0,none⟩),.int .i64 (s:Nat),v] 115 (0,0))∧OwnI w 0 v hand∧hand=(A.drop s).take hand.length∧∀ g,v.ownBlock=some g→H g
 tz:Tz enc w t A
theorem Rdr.typ {enc:Int} {A:List Int} {w:World} {r t s:Nat} {H:Nat→Prop} (h:Rdr enc A w r t s H):Typ 115 w r:=by obtain ⟨_,_,h1,_⟩:=h.ex;exact ⟨_,h1⟩
theorem Rdr.ext {enc:Int} {A:List Int} {w w':World} {r t s:Nat} {H:Nat→Prop} (h:Rdr enc A w r t s H) (hb:Below w.heap.size w w'):Rdr enc A w' r t s H:=by
 obtain ⟨v,hand,h1,h2,h3⟩:=h.ex
 exact ⟨⟨v,hand,(hb.block r (Array.getElem?_eq_some_iff.1 h1).1).trans h1,h2.ext hb,h3⟩,h.tz.ext hb⟩
theorem sub_512 (A:List Int) (p:Nat):sub A p ((p:Int) + 512)=(A.drop p).take 512:=by
 unfold sub clp
 by_cases h:p < A.length
 ·rw [if_neg (by omega)]
  simp only
  rw [show (max (p:Int) 0).toNat=p by omega,show (min ((p:Int) + 512) (A.length:Int)).toNat - p=min 512 (A.length - p) by omega]
  rw [← List.length_drop,List.take_eq_take_min (i:=512)]
 ·rw [if_pos (by omega),List.drop_eq_nil_of_le (show A.length≤p by omega)]
  simp
def aV (A:List Int) (p:Nat):Int:=(A[p]?).getD 0
def aB (A:List Int) (p:Nat):Bool:=(A[p]?).isSome
set_option maxHeartbeats 8000000 in
theorem atom_any (enc:Int) (A:List Int) (w:World) (r t s p:Nat) {H:Nat→Prop} (hH:∀ k,w.heap.size≤k→H k) (h:Rdr enc A w r t s H) (hs:s≤p) (hp:p≤1000000):Calls Tryz.prog 99 #[.pointer (some ⟨r,0,none⟩),.int .i64 (p:Nat)] w fun e w'=>e=.returned (.tuple #[.int .i64 (aV A p),.bool (aB A p)])∧Hid (∃ s',s'≤p∧Rdr enc A w' r t s' H)∧Kps (fun k=>k=r) w w':=by
 obtain ⟨v,hand,hg,ho,hh,_⟩:=h.ex
 have HHH:=zh hH
 clear hH
 obtain ⟨ah,ch,hv⟩:=ho.form
 have hlh:hand.length≤A.length:=by rw [hh,List.length_take,List.length_drop];omega
 have hlA:=h.tz.len
 obtain ⟨n,hn⟩:∃ n,n=hand.length:=⟨_,rfl⟩
 rw [← hn] at hv
 subst hv
 have HG:=zh hg
 have HO:=zh ho
 have HH:=zh hh
 have HT:=zh h
 have HN:=zh hn
 obtain ⟨_,c0,c1,c2,fz⟩:=cells3x hg
 have hrt:r≠t:=fun e=>by subst e;exact absurd (Typ.uniq h.typ h.tz.typ) (by decide)
 have hn9:n≤65536:=by omega
 have hwn:IntKind.i64.wrap ((s:Int) + (n:Int))=((s + n:Nat):Int):=by rw [IntKind.wrap_i64];omega
 clear hg ho hh h hlh hn
 by_cases hin:p < s + n
 ·have h3:=congrArg (fun l=>l[p - s]?) HH.out
  simp only [List.getElem?_take,List.getElem?_drop] at h3
  rw [if_pos (show p - s < hand.length by rw [← HN.out];omega),show s + (p - s)=p by omega] at h3
  obtain ⟨x,hxh⟩:∃ x,hand[p - s]?=some x:=⟨_,List.getElem?_eq_getElem (by rw [← HN.out];omega)⟩
  have hx:A[p]?=some x:=by rw [← h3];exact hxh
  have HR:=zh (show aV A p=x∧aB A p=true from ⟨by unfold aV;rw [hx];rfl,by unfold aB;rw [hx];rfl⟩)
  obtain ⟨b,o,hbo,hbl,cx,_⟩:=rd_at HO.out.rdi (p - s) (List.getElem?_eq_some_iff.1 hxh).1
  rw [hxh,Option.getD_some] at cx
  subst hbo
  have hlt:¬ (((s + n:Nat):Int)≤(p:Int)):=by omega
  have hlt':¬ (s + n≤p):=by omega
  have hnz:¬ ((n:Int)=0):=by omega
  have hnz':¬ (n=0):=by omega
  have hnb:((n:Int) == 0)=false:=by simp;omega
  have hws:IntKind.i64.wrap ((p:Int) - (s:Int))=((p - s:Nat):Int):=by rw [IntKind.wrap_i64];omega
  have hps:p - s < n:=by omega
  clear hx hxh hin h3
  go_enter Tryz.func99,Tryz.ntmps99
  go_upto_region 1 with fail
  refine wp_region_held_drew (S:=fun w''=>w''.cell? ⟨r,1,none⟩=some (.int .i64 (s:Nat))∧w''.cell? ⟨r,2,none⟩=some (.slice (some ⟨b,o,none⟩) n ch)∧w''.cell? ⟨b,o + (p - s),none⟩=some (.int .i64 x)) (by kernel_rfl) (⟨c1,c2,cx⟩) (fun hHeld=>?_)
  refine tkH 0 rfl ?_
  refine tkH 1 rfl ?_
  refine tkH 2 rfl ?_
  refine tkH 3 rfl ?_
  refine tkH 4 rfl ?_
  refine tkH 5 rfl ?_
  refine tkH 6 rfl ?_
  refine tkH 7 rfl ?_
  refine tkH 8 rfl ?_
  refine tkH 9 rfl ?_
  refine tkH 10 rfl ?_
  refine tkH 11 rfl ?_
  refine dnH ?_
  clear c1 c2 cx
  obtain ⟨c1,c2,cx⟩:=hHeld
  go_upto_region 5 with fail
  refine wp_region_held_drew (S:=fun w''=>w''.cell? ⟨r,1,none⟩=some (.int .i64 (s:Nat))∧w''.cell? ⟨r,2,none⟩=some (.slice (some ⟨b,o,none⟩) n ch)∧w''.cell? ⟨b,o + (p - s),none⟩=some (.int .i64 x)) (by kernel_rfl) (⟨c1,c2,cx⟩) (fun hHeld=>?_)
  refine tkH 0 rfl ?_
  refine tkH 1 rfl ?_
  refine tkH 2 rfl ?_
  refine tkH 3 rfl ?_
  refine tkH 4 rfl ?_
  refine tkH 5 rfl ?_
  refine tkH 6 rfl ?_
  refine tkH 7 rfl ?_
  refine tkH 8 rfl ?_
  refine tkH 9 rfl ?_
  refine tkH 10 rfl ?_
  refine tkH 11 rfl ?_
  refine tkH 12 rfl ?_
  refine tkH 13 rfl ?_
  refine dnH ?_
  go_wp2_with fail
  go_ret2
  exact ⟨by rw [HR.out.1,HR.out.2];rfl,⟨s,hs,by first | exact HT.out | exact HT.out.ext (Below.refl _ _).drew | exact HT.out.ext ((Below.refl _ _).drew).drew⟩,by first | exact Kps.refl _ _ | exact Kps.of_below _ (Below.refl _ _).drew | exact Kps.of_below _ ((Below.refl _ _).drew).drew⟩
 ·have hge:((s + n:Nat):Int)≤(p:Int):=by omega
  have hge':s + n≤p:=by omega
  have hw5:IntKind.i64.wrap ((p:Int) + 512)=(p:Int) + 512:=by rw [IntKind.wrap_i64];omega
  have AT:Hid (∀ w',Below w.heap.size w w'→Calls Tryz.prog 32 #[.pointer (some ⟨t,0,none⟩),.int .i64 (p:Nat),.int .i64 ((p:Int) + 512)] w' fun e w''=>AtR ((A.drop p).take 512) w' e w''):=fun w' hb=>by
   have:=Atoms_z enc w' t A (p:Nat) ((p:Int) + 512) (HT.out.tz.ext hb)
   rwa [sub_512] at this
  go_enter Tryz.func99,Tryz.ntmps99
  go_upto_region 1 with fail
  refine wp_region_held_drew (S:=fun w''=>w''.cell? ⟨r,0,none⟩=some (.pointer (some ⟨t,0,none⟩))∧w''.cell? ⟨r,1,none⟩=some (.int .i64 (s:Nat))∧w''.cell? ⟨r,2,none⟩=some (.slice ah n ch)) (by kernel_rfl) (⟨c0,c1,c2⟩) (fun hHeld=>?_)
  refine tkH 0 rfl ?_
  refine tkH 1 rfl ?_
  refine tkH 2 rfl ?_
  refine tkH 3 rfl ?_
  refine tkH 4 rfl ?_
  refine tkH 5 rfl ?_
  refine tkH 6 rfl ?_
  refine tkH 7 rfl ?_
  refine tkH 8 rfl ?_
  refine tkH 9 rfl ?_
  refine tkH 10 rfl ?_
  refine tkH 11 rfl ?_
  refine dnH ?_
  clear c0 c1 c2
  obtain ⟨c0,c1,c2⟩:=hHeld
  have hHeld:=c0
  go_upto_region 3 with (go_at_call 32;refine (AT.out _ (Below.drew (Below.refl _ _))).mono ?_;rintro e w2 ⟨v2,rfl,ho2,hb⟩;have HB2:=zh (zxt (Below.drew (Below.refl w.heap.size w)) hb);obtain ⟨a2,k2,hv2⟩:=ho2.form;generalize hn2:((A.drop p).take 512).length=n2 at hv2;have HN2:=zh hn2;clear hn2;subst hv2;have HO2:=zh ho2;clear ho2 hb c0 c1 c2 fz hHeld;have HG2:=zh ((HB2.out.block r (Array.getElem?_eq_some_iff.1 HG.out).1).trans HG.out);obtain ⟨_,c0,c1,c2,fz⟩:=cells3x HG2.out;(try dsimp only))
  generalize hwF:World.setCell (World.setCell w2 _ _) _ _=wF
  have HF:Hid (wF.heap[r]?=some (.cells #[.pointer (some ⟨t,0,none⟩),.int .i64 (p:Nat),.slice a2 n2 k2] 115 (0,0))∧Kps (fun k=>k=r) w2 wF):=by
   unfold Hid
   rw [← hwF]
   obtain ⟨h1,g1⟩:=set1 HG2.out 1 (.int .i64 (p:Nat))
   obtain ⟨h2,g2⟩:=set1 h1 2 (.slice a2 n2 k2)
   exact ⟨h2,Kps.grown (zgt g1 g2) fun j e _=>by cases e;rfl⟩
  have HTY:Hid (Typ 115 w2 r):=⟨_,HG2.out⟩
  have HOF:Hid (OwnI wF 0 (.slice a2 n2 k2) ((A.drop p).take 512)):=((HO2.out.le (Nat.zero_le _)).oth HF.out.2 HTY.out (by decide))
  have HRF:Hid (Rdr enc A wF r t p H):=⟨⟨_,_,HF.out.1,HOF.out,by rw [List.length_take,List.take_eq_take_min],fun g hg=>HHH.out g (ownI_ge HO2.out hg)⟩,(HT.out.tz.ext HB2.out).other HF.out.2 HTY.out (by decide) (by decide) hrt⟩
  have HKF:Hid (Kps (fun k=>k=r) w wF):=(Kps.of_below _ HB2.out).trans HF.out.2 (fun _ _ e=>e)
  obtain ⟨_,f0,f1,f2,_⟩:=cells3x HF.out.1
  clear hwF c0 c1 c2 fz
  cases hx:A[p]? with
  | none =>
    have hn0:n2=0:=by rw [← HN2.out,List.length_take,List.length_drop];have:=List.getElem?_eq_none_iff.1 hx;omega
    have HR:=zh (show aV A p=0∧aB A p=false from ⟨by unfold aV;rw [hx];rfl,by unfold aB;rw [hx];rfl⟩)
    subst hn0
    clear hx
    go_wp2_with fail
    go_ret2
    exact ⟨by rw [HR.out.1,HR.out.2];rfl,⟨p,Nat.le_refl _,HRF.out⟩,HKF.out⟩
  | some x =>
    have hpl:=(List.getElem?_eq_some_iff.1 hx).1
    have hn0:0 < n2:=by rw [← HN2.out,List.length_take,List.length_drop];omega
    have hh:((A.drop p).take 512)[0]?=some x:=by rw [List.getElem?_take,if_pos (by omega),List.getElem?_drop,Nat.add_zero];exact hx
    have HR:=zh (show aV A p=x∧aB A p=true from ⟨by unfold aV;rw [hx];rfl,by unfold aB;rw [hx];rfl⟩)
    obtain ⟨b,o,hbo,hbl,cx,_⟩:=rd_at HOF.out.rdi 0 (List.getElem?_eq_some_iff.1 hh).1
    rw [hh,Option.getD_some,Nat.add_zero] at cx
    subst hbo
    have hnz:¬ ((n2:Int)=0):=by omega
    have hnz':¬ (n2=0):=by omega
    have hnb:((n2:Int) == 0)=false:=by simp;omega
    have hws:IntKind.i64.wrap 0=0:=by rw [IntKind.wrap_i64];omega
    clear hx hh
    go_upto_region 5 with fail
    refine wp_region_held_drew (S:=fun w''=>w''.cell? ⟨r,1,none⟩=some (.int .i64 (p:Nat))∧w''.cell? ⟨r,2,none⟩=some (.slice (some ⟨b,o,none⟩) n2 k2)∧w''.cell? ⟨b,o,none⟩=some (.int .i64 x)) (by kernel_rfl) (⟨f1,f2,cx⟩) (fun hHeld=>?_)
    refine tkH 0 rfl ?_
    refine tkH 1 rfl ?_
    refine tkH 2 rfl ?_
    refine tkH 3 rfl ?_
    refine tkH 4 rfl ?_
    refine tkH 5 rfl ?_
    refine tkH 6 rfl ?_
    refine tkH 7 rfl ?_
    refine tkH 8 rfl ?_
    refine tkH 9 rfl ?_
    refine tkH 10 rfl ?_
    refine tkH 11 rfl ?_
    refine tkH 12 rfl ?_
    refine tkH 13 rfl ?_
    refine dnH ?_
    go_wp2_with fail
    go_ret2
    exact ⟨by rw [HR.out.1,HR.out.2];rfl,⟨p,Nat.le_refl _,HRF.out.ext (Below.refl _ _).drew⟩,HKF.out.trans (Kps.of_below (fun _=>False) (Below.refl _ _).drew) (fun _ _ e=>e.elim)⟩
end Go.Proofs.YtjomfbegghgbdaaGreat.P
