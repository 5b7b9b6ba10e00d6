import Derived.Test.YtdkpkncolpapoaaGreatJ00
import Derived.Test.YtdkpkncolpapoaaGreatJ27
namespace Go.Proofs.YtdkpkncolpapoaaGreat.P
open Go.RowKit
structure Spl (w:World) (base r g n:Nat) (vp:Value) (hs:List HE):Prop where
 each:∀ h ∈ hs,∃ ys,w.ownsRow base 3 1 (h.sl r) (h.e.2.2.length + r) ys
 puts:w.ownsRow base 22 1 vp hs.length (hs.map (HE.sl r))
 all:∃ xs,w.ownsRow base 30 3 (.slice (some ⟨g,0,none⟩) n n) n xs
theorem Hd.sp {w:World} {base r g n:Nat} {vp:Value} {hs:List HE} {xs:List Value} (h:Hd w base r g n vp hs xs):Spl w base r g n vp hs:=by
 refine ⟨fun x hx=>?_,h.puts,⟨xs,h.all⟩⟩
 have k:=h.each x hx
 have hl:(x.row r).length=x.e.2.2.length + r:=by simp [HE.row,mrk_len]
 refine ⟨(x.row r).map (Value.int .i64),by rw [List.length_map,hl,Nat.mul_one],.inr ⟨x.b,x.e.2.2.length + r,_,rfl,k.ge,k.row,Nat.le_refl _,k.ln,by simp [hl],?_⟩⟩
 rw [List.toList_toArray,List.take_of_length_le (by rw [List.length_map,hl];omega)]
theorem ownsRow_put {w:World} {base:Nat} {T U:TypeId} {size:Nat} {v:Value} {n:Nat} {xs:List Value} (h:w.ownsRow base T size v n xs) {b:Nat} (hU:Typ U w b) (hne:T≠U) (j:Nat) (u:Value):(w.setCell ⟨b,j,none⟩ u).ownsRow base T size v n xs :=
 ownsRow_same h fun b' hb'=>heap_setCell_other w ⟨b,j,none⟩ b' u (fun e=>hne (by subst e;exact hb'.uniq hU))
theorem HE.typ {w:World} {base r n:Nat} {h:HE} {ys:List Value} (k:w.ownsRow base 3 1 (h.sl r) n ys):Typ 3 w h.b:=by
 rcases k.2 with ⟨h1,_⟩ | ⟨g,cap,cur,hv,_,hg,_⟩
 ·cases h1
 ·simp only [HE.sl,Value.slice.injEq,Option.some.injEq,Addr.mk.injEq] at hv
  rw [hv.1.1]
  exact ⟨_,hg⟩
theorem Spl.putI {w:World} {base r g n:Nat} {vp:Value} {hs:List HE} (h:Spl w base r g n vp hs) (x:HE) (hx:x ∈ hs) (j:Nat) (u:Value):Spl (w.setCell ⟨x.b,j,none⟩ u) base r g n vp hs∧Kps (fun k=>(∃ y ∈ hs,k=y.b)∨k=g) w (w.setCell ⟨x.b,j,none⟩ u):=by
 obtain ⟨ys,hys⟩:=h.each x hx
 obtain ⟨s1,s2⟩:=World.ownsRow.stored (by unfold HE.sl at hys;exact hys) j u
 refine ⟨⟨fun y hy=>?_,ownsRow_put h.puts (HE.typ hys) (by decide) j u,?_⟩,Kps.grown s2 fun k e _=>.inl ⟨x,hx,(Option.some.inj e).symm⟩⟩
 ·obtain ⟨zs,hzs⟩:=h.each y hy
  by_cases e:y.b=x.b
  ·unfold HE.sl at hzs ⊢
   rw [e] at hzs ⊢
   exact ⟨_,(World.ownsRow.stored hzs j u).1⟩
  ·exact ⟨zs,World.ownsRow.kept hzs s2 (.inr (fun e2=>e (Option.some.inj e2)))⟩
 ·obtain ⟨xs,hxs⟩:=h.all
  exact ⟨xs,ownsRow_put hxs (HE.typ hys) (by decide) j u⟩
theorem Spl.putE {w:World} {base r g n:Nat} {vp:Value} {hs:List HE} (h:Spl w base r g n vp hs) (j:Nat) (u:Value):Spl (w.setCell ⟨g,j,none⟩ u) base r g n vp hs∧Kps (fun k=>(∃ y ∈ hs,k=y.b)∨k=g) w (w.setCell ⟨g,j,none⟩ u):=by
 obtain ⟨xs,hxs⟩:=h.all
 obtain ⟨s1,s2⟩:=World.ownsRow.stored hxs j u
 have ht:Typ 30 w g:=by
  rcases hxs.2 with ⟨h1,_⟩ | ⟨g',cap,cur,hv,_,hg,_⟩
  ·cases h1
  ·simp only [Value.slice.injEq,Option.some.injEq,Addr.mk.injEq] at hv
   rw [hv.1.1]
   exact ⟨_,hg⟩
 refine ⟨⟨fun y hy=>?_,ownsRow_put h.puts ht (by decide) j u,⟨_,s1⟩⟩,Kps.grown s2 fun k e _=>.inr (Option.some.inj e).symm⟩
 obtain ⟨zs,hzs⟩:=h.each y hy
 exact ⟨zs,ownsRow_put hzs ht (by decide) j u⟩
theorem Spl.ext {w w':World} {base r g n:Nat} {vp:Value} {hs:List HE} (h:Spl w base r g n vp hs) (hb:Below w.heap.size w w'):Spl w' base r g n vp hs :=
 ⟨fun x hx=>(h.each x hx).imp fun _ k=>ownsRow_same k fun b hb'=>hb.block b hb'.lt,ownsRow_same h.puts fun b hb'=>hb.block b hb'.lt,h.all.imp fun _ k=>ownsRow_same k fun b hb'=>hb.block b hb'.lt⟩
theorem Spl.row {w:World} {base r g n:Nat} {ap:Option Addr} {cp:Nat} {hs:List HE} (h:Spl w base r g n (.slice ap hs.length cp) hs) (i:Nat) (x:HE) (hx:hs[i]?=some x):∃ gp,ap=some ⟨gp,0,none⟩∧w.cell? ⟨gp,i,none⟩=some (.slice (some ⟨x.b,0,none⟩) (x.e.2.2.length + r) (x.e.2.2.length + r)):=by
 have hi:=(List.getElem?_eq_some_iff.1 hx).1
 have hp:=h.puts
 rcases hp.2 with ⟨h1,h2⟩ | ⟨gp,cap,cur,hv,_,_⟩
 ·omega
 ·simp only [Value.slice.injEq] at hv
  obtain ⟨rfl,_,rfl⟩:=hv
  refine ⟨gp,rfl,?_⟩
  rw [hp.cellAt i (by omega),List.getElem?_map,hx]
  rfl
set_option maxRecDepth 100000 in
set_option maxHeartbeats 4000000 in
theorem spoil_any (base r g n:Nat) (ap:Option Addr) (cp:Nat) (hs:List HE) (w:World) (h:Spl w base r g n (.slice ap hs.length cp) hs) (hn:n≤9223372036854775807) (hl:hs.length≤9223372036854775807) (hm:∀ x ∈ hs,x.e.2.2.length + r≤9223372036854775807) :
  Calls Tryz.prog 83 #[.agg #[.int .i64 (r:Nat),.slice (some ⟨g,0,none⟩) n n,.slice ap hs.length cp]] w fun e w'=>(∃ v,e=.returned v)∧Kps (fun k=>(∃ y ∈ hs,k=y.b)∨k=g) w w':=by
 obtain ⟨w0,hw0,k2,hb0⟩:∃ w0,w0=w.alloc (.cells #[.int .i64 (r:Nat),.slice (some ⟨g,0,none⟩) n n,.slice ap hs.length cp] 157)∧w0.heap[w.heap.size]?=some (.cells #[.int .i64 (r:Nat),.slice (some ⟨g,0,none⟩) n n,.slice ap hs.length cp] 157 (0,0))∧Below w.heap.size w w0:=⟨_,rfl,heap_alloc_new _ _,ext_alloc (Below.refl _ _) _⟩
 have h0:=h.ext hb0
 have HGL:Hid (∀ k,((∃ y ∈ hs,k=y.b)∨k=g)→k≠w.heap.size):=fun k hk e=>by
  rcases hk with ⟨y,hy,rfl⟩ | rfl
  ·obtain ⟨ys,hys⟩:=h.each y hy
   have:=(HE.typ hys).lt
   omega
  ·obtain ⟨xs,hxs⟩:=h.all
   have:=(hxs.lt k rfl).2
   omega
 have HC:Hid (∀ w',Kps (fun k=>(∃ y ∈ hs,k=y.b)∨k=g) w0 w'→w'.cell? ⟨w.heap.size,1,none⟩=some (.slice (some ⟨g,0,none⟩) n n)∧w'.cell? ⟨w.heap.size,2,none⟩=some (.slice ap hs.length cp)):=fun w' hk=>by
  have e:=(hk.same w.heap.size (Array.getElem?_eq_some_iff.1 k2).1 (fun e=>HGL.out _ e rfl)).trans k2
  refine ⟨?_,?_⟩ <;> (rw [cell_of_row w' _ _ _ _ _ e];rfl)
 have HI0:Hid (Spl w0 base r g n (.slice ap hs.length cp) hs∧Kps (fun k=>(∃ y ∈ hs,k=y.b)∨k=g) w0 w0):=⟨h0,Kps.refl _ _⟩
 have HB0:=hidIt hb0
 have HM:=hidIt hm
 clear h h0 k2 hb0 HGL hm
 go_enter Tryz.func83,Tryz.ntmps83
 go_upto_region 1 with fail
 rw [← hw0]
 clear hw0
 go_wp2_with fail
 go_loopg [2] hs.length (fun gk p wr=>∃ i:Nat,i + gk=hs.length∧p=.int .i64 (i:Nat)∧Hid (Spl wr base r g n (.slice ap hs.length cp) hs∧Kps (fun k=>(∃ y ∈ hs,k=y.b)∨k=g) w0 wr))
 case atStart=>exact ⟨0,by omega,rfl,HI0.out⟩
 case round =>
  obtain ⟨i,hi,rfl,HI⟩:=hrel
  obtain ⟨c1,c2⟩:=HC.out wr HI.out.2
  by_cases hil:i < hs.length
  ·have hil2:(i:Int) < (hs.length:Int):=by omega
   obtain ⟨x,hx⟩:∃ x,hs[i]?=some x:=⟨_,List.getElem?_eq_getElem hil⟩
   have hxm:=List.mem_of_getElem? hx
   have hxl:=HM.out x hxm
   obtain ⟨M,hM⟩:∃ M,M=x.e.2.2.length + r:=⟨_,rfl⟩
   have HRW:Hid (∀ w',Spl w' base r g n (.slice ap hs.length cp) hs→∃ gp,ap=some ⟨gp,0,none⟩∧w'.cell? ⟨gp,i,none⟩=some (.slice (some ⟨x.b,0,none⟩) M M)):=fun w' h'=>by rw [hM];exact h'.row i x hx
   have HST:Hid (∀ w',Spl w' base r g n (.slice ap hs.length cp) hs→∀ j,j < M→(∃ u,w'.cell? ⟨x.b,j,none⟩=some u)∧∀ k,w'.frozen? ⟨x.b,k,none⟩=false):=fun w' h' j hj=>by
    obtain ⟨ys,hys⟩:=h'.each x hxm
    unfold HE.sl at hys
    rw [← hM] at hys
    have e:=hys.cellAt j (by omega)
    have e1:=hys.1
    rw [List.getElem?_eq_getElem (by omega)] at e
    exact ⟨⟨_,e⟩,fun k=>hys.frozenAt k⟩
   have HPT:Hid (∀ w' j u,Spl w' base r g n (.slice ap hs.length cp) hs∧Kps (fun k=>(∃ y ∈ hs,k=y.b)∨k=g) w0 w'→Spl (w'.setCell ⟨x.b,j,none⟩ u) base r g n (.slice ap hs.length cp) hs∧Kps (fun k=>(∃ y ∈ hs,k=y.b)∨k=g) w0 (w'.setCell ⟨x.b,j,none⟩ u)):=fun w' j u h'=>by
    obtain ⟨p1,p2⟩:=h'.1.putI x hxm j u
    exact ⟨p1,h'.2.trans p2 fun _ _ e=>e⟩
   rw [← hM] at hxl
   obtain ⟨gp,rfl,cp1⟩:=HRW.out wr HI.out.1
   have hcpx:hs.length≤cp:=by
    have hp:=HI.out.1.puts
    rcases hp.2 with ⟨h1,h2⟩ | ⟨gp',cap,cur,hv,_,_,h3,_⟩
    ·cases h1
    ·simp only [Value.slice.injEq] at hv
     omega
   clear hx hM hxm
   go_wp2_with fail
   go_loopg [3] M (fun gk2 p wr2=>∃ j:Nat,j + gk2=M∧p=.int .i64 (j:Nat)∧Hid (Spl wr2 base r g n (.slice (some ⟨gp,0,none⟩) hs.length cp) hs∧Kps (fun k=>(∃ y ∈ hs,k=y.b)∨k=g) w0 wr2))
   case atStart=>exact ⟨0,by omega,rfl,HI.out⟩
   case round =>
    obtain ⟨j,hj,rfl,HI2⟩:=hrel
    clear c1 c2 cp1
    obtain ⟨c1,c2⟩:=HC.out wr HI2.out.2
    obtain ⟨gp',e5,cp1⟩:=HRW.out wr HI2.out.1
    cases e5
    by_cases hjM:j < M
    ·have hjM2:(j:Int) < (M:Int):=by omega
     obtain ⟨⟨u,cu⟩,fz⟩:=HST.out wr HI2.out.1 j hjM
     have hrem:(33:Int) + Int.tmod (j:Int) 90≤9223372036854775807∧-9223372036854775808≤(33:Int) + Int.tmod (j:Int) 90:=by
      have h1:=Int.tmod_lt_of_pos (j:Int) (show (0:Int) < 90 by omega)
      have h2:=Int.tmod_nonneg 90 (show (0:Int)≤(j:Int) by omega)
      omega
     go_wp2_with fail
     go_roundg (M - (j + 1))
     case rel=>exact ⟨j + 1,by omega,by go_num,HPT.out wr j _ HI2.out⟩
     case measure=>omega
    ·have hjM2:¬ (j:Int) < (M:Int):=by omega
     go_wp2_with fail
     go_roundg (hs.length - (i + 1))
     case rel=>exact ⟨i + 1,by omega,by go_num,HI2.out⟩
     case measure=>omega
  ·have hil2:¬ (i:Int) < (hs.length:Int):=by omega
   have HST:Hid (∀ w',Spl w' base r g n (.slice ap hs.length cp) hs→∀ j,j < n→(∃ u,w'.cell? ⟨g,j * 3,none⟩=some u)∧∀ k,w'.frozen? ⟨g,k,none⟩=false):=fun w' h' j hj=>by
    obtain ⟨ys,hys⟩:=h'.all
    have e:=hys.cellAt (j * 3) (by omega)
    have e1:=hys.1
    rw [List.getElem?_eq_getElem (by omega)] at e
    exact ⟨⟨_,e⟩,fun k=>hys.frozenAt k⟩
   go_wp2_with fail
   go_loopg [4] n (fun gk2 p wr2=>∃ j:Nat,j + gk2=n∧p=.int .i64 (j:Nat)∧Hid (Spl wr2 base r g n (.slice ap hs.length cp) hs∧Kps (fun k=>(∃ y ∈ hs,k=y.b)∨k=g) w0 wr2))
   case atStart=>exact ⟨0,by omega,rfl,HI.out⟩
   case round =>
    obtain ⟨j,hj,rfl,HI2⟩:=hrel
    clear c1 c2
    obtain ⟨c1,c2⟩:=HC.out wr HI2.out.2
    by_cases hjM:j < n
    ·have hjM2:(j:Int) < (n:Int):=by omega
     obtain ⟨⟨u,cu⟩,fz⟩:=HST.out wr HI2.out.1 j hjM
     go_wp2_with fail
     go_roundg (n - (j + 1))
     case rel =>
      obtain ⟨p1,p2⟩:=HI2.out.1.putE (j * 3) (.int .i64 7)
      exact ⟨j + 1,by omega,by go_num,p1,HI2.out.2.trans p2 fun _ _ e=>e⟩
     case measure=>omega
    ·have hjM2:¬ (j:Int) < (n:Int):=by omega
     go_wp2_with fail
     have FIN:Hid ((∀ u:Value,∃ v,Ending.returned u=.returned v)∧Kps (fun k=>(∃ y ∈ hs,k=y.b)∨k=g) w wr):=⟨fun u=>⟨u,rfl⟩,(Kps.of_below _ HB0.out).trans HI2.out.2 fun _ _ e=>e⟩
     refine bodyPost_end (results_none rfl _ _ _) rfl ?_
     exact ⟨FIN.out.1 _,FIN.out.2⟩
end Go.Proofs.YtdkpkncolpapoaaGreat.P
