import Derived.Test.YtdhciadajendnaaGreatK00
import Derived.RangeFuncNested
import Derived.RangeFuncBound
import Derived.Deep.RegionHeld3
set_option maxRecDepth 100000
namespace Go.Proofs.YtdhciadajendnaaGreat.P
open Go.RowKit
structure Kps (own:Nat→Prop) (W W':World):Prop where
 os:W'.os=W.os
 tape:W'.tape=W.tape
 output:W'.output=W.output
 size:W.heap.size≤W'.heap.size
 same:∀ k,k < W.heap.size→¬ own k→W'.heap[k]?=W.heap[k]?
theorem Kps.refl (own:Nat→Prop) (W:World):Kps own W W:=⟨rfl,rfl,rfl,Nat.le_refl _,fun _ _ _=>rfl⟩
theorem Kps.trans {o p:Nat→Prop} {A B C:World} (h:Kps o A B) (k:Kps p B C) (hp:∀ i,i < A.heap.size→p i→o i):Kps o A C :=
 ⟨k.os.trans h.os,k.tape.trans h.tape,k.output.trans h.output,Nat.le_trans h.size k.size,fun i hi ho=>(k.same i (Nat.lt_of_lt_of_le hi h.size) (fun e=>ho (hp i hi e))).trans (h.same i hi ho)⟩
theorem Kps.below {o:Nat→Prop} {A B:World} (h:Kps o A B) {n:Nat} (hn:n≤A.heap.size) (ho:∀ k,o k→n≤k):Below n A B :=
 ⟨h.os,h.tape,h.output,h.size,fun k hk=>h.same k (Nat.lt_of_lt_of_le hk hn) (fun e=>by have:=ho k e;omega)⟩
theorem Kps.of_below {A B:World} (o:Nat→Prop) (h:Below A.heap.size A B):Kps o A B:=⟨h.os,h.tape,h.output,h.size,fun k hk _=>h.block k hk⟩
theorem Kps.put {o:Nat→Prop} {A:World} {r:Nat} (x:Obj) (hr:o r):Kps o A (A.putObj r x) :=
 ⟨rfl,rfl,rfl,by simp,fun k _ hk=>World.putObj_heap_other (fun e=>hk (e ▸ hr))⟩
theorem Kps.mono {o p:Nat→Prop} {A B:World} (h:Kps o A B) (hp:∀ i,i < A.heap.size→o i→p i):Kps p A B:=⟨h.os,h.tape,h.output,h.size,fun k hk hn=>h.same k hk (fun e=>hn (hp k hk e))⟩
theorem Kps.grown {o:Nat→Prop} {A B:World} {row:Option Nat} (h:A.grownBy B row) (hr:∀ k,row=some k→k < A.heap.size→o k):Kps o A B :=
 ⟨h.os,h.tape,h.output,h.size,fun k hk hn=>h.block k hk (fun e=>hn (hr k e.symm hk))⟩
structure Guest (σ α:Type) where
 own:σ→Nat→Prop
 J:σ→List α→World→Prop
 Jx:σ→List α→World→Prop
 lean:Nat→Prop
 stay:∀ s pre W W',J s pre W→W.heap.size≤W'.heap.size→(∀ k,own s k∨lean k→W'.heap[k]?=W.heap[k]?)→J s pre W'
 stayx:∀ s pre W W',Jx s pre W→W.heap.size≤W'.heap.size→(∀ k,own s k∨lean k→W'.heap[k]?=W.heap[k]?)→Jx s pre W'
 lives:∀ s pre W,J s pre W→∀ k,own s k→k < W.heap.size
def Newer {σ:Type} (own:σ→Nat→Prop) (s s':σ) (W:World):Prop:=∀ k,own s' k→own s k∨W.heap.size≤k
def SeqX {α:Type} (F:Fence) (n:Nat) (P:Program) (g:Nat) (lb:Array Value) (encs:α→Array Value) (rel:Nat→Prop) (S Sp:List α→Prop) (w:World):Prop :=
 ∀ (l:Nat) (σ:Type) (G:Guest σ α) (s:σ) (W:World),Kps (fun k=>¬ rel k) w W→(∀ k,rel k→k < w.heap.size∧¬ G.own s k)→(∀ k,G.lean k→k < W.heap.size) →
   (∀ s pre x W1,G.J s pre W1→Sp (pre ++ [x])→YieldAt F (n - 1) P l (encs x) W1 fun e W' =>
    (e=.returned (.bool true)∧∃ s',G.J s' (pre ++ [x]) W'∧Kps (G.own s) W1 W'∧Newer G.own s s' W1)∨(e=.returned (.bool false)∧∃ s',G.Jx s' (pre ++ [x]) W'∧Kps (G.own s) W1 W'∧Newer G.own s s' W1)) →
   G.J s [] W →
   CallsIn F n P g (#[.func (.yield l) #[] #[]] ++ lb) W fun e W'=>(∃ v,e=.returned v)∧∃ s',Kps (G.own s) W W'∧Newer G.own s s' W∧((∃ xs,S xs∧G.J s' xs W')∨(∃ pre,Sp pre∧G.Jx s' pre W'))
def postX {σ α:Type} (own:σ→Nat→Prop) (I:σ→List α→World→Prop) (Ix:Code→σ→List α→World→Prop) (s:σ) (xs:List α) (W:World):Exit→Act→World→Prop
 | .normal,_,W'=>∃ s',I s' xs W'∧Kps (own s) W W'∧Newer own s s' W
 | .ret,_,W'=>∃ s',Ix .ret s' xs W'∧Kps (own s) W W'∧Newer own s s' W
 | .exit id,_,W'=>∃ s',Ix (.exit id) s' xs W'∧Kps (own s) W W'∧Newer own s s' W
 | .goto t,_,W'=>∃ s',Ix (.goto t) s' xs W'∧Kps (own s) W W'∧Newer own s s' W
 | .panic _,_,_=>False
 | .outgrown,_,_=>False
variable {F:Fence} {n:Nat} {P:Program}
set_option maxHeartbeats 1000000 in
theorem range_x {σ α:Type} {g:Operand} {ps:Array Tmp} {assign body:Code} {Q:Exit→Act→World→Prop} {a:Act} {w:World}
  (hro:F.round=none) (h1:1≤n) {gf:Nat} {lb:Array Value} (hg:a.eval g=.func (.func gf) #[] lb) (hFg:F.fn gf) (eg:∀ args w,(callFunc gf args).run P w=.ok (.enter gf args) w)
  {encs:α→Array Value} {rel:Nat→Prop} {S Sp:List α→Prop} {w0:World} (hseq:SeqX F (n - 1) P gf lb encs rel S Sp w0) (hrw:Kps (fun k=>¬ rel k) w0 w) (hps:∀ x,(encs x).size=ps.size)
  (own:σ→Nat→Prop) (I:σ→List α→World→Prop) (Ix:Code→σ→List α→World→Prop) (s0:σ) (hrel:∀ k,rel k→k < w0.heap.size∧¬ own s0 k)
  (lean:Nat→Prop) (hln:∀ k,lean k→k < w.heap.size)
  (hI:∀ s pre W W',I s pre W→W.heap.size≤W'.heap.size→(∀ k,own s k∨lean k→W'.heap[k]?=W.heap[k]?)→I s pre W')
  (hIx:∀ c s pre W W',Ix c s pre W→W.heap.size≤W'.heap.size→(∀ k,own s k∨lean k→W'.heap[k]?=W.heap[k]?)→Ix c s pre W')
  (hlv:∀ s pre W,I s pre W→∀ k,own s k→k < W.heap.size) (h0:I s0 [] w) (Ax:α→Act→World→Prop) (hAx:∀ x a' W W',Ax x a' W→W.heap.size≤W'.heap.size→(∀ k,w.heap.size + 2≤k→k < W.heap.size→W'.heap[k]?=W.heap[k]?)→Ax x a' W')
  (hassign:∀ (l:Nat) (x:α) (W:World) (K:Act→World→Prop),w.heap.size + 2≤W.heap.size→(∀ a' W',Below W.heap.size W W'→Ax x a' W'→K a' W') →
   assign.wpIn (F.inRound l) (n - 1 - 1) P (Exit.then K (fun _ _ _=>False)) { tmps:=(ps.zip (encs x)).foldl (fun t (p,v)=>t.setIfInBounds p v) a.tmps,defers:=[] } W)
  (hbody:∀ (l:Nat) (s:σ) (pre:List α) (x:α) (a':Act) (W:World),I s pre W→Ax x a' W→Sp (pre ++ [x])→w.heap.size + 2≤W.heap.size→body.wpIn (F.inRound l) (n - 1 - 1) P (postX own I Ix s (pre ++ [x]) W) a' W)
  (hdone:∀ (s:σ) (xs:List α) (W:World),Kps (own s0) w W→Newer own s0 s w→S xs→I s xs W→W.heap[w.heap.size]?=some (.deferred (some []))→¬ own s w.heap.size→Q .normal { a with defers:={ target:=.collected w.heap.size,args:=#[] } :: a.defers } W)
  (hstop:∀ (c:Code) (s:σ) (pre:List α) (W:World),Kps (own s0) w W→Newer own s0 s w→Sp pre→Ix c s pre W→W.heap[w.heap.size]?=some (.deferred (some []))→¬ own s w.heap.size→c.wpIn F n P Q { a with defers:={ target:=.collected w.heap.size,args:=#[] } :: a.defers } W) :
  (Code.rangeFunc g ps assign body).wpIn F n P Q a w:=by
 refine wpIn_rangeFunc fun fn hfn=>?_
 rw [hro]
 obtain ⟨rec,hrec⟩:∃ rec:LoopState→Option Code→Loop,rec=fun st pe=>{ state:=st,pending:=pe,fn,tmps:=a.tmps,params:=ps,assign,body,defers:=w.heap.size }:=⟨_,rfl⟩
 obtain ⟨W1,hW1⟩:∃ W1,(w.alloc (.deferred (some []))).alloc (.loop (rec .ready none))=W1:=⟨_,rfl⟩
 have bW:Below w.heap.size w W1:=by rw [← hW1];exact zxa (zxa (Below.refl _ _) _) _
 have sW:W1.heap.size=w.heap.size + 2:=by rw [← hW1];simp
 have hL1:W1.heap[w.heap.size + 1]?=some (.loop (rec .ready none)):=by
  rw [← hW1]
  have:=World.alloc_heap_new (w.alloc (.deferred (some []))) (.loop (rec .ready none))
  rwa [World.size_alloc] at this
 have hD1:W1.heap[w.heap.size]?=some (.deferred (some [])):=by
  rw [← hW1]
  exact (Below.heap_alloc _ _ _ (by simp)).trans (World.alloc_heap_new w _)
 -- what the caller owns besides: the record and the block for the rounds' deferred calls
 let G:Guest σ α:={
  own:=fun s k=>own s k∨k=w.heap.size∨k=w.heap.size + 1
  J:=fun s pre W=>I s pre W∧(∀ k,own s k→k≠w.heap.size∧k≠w.heap.size + 1)∧W.heap[w.heap.size + 1]?=some (.loop (rec .ready none))∧W.heap[w.heap.size]?=some (.deferred (some []))∧w.heap.size + 2≤W.heap.size
  Jx:=fun s pre W=>∃ c,Ix c s pre W∧(∀ k,own s k→k≠w.heap.size∧k≠w.heap.size + 1)∧W.heap[w.heap.size + 1]?=some (.loop (rec .done (some c)))∧W.heap[w.heap.size]?=some (.deferred (some []))∧w.heap.size + 2≤W.heap.size
  lean:=lean
  stay:=fun s pre W W' h hs hk=>⟨hI s pre W W' h.1 hs (fun k ho=>ho.elim (fun o=>hk k (.inl (.inl o))) (fun q=>hk k (.inr q))),h.2.1,(hk _ (.inl (.inr (.inr rfl)))).trans h.2.2.1,(hk _ (.inl (.inr (.inl rfl)))).trans h.2.2.2.1,Nat.le_trans h.2.2.2.2 hs⟩
  stayx:=fun s pre W W' h hs hk=>by
   obtain ⟨c,h1,h2,h3,h4,h5⟩:=h
   exact ⟨c,hIx c s pre W W' h1 hs (fun k ho=>ho.elim (fun o=>hk k (.inl (.inl o))) (fun q=>hk k (.inr q))),h2,(hk _ (.inl (.inr (.inr rfl)))).trans h3,(hk _ (.inl (.inr (.inl rfl)))).trans h4,Nat.le_trans h5 hs⟩
  lives:=fun s pre W h k ho=>by
   rcases ho with ho | rfl | rfl
   ·exact hlv s pre W h.1 k ho
   ·have:=h.2.2.2.2;omega
   ·have:=h.2.2.2.2;omega }
 have ap0:∀ k,own s0 k→k < w.heap.size:=fun k ho=>hlv s0 [] w h0 k ho
 refine ⟨w.heap.size + 1,[{ target:=.collected w.heap.size,args:=#[] }],W1,{ target:=.fn (.func gf) lb,args:=#[.func (.yield (w.heap.size + 1)) #[] #[]] },W1,gf,
  #[.func (.yield (w.heap.size + 1)) #[] #[]] ++ lb,W1,?_,?_,?_,?_,fun _=>h1,?_⟩
 ·rw [← hW1,hrec];exact run_enterLoop_outer _ _ _ _ _
 ·simp only [resolve,hg]
  simp [go_sem]
 ·intro f' hf'
  simp [Target.leads] at hf'
  subst hf'
  exact hFg
 ·simp [invoke,go_sem,eg]
 ·refine (hseq (w.heap.size + 1) σ G s0 W1 (hrw.trans (Kps.of_below (fun k=>¬ rel k) bW) (fun _ _ e=>e)) (fun k hk=>?_) (fun k hk=>Nat.lt_of_lt_of_le (hln k hk) bW.size) ?_ ?_).mono ?_
  ·obtain ⟨k1,k2⟩:=hrel k hk
   have hsz:=hrw.size
   refine ⟨k1,?_⟩
   rintro (h | rfl | rfl)
   ·exact k2 h
   ·omega
   ·omega
  ·-- a round
   rintro s pre x W ⟨hi,hap,hl,hk,hz⟩ hlen
   have hy:=run_yield (P:=P) (args:=encs x) hl (by rw [hrec];exact hps x)
   rw [hrec] at hy
   refine ⟨fn,_,assign,body,hy,roundIn_of_wpIn hfn (hassign _ x W _ hz fun a' Wa bA hax=>?_)⟩
   have za:=bA.size
   have hla:Wa.heap[w.heap.size + 1]?=some (.loop (rec .ready none)):=(bA.block _ (by omega)).trans hl
   have hka:Wa.heap[w.heap.size]?=some (.deferred (some [])):=(bA.block _ (by omega)).trans hk
   refine ⟨_,run_beginRound hla (by rw [hrec]),?_⟩
   obtain ⟨W2,hW2⟩:∃ W2,Wa.putObj (w.heap.size + 1) (.loop { rec .ready none with state:=.busy })=W2:=⟨_,rfl⟩
   rw [hW2]
   have k2:Kps (G.own s) W W2:=by rw [← hW2];exact Kps.trans (Kps.of_below _ bA) (Kps.put (o:=G.own s) _ (.inr (.inr rfl))) (fun _ _ e=>e)
   have z2:W2.heap.size=Wa.heap.size:=by rw [← hW2];simp
   have l2:W2.heap[w.heap.size + 1]?=some (.loop { rec .ready none with state:=.busy }):=by rw [← hW2];exact World.putObj_heap_same (by omega)
   have d2:W2.heap[w.heap.size]?=some (.deferred (some [])):=by rw [← hW2];exact (World.putObj_heap_other (by omega)).trans hka
   have i2:I s pre W2:=hI s pre W W2 hi (by omega) (fun k ho=>by
    rw [← hW2]
    rcases ho with ho | ho
    ·exact (World.putObj_heap_other (hap k ho).2).trans (bA.block k (hlv s pre W hi k ho))
    ·have:=hln k ho
     exact (World.putObj_heap_other (by omega)).trans (bA.block k (by omega)))
   have a2:Ax x a' W2:=hAx x a' Wa W2 hax (by omega) (fun k hk _=>by rw [← hW2];exact World.putObj_heap_other (by omega))
   refine wpIn_mono (hbody _ s pre x a' W2 i2 a2 hlen (by omega)) ?_
   -- the round's end,whichever it is
   have fin:∀ (jump:Option Code) (s':σ) (W3:World),Kps (own s) W2 W3→Newer own s s' W2 →
     ∃ W4,(Instr.endRound (w.heap.size + 1) jump).run P W3=.ok (.bool jump.isNone) W4∧W4.heap[w.heap.size + 1]?=some (.loop (rec (if jump.isNone then .ready else .done) jump))∧W4.heap[w.heap.size]?=some (.deferred (some [])) ∧
       W3.heap.size≤W4.heap.size∧w.heap.size + 2≤W4.heap.size∧(∀ k,own s' k→k≠w.heap.size∧k≠w.heap.size + 1)∧(∀ k,own s' k∨lean k→W4.heap[k]?=W3.heap[k]?)∧Kps (G.own s) W W4∧Newer G.own s s' W:=fun jump s' W3 k3 n3=>by
    have l3:W3.heap[w.heap.size + 1]?=some (.loop { rec .ready none with state:=.busy }):=(k3.same _ (by omega) (fun e=>(hap _ e).2 rfl)).trans l2
    have d3:W3.heap[w.heap.size]?=some (.deferred (some [])):=(k3.same _ (by omega) (fun e=>(hap _ e).1 rfl)).trans d2
    have z3:=k3.size
    have hap':∀ k,own s' k→k≠w.heap.size∧k≠w.heap.size + 1:=fun k ho=>by
     rcases n3 k ho with h | h
     ·exact hap k h
     ·omega
    have hr:=run_endRound (P:=P) jump l3
    refine ⟨_,hr,?_,?_,by simp,by simp;omega,hap',fun k ho=>World.putObj_heap_other (ho.elim (fun o=>(hap' k o).2) (fun q=>by have:=hln k q;omega)),?_,?_⟩
    ·rw [hrec];exact World.putObj_heap_same (by omega)
    ·exact (World.putObj_heap_other (by omega)).trans d3
    ·refine Kps.trans (Kps.trans k2 k3 (fun i _ e=>.inl e)) (Kps.put (o:=G.own s) _ (.inr (.inr rfl))) (fun i _ e=>e)
    ·intro k ho
     rcases ho with ho | ho | ho
     ·rcases n3 k ho with h | h
      ·exact .inl (.inl h)
      ·exact .inr (by omega)
     ·exact .inl (.inr (.inl ho))
     ·exact .inl (.inr (.inr ho))
   rintro e a3 W3 hp
   cases e with
   | normal =>
     obtain ⟨s',hi3,k3,n3⟩:=hp
     obtain ⟨W4,hr,q1,q2,q3,q4,q5,q6,q7,q8⟩:=fin none s' W3 k3 n3
     exact ⟨_,_,hr,.inl ⟨rfl,s',⟨hI s' _ W3 W4 hi3 q3 q6,q5,q1,q2,q4⟩,q7,q8⟩⟩
   | ret =>
     obtain ⟨s',hi3,k3,n3⟩:=hp
     obtain ⟨W4,hr,q1,q2,q3,q4,q5,q6,q7,q8⟩:=fin (some .ret) s' W3 k3 n3
     exact ⟨_,_,hr,.inr ⟨rfl,s',⟨_,hIx _ s' _ W3 W4 hi3 q3 q6,q5,q1,q2,q4⟩,q7,q8⟩⟩
   | exit id =>
     obtain ⟨s',hi3,k3,n3⟩:=hp
     obtain ⟨W4,hr,q1,q2,q3,q4,q5,q6,q7,q8⟩:=fin (some (.exit id)) s' W3 k3 n3
     exact ⟨_,_,hr,.inr ⟨rfl,s',⟨_,hIx _ s' _ W3 W4 hi3 q3 q6,q5,q1,q2,q4⟩,q7,q8⟩⟩
   | goto t =>
     obtain ⟨s',hi3,k3,n3⟩:=hp
     obtain ⟨W4,hr,q1,q2,q3,q4,q5,q6,q7,q8⟩:=fin (some (.goto t)) s' W3 k3 n3
     exact ⟨_,_,hr,.inr ⟨rfl,s',⟨_,hIx _ s' _ W3 W4 hi3 q3 q6,q5,q1,q2,q4⟩,q7,q8⟩⟩
   | panic ch=>exact hp.elim
   | outgrown=>exact hp.elim
  ·exact ⟨hI s0 [] w W1 h0 (by omega) (fun k ho=>bW.block k (ho.elim (ap0 k) (hln k))),fun k ho=>by have:=ap0 k ho;omega,hL1,hD1,by omega⟩
  ·-- behind the iterator
   rintro e W2 ⟨⟨v,rfl⟩,s',kW,nW,hend⟩
   have kw:∀ W3,Kps (G.own s0) W1 W3→Kps (own s0) w W3:=fun W3 k=>⟨k.os.trans bW.os,k.tape.trans bW.tape,k.output.trans bW.output,by have:=k.size;omega,fun i hi ho=>(k.same i (by omega) (by rintro (h | h | h);exact ho h;omega;omega)).trans (bW.block i hi)⟩
   have nw:(∀ k,own s' k→k≠w.heap.size∧k≠w.heap.size + 1)→Newer own s0 s' w:=fun hap k ho=>by
    rcases nW k (.inl ho) with (h | h | h) | h
    ·exact .inl h
    ·exact absurd h (hap k ho).1
    ·exact absurd h (hap k ho).2
    ·exact .inr (by omega)
   rcases hend with ⟨xs,hS,hi,hap,hl,hd,hz⟩ | ⟨pre,hSp,c,hi,hap,hl,hd,hz⟩
   ·have hr:=run_endLoop (P:=P) hl (by rw [hrec];simp)
    have hr':(Instr.endLoop (w.heap.size + 1)).run P W2=.ok none (W2.putObj (w.heap.size + 1) (.loop { rec .ready none with state:=.exhausted })):=by rw [hr,hrec]
    refine ⟨none,_,hr',hdone s' xs _ (kw _ (Kps.trans kW (Kps.put (o:=G.own s0) _ (.inr (.inr rfl))) (fun i _ e=>e))) (nw hap) hS (hI s' xs W2 _ hi (by simp) (fun k ho=>World.putObj_heap_other (ho.elim (fun o=>(hap k o).2) (fun q=>by have:=hln k q;omega)))) ((World.putObj_heap_other (by omega)).trans hd) (fun h=>(hap _ h).1 rfl)⟩
   ·have hr:=run_endLoop (P:=P) hl (by rw [hrec];simp)
    have hr':(Instr.endLoop (w.heap.size + 1)).run P W2=.ok (some c) (W2.putObj (w.heap.size + 1) (.loop { rec .done (some c) with state:=.exhausted })):=by rw [hr,hrec]
    refine ⟨some c,_,hr',hstop c s' pre _ (kw _ (Kps.trans kW (Kps.put (o:=G.own s0) _ (.inr (.inr rfl))) (fun i _ e=>e))) (nw hap) hSp (hIx c s' pre W2 _ hi (by simp) (fun k ho=>World.putObj_heap_other (ho.elim (fun o=>(hap k o).2) (fun q=>by have:=hln k q;omega)))) ((World.putObj_heap_other (by omega)).trans hd) (fun h=>(hap _ h).1 rfl)⟩
open Go.RowKit
def ndrow (x:It) (lv rv:Option Addr) (n h:Nat) (s:Rs):Array Value :=
 #[.slice x.p x.n x.c,.int .i64 x.pl,.int .i64 x.sp.a,.int .i64 x.sp.s,.int .i64 x.sp.b,.bool x.sp.lf,.bool x.sp.cr,.pointer lv,.pointer rv,.int .i64 n,.int .i64 h,.int .i64 s.a,.int .i64 s.s,.int .i64 s.b,.bool s.lf,.bool s.cr]
def Tin (w:World):Tr It→Option Addr→Prop
 | ⟨none⟩,u=>u=none
 | ⟨some (l,x,r)⟩,u=>∃ g lv rv,u=some ⟨g,0,none⟩∧w.heap[g]?=some (.cells (ndrow x lv rv (l.list ++ x :: r.list).length (max l.ht r.ht + 1) (rA.su (l.list ++ x :: r.list))) 163 (0,0))∧Tin w l lv∧Tin w r rv
theorem Tin.ext {w w':World} (hb:Below w.heap.size w w'):∀ {t:Tr It} {u:Option Addr},Tin w t u→Tin w' t u
 | ⟨none⟩,_,h=>h
 | ⟨some (l,x,r)⟩,_,⟨g,lv,rv,hu,hg,hl,hr⟩=>⟨g,lv,rv,hu,by rw [hb.block g (Array.getElem?_eq_some_iff.1 hg).1];exact hg,Tin.ext hb hl,Tin.ext hb hr⟩
theorem count_any (t:Tr It) (u:Option Addr) (w:World) (h:Tin w t u):Calls Tryz.prog 101 #[.pointer u] w fun e w'=>e=.returned (.int .i64 t.list.length)∧w'=w:=by
 cases t using Tr.ind with
 | nil =>
   simp only [Tin] at h
   subst h
   go_enter Tryz.func101,Tryz.ntmps101
   go_wp2_with fail
   go_ret
   exact ⟨rfl,rfl⟩
 | node l x r =>
   obtain ⟨g,lv,rv,rfl,hg,hl,hr⟩:=h
   have c4:w.cell? ⟨g,9,none⟩=some (.int .i64 (l.list ++ x :: r.list).length):=by (rw [cell_of_row w g _ _ _ _ hg];rfl)
   show Calls _ _ _ _ fun e w'=>e=.returned (.int .i64 (l.list ++ x :: r.list).length)∧w'=w
   generalize (l.list ++ x :: r.list).length=n at *
   clear hg hl hr
   go_enter Tryz.func101,Tryz.ntmps101
   go_wp2_with fail
   go_ret
   exact ⟨rfl,rfl⟩
theorem levels_any (t:Tr It) (u:Option Addr) (w:World) (h:Tin w t u):Calls Tryz.prog 132 #[.pointer u] w fun e w'=>e=.returned (.int .i64 t.ht)∧w'=w:=by
 cases t using Tr.ind with
 | nil =>
   simp only [Tin] at h
   subst h
   go_enter Tryz.func132,Tryz.ntmps132
   go_wp2_with fail
   go_ret
   exact ⟨rfl,rfl⟩
 | node l x r =>
   obtain ⟨g,lv,rv,rfl,hg,hl,hr⟩:=h
   have c4:w.cell? ⟨g,10,none⟩=some (.int .i64 ((max l.ht r.ht + 1:Nat):Int)):=by (rw [cell_of_row w g _ _ _ _ hg];rfl)
   show Calls _ _ _ _ fun e w'=>e=.returned (.int .i64 ((max l.ht r.ht + 1:Nat):Int))∧w'=w
   generalize (max l.ht r.ht + 1)=n at *
   clear hg hl hr
   go_enter Tryz.func132,Tryz.ntmps132
   go_wp2_with fail
   go_ret
   exact ⟨rfl,rfl⟩
theorem total_any (t:Tr It) (u:Option Addr) (w:World) (h:Tin w t u):Calls Tryz.prog 65 #[.pointer u] w fun e w'=>∃ s,Hid (s=rA.su t.list)∧e=.returned (.agg #[.int .i64 s.a,.int .i64 s.s,.int .i64 s.b,.bool s.lf,.bool s.cr])∧Below w.heap.size w w':=by
 cases t using Tr.ind with
 | nil =>
   simp only [Tin] at h
   subst h
   have HE:Hid (Rs.zero=rA.su (Tr.nil:Tr It).list):=rfl
   go_enter Tryz.func65,Tryz.ntmps65
   go_wp2_with fail
   exact bodyPost_ret (v:=.agg #[.int .i64 0,.int .i64 0,.int .i64 0,.bool false,.bool false]) (by simp [results,Tryz.results65,go_sem]) rfl ⟨_,HE,rfl,zxa (zxa (Below.refl _ _) _) _⟩
 | node l x r =>
   obtain ⟨g,lv,rv,rfl,hg,hl,hr⟩:=h
   have HE:Hid (rA.su (l.list ++ x :: r.list)=rA.su (Tr.node l x r).list):=rfl
   have c4:(w.cell? ⟨g,11,none⟩=some (.int .i64 (rA.su (l.list ++ x :: r.list)).a)∧w.cell? ⟨g,12,none⟩=some (.int .i64 (rA.su (l.list ++ x :: r.list)).s)∧w.cell? ⟨g,13,none⟩=some (.int .i64 (rA.su (l.list ++ x :: r.list)).b)∧w.cell? ⟨g,14,none⟩=some (.bool (rA.su (l.list ++ x :: r.list)).lf)∧w.cell? ⟨g,15,none⟩=some (.bool (rA.su (l.list ++ x :: r.list)).cr)):=by (refine ⟨?_,?_,?_,?_,?_⟩ <;> (rw [cell_of_row w g _ _ _ _ hg];rfl))
   have c5:True:=trivial
   have c6:True:=trivial
   have c7:True:=trivial
   have hlt:=(Array.getElem?_eq_some_iff.1 hg).1
   generalize rA.su (l.list ++ x :: r.list)=n at *
   clear hg hl hr
   go_enter Tryz.func65,Tryz.ntmps65
   go_wp2_with fail
   exact bodyPost_ret (v:=.agg #[.int .i64 n.a,.int .i64 n.s,.int .i64 n.b,.bool n.lf,.bool n.cr]) (by simp [results,Tryz.results65,go_sem]) rfl ⟨_,HE,rfl,zxa (Below.refl _ _) _⟩
open Go.RowKit
set_option maxHeartbeats 2000000 in
theorem branch_any (l r:Tr It) (x:It) (lu ru:Option Addr) (w:World) (hl:Tin w l lu) (hr:Tin w r ru) (hw:wt (l.list ++ x :: r.list)≤4611686018427387904) :
  Calls Tryz.prog 110 #[.pointer lu,.agg #[.slice x.p x.n x.c,.int .i64 x.pl,.int .i64 x.sp.a,.int .i64 x.sp.s,.int .i64 x.sp.b,.bool x.sp.lf,.bool x.sp.cr],.pointer ru] w fun e w'=>∃ u,e=.returned (.pointer u)∧Tin w' (.node l x r) u∧Below w.heap.size w w':=by
 obtain ⟨w0,hw0⟩:∃ w0,w0=w.alloc (.cells #[.slice x.p x.n x.c,.int .i64 x.pl,.int .i64 x.sp.a,.int .i64 x.sp.s,.int .i64 x.sp.b,.bool x.sp.lf,.bool x.sp.cr] 97):=⟨_,rfl⟩
 have hb0:Below w.heap.size w w0:=by rw [hw0];exact zxa (Below.refl _ _) _
 have HB0:Hid (Below w.heap.size w w0):=hb0
 have hsz:w.heap.size < w0.heap.size:=by first | trivial | (rw [hw0];simp)
 have hc1:(w0.cell? ⟨w.heap.size,0,none⟩=some (.slice x.p x.n x.c)∧w0.cell? ⟨w.heap.size,1,none⟩=some (.int .i64 x.pl)∧w0.cell? ⟨w.heap.size,2,none⟩=some (.int .i64 x.sp.a)∧w0.cell? ⟨w.heap.size,3,none⟩=some (.int .i64 x.sp.s)∧w0.cell? ⟨w.heap.size,4,none⟩=some (.int .i64 x.sp.b)∧w0.cell? ⟨w.heap.size,5,none⟩=some (.bool x.sp.lf)∧w0.cell? ⟨w.heap.size,6,none⟩=some (.bool x.sp.cr)):=by first | trivial | (rw [hw0];simp)
 have hc2:True:=by first | trivial | (rw [hw0];simp)
 have HC:Hid (∀ w',Below w0.heap.size w0 w'→C7s w' w.heap.size x∧True):=fun w' hw =>
  ⟨(by first | trivial | exact C7.ext hw hsz hc1 | exact C5.ext hw hsz hc1 | exact (hw.cell (p:=⟨w.heap.size,0,none⟩) hsz).trans hc1 | exact (hw.cell (p:=⟨w.heap.size,0,none⟩) hsz).trans hc1),(by first | trivial | exact C7.ext hw hsz hc2 | exact C5.ext hw hsz hc2 | exact (hw.cell (p:=⟨w.heap.size,1,none⟩) hsz).trans hc2 | exact (hw.cell (p:=⟨w.heap.size,1,none⟩) hsz).trans hc2)⟩
 have e1:=wt_app l.list (x :: r.list)
 rw [wt_cons] at e1
 have b1:=wt_len l.list
 have b2:=wt_len r.list
 have b3:=l.ht_le
 have b4:=r.ht_le
 have LL:=hl.ext hb0
 have RR:=hr.ext hb0
 have KL:Hid (∀ w',Below w0.heap.size w0 w'→Calls Tryz.prog 101 #[.pointer lu] w' fun e w''=>e=.returned (.int .i64 l.list.length)∧w''=w'):=fun w' h=>count_any l lu w' (LL.ext h)
 have KR:Hid (∀ w',Below w0.heap.size w0 w'→Calls Tryz.prog 101 #[.pointer ru] w' fun e w''=>e=.returned (.int .i64 r.list.length)∧w''=w'):=fun w' h=>count_any r ru w' (RR.ext h)
 have VL:Hid (∀ w',Below w0.heap.size w0 w'→Calls Tryz.prog 132 #[.pointer lu] w' fun e w''=>e=.returned (.int .i64 l.ht)∧w''=w'):=fun w' h=>levels_any l lu w' (LL.ext h)
 have VR:Hid (∀ w',Below w0.heap.size w0 w'→Calls Tryz.prog 132 #[.pointer ru] w' fun e w''=>e=.returned (.int .i64 r.ht)∧w''=w'):=fun w' h=>levels_any r ru w' (RR.ext h)
 have TL:Hid (∀ w',Below w0.heap.size w0 w'→Calls Tryz.prog 65 #[.pointer lu] w' fun e w''=>∃ s,Hid (s=rA.su l.list)∧e=.returned (.agg #[.int .i64 s.a,.int .i64 s.s,.int .i64 s.b,.bool s.lf,.bool s.cr])∧Below w0.heap.size w0 w''):=fun w' h=>(total_any l lu w' (LL.ext h)).mono fun _ _ ⟨s,h1,h2,h3⟩=>⟨s,h1,h2,zxt h h3⟩
 have TR:Hid (∀ w',Below w0.heap.size w0 w'→Calls Tryz.prog 65 #[.pointer ru] w' fun e w''=>∃ s,Hid (s=rA.su r.list)∧e=.returned (.agg #[.int .i64 s.a,.int .i64 s.s,.int .i64 s.b,.bool s.lf,.bool s.cr])∧Below w0.heap.size w0 w''):=fun w' h=>(total_any r ru w' (RR.ext h)).mono fun _ _ ⟨s,h1,h2,h3⟩=>⟨s,h1,h2,zxt h h3⟩
 have MM:Hid (∀ w',Below w0.heap.size w0 w'→Calls Tryz.prog 162 #[.agg #[.slice x.p x.n x.c,.int .i64 x.pl,.int .i64 x.sp.a,.int .i64 x.sp.s,.int .i64 x.sp.b,.bool x.sp.lf,.bool x.sp.cr]] w' fun e w''=>∃ s,Hid (s=rA.su [x])∧e=.returned (.agg #[.int .i64 s.a,.int .i64 s.s,.int .i64 s.b,.bool s.lf,.bool s.cr])∧Below w0.heap.size w0 w''):=fun w' h=>(Measure_any x w').mono fun _ _ ⟨s,h1,h2,h3⟩=>⟨s,h1.out.trans (su_one x).symm,h2,zxt h h3⟩
 have A1:Hid (∀ s t,Hid (s=rA.su l.list)→Hid (t=rA.su [x])→∀ w',Below w0.heap.size w0 w'→Calls Tryz.prog 77 #[.agg #[.int .i64 s.a,.int .i64 s.s,.int .i64 s.b,.bool s.lf,.bool s.cr],.agg #[.int .i64 t.a,.int .i64 t.s,.int .i64 t.b,.bool t.lf,.bool t.cr]] w' fun e w''=>∃ q,Hid (q=rA.su (l.list ++ [x]))∧e=.returned (.agg #[.int .i64 q.a,.int .i64 q.s,.int .i64 q.b,.bool q.lf,.bool q.cr])∧Below w0.heap.size w0 w''):=fun s t hs ht w' h=>(add_su _ _ s t w' hs ht (by rw [wt_app,wt_cons,wt_nil];omega)).mono fun _ _ ⟨s,h1,h2,h3⟩=>⟨s,h1,h2,zxt h h3⟩
 have A2:Hid (∀ s t,Hid (s=rA.su (l.list ++ [x]))→Hid (t=rA.su r.list)→∀ w',Below w0.heap.size w0 w'→Calls Tryz.prog 77 #[.agg #[.int .i64 s.a,.int .i64 s.s,.int .i64 s.b,.bool s.lf,.bool s.cr],.agg #[.int .i64 t.a,.int .i64 t.s,.int .i64 t.b,.bool t.lf,.bool t.cr]] w' fun e w''=>∃ q,Hid (q=rA.su (l.list ++ x :: r.list))∧e=.returned (.agg #[.int .i64 q.a,.int .i64 q.s,.int .i64 q.b,.bool q.lf,.bool q.cr])∧Below w0.heap.size w0 w''):=fun s t hs ht w' h=>(add_su _ _ s t w' hs ht (by simpa using hw)).mono fun _ _ ⟨s,h1,h2,h3⟩=>⟨s,by rw [List.append_assoc] at h1;exact h1,h2,zxt h h3⟩
 have HEND:Hid (∀ q w',Hid (q=rA.su (l.list ++ x :: r.list))→Below w0.heap.size w0 w'→Tin (w'.alloc (.cells (ndrow x lu ru (l.list.length + 1 + r.list.length) (max l.ht r.ht + 1) q) 163)) (.node l x r) (some ⟨w'.heap.size,0,none⟩)):=fun q w' hq h =>
  ⟨w'.heap.size,lu,ru,rfl,by rw [heap_alloc_new,hq.out,show l.list.length + 1 + r.list.length=(l.list ++ x :: r.list).length by simp;omega],(LL.ext h).ext (zxa (Below.refl _ _) _),(RR.ext h).ext (zxa (Below.refl _ _) _)⟩
 have hmt1:=m_meas
 have hmt2:=m_add
 have hnt1:=n_meas
 have hnt2:=n_add
 have hmax:max l.ht r.ht + 1≤4611686018427387905:=by omega
 have hsum:l.list.length + 1 + r.list.length≤4611686018427387904:=by omega
 clear hl hr hw LL RR e1 b1 b2 b3 b4 hb0
 generalize l.list.length=nl at *
 generalize r.list.length=nr at *
 generalize l.ht=hl at *
 generalize r.ht=hr at *
 generalize rA.su l.list=sl at *
 generalize rA.su r.list=sr at *
 generalize rA.su [x]=sx at *
 generalize rA.su (l.list ++ [x])=s1 at *
 generalize rA.su (l.list ++ x :: r.list)=s2 at *
 have hw1:IntKind.i64.wrap ((nl:Int) + 1)=((nl + 1:Nat):Int):=by rw [IntKind.wrap_i64];omega
 have hw2:IntKind.i64.wrap (((nl + 1:Nat):Int) + nr)=((nl + 1 + nr:Nat):Int):=by rw [IntKind.wrap_i64];omega
 have hw3:IntKind.i64.wrap (((max hl hr:Nat):Int) + 1)=((max hl hr + 1:Nat):Int):=by rw [IntKind.wrap_i64];omega
 obtain ⟨n1,hn1⟩:∃ n1:Nat,n1=nl + 1:=⟨_,rfl⟩
 obtain ⟨n2,hn2⟩:∃ n2:Nat,n2=n1 + nr:=⟨_,rfl⟩
 obtain ⟨h1,hh1⟩:∃ h1:Nat,h1=max hl hr:=⟨_,rfl⟩
 obtain ⟨h2,hh2⟩:∃ h2:Nat,h2=h1 + 1:=⟨_,rfl⟩
 have HH1:Hid (h1=max hl hr):=hh1
 rw [← hn1,← hn2,← hh1,← hh2] at HEND
 rw [← hn1] at hw1 hw2
 rw [← hn2] at hw2
 rw [← hh1,← hh2] at hw3
 clear hn1 hn2 hh1 hh2 hmax hsum
 go_enter Tryz.func110,Tryz.ntmps110
 go_wp2_with fail
 rw [← hw0]
 clear hw0
 have HB:Hid (Below w0.heap.size w0 w0):=Below.refl _ _
 refine wp_region_held_drew (S:=fun w'=>(w'.cell? ⟨w.heap.size,0,none⟩=some (.slice x.p x.n x.c)∧w'.cell? ⟨w.heap.size,1,none⟩=some (.int .i64 x.pl)∧w'.cell? ⟨w.heap.size,2,none⟩=some (.int .i64 x.sp.a)∧w'.cell? ⟨w.heap.size,3,none⟩=some (.int .i64 x.sp.s)∧w'.cell? ⟨w.heap.size,4,none⟩=some (.int .i64 x.sp.b)∧w'.cell? ⟨w.heap.size,5,none⟩=some (.bool x.sp.lf)∧w'.cell? ⟨w.heap.size,6,none⟩=some (.bool x.sp.cr))∧True) (by kernel_rfl) (by first | exact ⟨hc1,hc2⟩ | (dsimp only;go_keep)) (fun hHeld=>?_)
 refine tkH 0 rfl ?_
 refine tkH 1 rfl ?_
 refine tkH 2 rfl ?_
 refine tkH 3 rfl ?_
 refine tkH 6 rfl ?_
 refine tkH 9 rfl ?_
 refine tkH 11 rfl ?_
 refine tkH 15 rfl ?_
 refine tkH 18 rfl ?_
 refine tkH 19 rfl ?_
 refine tkH 23 rfl ?_
 refine rdH 4 rfl fun K hK=>?_
 go_simp
 refine (KL.out _ (by repeat (first | exact HB.out | apply Below.drew))).mono ?_;rintro e w1 ⟨rfl,rfl⟩;try go_wp2_with fail
 refine hK.out _ _ (by first | exact ⟨hc1,hc2⟩ | (dsimp only;go_keep)) (fun hHeld=>?_)
 clear hK K
 try simp only [Act.put,tS]
 refine tkH 5 rfl ?_
 refine rdH 7 rfl fun K hK=>?_
 go_simp
 refine (KR.out _ (by repeat (first | exact HB.out | apply Below.drew))).mono ?_;rintro e w1 ⟨rfl,rfl⟩;try go_wp2_with fail
 refine hK.out _ _ (by first | exact ⟨hc1,hc2⟩ | (dsimp only;go_keep)) (fun hHeld=>?_)
 clear hK K
 try simp only [Act.put,tS]
 refine tkH 8 rfl ?_
 refine rdH 10 rfl fun K hK=>?_
 go_simp
 refine (VL.out _ (by repeat (first | exact HB.out | apply Below.drew))).mono ?_;rintro e w1 ⟨rfl,rfl⟩;try go_wp2_with fail
 refine hK.out _ _ (by first | exact ⟨hc1,hc2⟩ | (dsimp only;go_keep)) (fun hHeld=>?_)
 clear hK K
 try simp only [Act.put,tS]
 refine rdH 12 rfl fun K hK=>?_
 go_simp
 refine (VR.out _ (by repeat (first | exact HB.out | apply Below.drew))).mono ?_;rintro e w1 ⟨rfl,rfl⟩;try go_wp2_with fail
 refine hK.out _ _ (by first | exact ⟨hc1,hc2⟩ | (dsimp only;go_keep)) (fun hHeld=>?_)
 clear hK K
 try simp only [Act.put,tS]
 refine wpAnyH_take (i:=13) (oi:=_) (v:=Value.int .i64 (h1:Int)) rfl (by kernel_rfl) (by kernel_rfl) (by kernel_rfl) (fun _ _ _ h=>h) (Or.inl ⟨by rfl,?_⟩) (by assumption) ?_
 ·intro wq hSw;(try dsimp only at hSw);go_simp;(try split) <;> (have:=HH1.out;congr 3;omega)
 try simp only [Act.put,tS]
 refine tkH 14 rfl ?_
 refine rdH 16 rfl fun K hK=>?_
 go_simp
 refine (TL.out _ (by repeat (first | exact HB.out | apply Below.drew))).mono ?_;rintro e w1 ⟨q1,HL,rfl,hb1⟩;clear hc1 hc2 HB hHeld;have HB:Hid (Below w0.heap.size w0 w1):=hb1;obtain ⟨hc1,hc2⟩:=HC.out w1 hb1;clear hb1;try go_wp2_with fail
 refine hK.out _ _ (by first | exact ⟨hc1,hc2⟩ | (dsimp only;go_keep)) (fun hHeld=>?_)
 clear hK K
 try simp only [Act.put,tS]
 refine tkH 17 rfl ?_
 refine rdH 20 rfl fun K hK=>?_
 go_simp
 refine (MM.out _ (by repeat (first | exact HB.out | apply Below.drew))).mono ?_;rintro e w1 ⟨q3,HM,rfl,hb1⟩;clear hc1 hc2 HB hHeld;have HB:Hid (Below w0.heap.size w0 w1):=hb1;obtain ⟨hc1,hc2⟩:=HC.out w1 hb1;clear hb1;try go_wp2_with fail
 refine hK.out _ _ (by first | exact ⟨hc1,hc2⟩ | (dsimp only;go_keep)) (fun hHeld=>?_)
 clear hK K
 try simp only [Act.put,tS]
 refine rdH 21 rfl fun K hK=>?_
 go_simp
 refine (A1.out _ _ HL HM _ (by repeat (first | exact HB.out | apply Below.drew))).mono ?_;rintro e w1 ⟨q4,H1,rfl,hb1⟩;clear hc1 hc2 HB hHeld;have HB:Hid (Below w0.heap.size w0 w1):=hb1;obtain ⟨hc1,hc2⟩:=HC.out w1 hb1;clear hb1;try go_wp2_with fail
 refine hK.out _ _ (by first | exact ⟨hc1,hc2⟩ | (dsimp only;go_keep)) (fun hHeld=>?_)
 clear hK K
 try simp only [Act.put,tS]
 refine tkH 22 rfl ?_
 refine rdH 24 rfl fun K hK=>?_
 go_simp
 refine (TR.out _ (by repeat (first | exact HB.out | apply Below.drew))).mono ?_;rintro e w1 ⟨q2,HR,rfl,hb1⟩;clear hc1 hc2 HB hHeld;have HB:Hid (Below w0.heap.size w0 w1):=hb1;obtain ⟨hc1,hc2⟩:=HC.out w1 hb1;clear hb1;try go_wp2_with fail
 refine hK.out _ _ (by first | exact ⟨hc1,hc2⟩ | (dsimp only;go_keep)) (fun hHeld=>?_)
 clear hK K
 try simp only [Act.put,tS]
 refine rdH 25 rfl fun K hK=>?_
 go_simp
 refine (A2.out _ _ H1 HR _ (by repeat (first | exact HB.out | apply Below.drew))).mono ?_;rintro e w1 ⟨q5,H2,rfl,hb1⟩;clear hc1 hc2 HB hHeld;have HB:Hid (Below w0.heap.size w0 w1):=hb1;obtain ⟨hc1,hc2⟩:=HC.out w1 hb1;clear hb1;try go_wp2_with fail
 refine hK.out _ _ (by first | exact ⟨hc1,hc2⟩ | (dsimp only;go_keep)) (fun hHeld=>?_)
 clear hK K
 try simp only [Act.put,tS]
 refine tkH 26 rfl ?_
 refine rdH 27 rfl fun K hK=>?_
 go_simp
 refine hK.out _ _ (HC.out _ (by repeat (first | exact HB.out | apply Below.drew | refine zxa ?_ _))) (fun hHeld=>?_)
 clear hK K
 try simp only [Act.put,tS]
 refine rdH 28 rfl fun K hK=>?_
 go_simp
 refine hK.out _ _ (HC.out _ (by repeat (first | exact HB.out | apply Below.drew | refine zxa ?_ _))) (fun hHeld=>?_)
 clear hK K
 try simp only [Act.put,tS]
 refine dnH ?_
 go_wp2_with fail
 go_ret
 exact ⟨_,rfl,HEND.out q5 w1 H2 HB.out,by repeat (first | exact HB0.out | exact HB.out | refine zxt HB0.out ?_ | refine zxa ?_ _)⟩
end Go.Proofs.YtdhciadajendnaaGreat.P
