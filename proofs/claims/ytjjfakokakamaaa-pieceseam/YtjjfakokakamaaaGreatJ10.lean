import Derived.Test.YtjjfakokakamaaaGreatJ09
namespace Go.Proofs.YtjjfakokakamaaaGreat.P
open Go.RowKit
section
variable {F:Fence} {n:Nat} {P:Program} {ops:Array Oper} {Q:Exit→Act→World→Prop} {S:World→Prop}
theorem upon_move {o:Oper} {a b:Act} {K K':Act→World→Prop} {r:Result Next} (hv:∀ u w',K (a.put o.dst u) w'→K' (b.put o.dst u) w') (hd:∀ d w',K ({ a with defers:=d :: a.defers }.put o.dst undef) w'→K' ({ b with defers:=d :: b.defers }.put o.dst undef) w') (hq:∀ c w',Q (.panic c) a w'→Q (.panic c) b w')
  (h:o.uponIn F n P a K Q r):o.uponIn F n P b K' Q r:=by
 unfold Oper.uponIn at h ⊢
 split at h
 ·exact hv _ _ h
 ·exact hv _ _ h
 ·exact hd _ _ h
 ·refine ⟨h.1,h.2.mono fun e w'' he=>?_⟩
  cases e with
  | returned v=>exact hv _ _ he
  | panicked c=>exact hq _ _ he
  | outgrown=>exact he
 ·exact ⟨h.1,h.2.mono fun v w'' he=>hv _ _ he⟩
 ·refine ⟨h.1,RoundIn.mono h.2 fun e w'' he=>?_⟩
  cases e with
  | returned v=>exact hv _ _ he
  | panicked c=>exact hq _ _ he
  | outgrown=>exact he
 ·exact hq _ _ h
 ·exact h.elim
def opR (F:Fence) (n:Nat) (P:Program) (ops:Array Oper) (Q:Exit→Act→World→Prop) (i:Nat) (K:Act→World→Prop) (a:Act) (w:World):Prop :=
 ∀ o,ops[i]?=some o→if Region.wanted o (yielded ops a.tmps)=true then o.uponIn F n P a K Q ((execOp a.eval o).run P w) else K (a.put o.dst undef) w
def anyR (F:Fence) (n:Nat) (P:Program) (ops:Array Oper) (Q:Exit→Act→World→Prop) (S:World→Prop):Nat→Array Bool→Act→World→Prop
 | 0,listed,a,w=>Region.ready .any ops listed=[]∧Q .normal a w
 | k + 1,listed,a,w=>(Region.ready .any ops listed=[]→Q .normal a w)∧∀ i ∈ Region.ready .any ops listed,opR F n P ops Q i (fun a' w'=>S w'∧anyR F n P ops Q S k (listed.setIfInBounds i true) a' w') a w
theorem anyR_in {l:Nat} (hq:∀ (i:Nat) (o:Oper),ops[i]?=some o→∀ c,o.op≠.defer c):∀ (k:Nat) (listed:Array Bool) (a:Act) (w:World),anyR (Fence.wide.inRound l) n P ops Q S k listed a w→wpAnyIn (Fence.wide.inRound l) n P .any ops Q k listed a w:=by
 intro k
 induction k with
 | zero=>intro listed a w h;exact h
 | succ k ih =>
   intro listed a w h
   refine ⟨h.1,fun i hi=>?_⟩
   obtain ⟨_,o,ho,_⟩:=mem_ready.1 hi
   have h2:=h.2 i hi o ho
   unfold wpOpIn
   simp only [ho]
   split at h2
   ·rename_i hw
    rw [if_pos hw]
    refine ⟨fun f _=>trivial,?_⟩
    rw [Oper.semAt_plain _ _ _ (hq i o ho)]
    exact upon_move (fun u w' h=>ih _ _ _ h.2) (fun d w' h=>ih _ _ _ h.2) (fun _ _ h=>h) h2
   ·rename_i hw
    rw [if_neg hw]
    exact ⟨fun f _=>trivial,ih _ _ _ h2.2⟩
theorem anyR_first {i:Nat} {oi:Oper} {v:Value} (hi:ops[i]?=some oi) (hsel:∀ (j:Nat) (o:Oper) cs b,ops[j]?=some o→o.op≠.select cs b) (hQ:∀ c a w,Q (.panic c) (a.put oi.dst v) w→Q (.panic c) a w) :
  ∀ (k:Nat) (listed:Array Bool) (a:Act) (w:World),(∀ j oj,ops[j]?=some oj→j≠i→listed.getD j true=false→(∀ e ∈ oj.after,Region.binds .any e=true→e.on≠i)→oi.apart ops oj=true) →
    i ∈ Region.ready .any ops listed→YieldsIf P ops S oi v a→S w→anyR F n P ops Q S k (listed.setIfInBounds i true) (a.put oi.dst v) w→anyR F n P ops Q S (k + 1) listed a w:=by
 have now:∀ (a:Act) (w:World) (K:Act→World→Prop),YieldsIf P ops S oi v a→S w→K (a.put oi.dst v) w→opR F n P ops Q i K a w:=fun a w K hy hS hK o ho=>by
  rw [hi] at ho
  cases ho
  rcases hy with ⟨h1,h2⟩ | ⟨h1,rfl⟩
  ·rw [if_pos h1,h2 w hS];exact hK
  ·rw [if_neg (by rw [h1];decide)];exact hK
 intro k
 induction k with
 | zero =>
   intro listed a w _ hr hy hS H
   refine ⟨fun h=>(by rw [h] at hr;cases hr),fun j hj=>?_⟩
   by_cases hji:j=i
   ·subst hji;exact now a w _ hy hS ⟨hS,H⟩
   ·have:=ready_mono hj hji
    rw [H.1] at this
    cases this
 | succ k ih =>
   intro listed a w hfree hr hy hS H
   refine ⟨fun h=>(by rw [h] at hr;cases hr),fun j hj=>?_⟩
   by_cases hji:j=i
   ·subst hji;exact now a w _ hy hS ⟨hS,H⟩
   ·intro oj hoj
    obtain ⟨hjun,oj',hoj',hall⟩:=mem_ready.1 hj
    rw [hoj] at hoj'
    cases hoj'
    have h1:=H.2 j (ready_mono hj hji) oj hoj
    have hnot:∀ e ∈ oj.after,Region.binds .any e=true→e.on≠i:=fun e he hb heq=>by
     have q1:=hall e he hb
     have q0:=(mem_ready.1 hr).1
     rw [heq] at q1
     rcases Nat.lt_or_ge i listed.size with h' | h'
     ·simp [h'] at q0 q1;rw [q0] at q1;cases q1
     ·simp [Array.getElem?_eq_none h'] at q1
    obtain ⟨p1,p2,p3⟩:=Oper.apart_spec (hfree j oj hoj hji hjun hnot)
    have keep:∀ (b:Act),YieldsIf P ops S oi v b→∀ u,YieldsIf P ops S oi v (b.put oj.dst u):=fun b hb u=>hb.of_same (execOp_put oi (fun cs d=>hsel i oi cs d hi) b oj.dst u p3) (wanted_put oi b oj.dst u p3)
    have next:∀ (b:Act) (w':World),YieldsIf P ops S oi v b→S w'→anyR F n P ops Q S k ((listed.setIfInBounds i true).setIfInBounds j true) (b.put oi.dst v) w'→anyR F n P ops Q S (k + 1) (listed.setIfInBounds j true) b w':=fun b w' hb hS' hh=>by
     refine ih _ b w' (fun m om hm hmi hun hno=>hfree m om hm hmi ?_ hno) (ready_mono hr (fun e=>hji e.symm)) hb hS' ?_
     ·by_cases hmj:j=m
      ·subst hmj
       rcases Nat.lt_or_ge j listed.size with h' | h'
       ·simp [h'] at hun
       ·simp [Array.getElem?_eq_none h'] at hjun
      ·rwa [getD_set_ne true hmj] at hun
     ·rw [Array.setIfInBounds_comm _ _ (fun e=>hji e)]
      exact hh
    rw [wanted_put oj a oi.dst v p1] at h1
    split
    ·rename_i hw
     rw [if_pos hw,execOp_put oj (fun cs d=>hsel j oj cs d hoj) a oi.dst v p1] at h1
     refine upon_move (fun u w' h=>⟨h.1,next _ w' (keep a hy u) h.1 ?_⟩) (fun d w' h=>⟨h.1,next _ w' (keep { a with defers:=d :: a.defers } (YieldsIf.of_same (a':={ a with defers:=d :: a.defers }) hy rfl rfl) undef) h.1 ?_⟩) (fun c w' h=>hQ c a w' h) h1
     ·rw [← Act.put_comm a v u p2];exact h.2
     ·rw [← Act.put_comm _ v undef p2,← Act.put_defers];exact h.2
    ·rename_i hw
     rw [if_neg hw] at h1
     refine ⟨h1.1,next _ w (keep a hy undef) h1.1 ?_⟩
     rw [← Act.put_comm a v undef p2]
     exact h1.2
theorem anyR_take {i:Nat} {oi:Oper} {v:Value} {k:Nat} {listed:Array Bool} {a:Act} {w:World} (hi:ops[i]?=some oi) (hs:Region.noSelect ops=true) (hf:Region.free .any ops listed i=true) (hr:(Region.ready .any ops listed).contains i=true)
  (hQ:∀ c a w,Q (.panic c) (a.put oi.dst v) w→Q (.panic c) a w) (hy:YieldsIf P ops S oi v a) (hS:S w) (h:anyR F n P ops Q S k (listed.setIfInBounds i true) (a.put oi.dst v) w):anyR F n P ops Q S (k + 1) listed a w :=
 anyR_first hi (Region.noSelect_spec hs) hQ k listed a w (Region.free_spec hi hf) (by simpa using hr) hy hS h
theorem anyR_one {i:Nat} {o:Oper} {k:Nat} {listed:Array Bool} {a:Act} {w:World} (hr:Region.ready .any ops listed=[i]) (ho:ops[i]?=some o) (hw:Region.wanted o (yielded ops a.tmps)=true)
  (h:∀ K:Act→World→Prop,Hid (∀ a w,S w→anyR F n P ops Q S k (listed.setIfInBounds i true) a w→K a w)→o.uponIn F n P a K Q ((execOp a.eval o).run P w)):anyR F n P ops Q S (k + 1) listed a w:=by
 refine ⟨fun h0=>(by rw [hr] at h0;cases h0),fun j hj=>?_⟩
 rw [hr,List.mem_singleton] at hj
 subst hj
 intro o' ho'
 rw [ho] at ho'
 cases ho'
 rw [if_pos hw]
 exact h _ fun a w hS hh=>⟨hS,hh⟩
theorem anyR_done {listed:Array Bool} {a:Act} {w:World} (hr:Region.ready .any ops listed=[]) (h:Q .normal a w):∀ k,anyR F n P ops Q S k listed a w
 | 0=>⟨hr,h⟩
 | _ + 1=>⟨fun _=>h,by rw [hr];simp⟩
theorem wpIn_anyR {l id:Nat} {a:Act} {w:World} (hq:∀ (i:Nat) (o:Oper),ops[i]?=some o→∀ c,o.op≠.defer c) (hm:P.follows .mixedOrders=true) (hS:S w.drew)
  (h:S w.drew→anyR (Fence.wide.inRound l) n P ops Q S ops.size (Array.replicate ops.size false) a w.drew):(Code.region id ops true).wpIn (Fence.wide.inRound l) n P Q a w :=
 wpIn_region_any hm (anyR_in hq _ _ _ _ (h hS))
end
end Go.Proofs.YtjjfakokakamaaaGreat.P

namespace Go.Proofs.YtjjfakokakamaaaGreat.P
open Go.RowKit
variable {F:Fence} {n:Nat} {P:Program}
set_option maxHeartbeats 1000000 in
theorem range_y {σ α:Type} {g:Operand} {ps:Array Tmp} {assign body:Code} {Q:Exit→Act→World→Prop} {a:Act} {w:World}
  (hro:F.round=none) (h1:1≤n) {gf:Nat} {lb:Array Value} (hg:a.eval g=.func (.func gf) #[] lb) (hFg:F.fn gf) (eg:∀ args w,(callFunc gf args).run P w=.ok (.enter gf args) w)
  {encs:α→Array Value} {rel:Nat→Prop} {S Sp:List α→Prop} {w0:World} (hseq:SeqX F (n - 1) P gf lb encs rel S Sp w0) (hrw:Kps (fun k=>¬ rel k) w0 w) (hps:∀ x,(encs x).size=ps.size)
  (own:σ→Nat→Prop) (I:σ→List α→World→Prop) (Ix:Code→σ→List α→World→Prop) (s0:σ) (hrel:∀ k,rel k→k < w0.heap.size∧¬ own s0 k)
  (lean:Nat→Prop) (hln:∀ k,lean k→k < w.heap.size)
  (hI:∀ s pre W W',I s pre W→W.heap.size≤W'.heap.size→(∀ k,own s k∨lean k→W'.heap[k]?=W.heap[k]?)→I s pre W')
  (hIx:∀ c s pre W W',Ix c s pre W→W.heap.size≤W'.heap.size→(∀ k,own s k∨lean k→W'.heap[k]?=W.heap[k]?)→Ix c s pre W')
  (hlv:∀ s pre W,I s pre W→∀ k,own s k→k < W.heap.size) (h0:I s0 [] w) (Ax:σ→α→Act→World→Prop) (hAx:∀ s x a' W W',Ax s x a' W→W.heap.size≤W'.heap.size→(∀ k,w.heap.size + 2≤k→k < W.heap.size→W'.heap[k]?=W.heap[k]?)→Ax s x a' W')
  (hassign:∀ (l:Nat) (s:σ) (pre:List α) (x:α) (W:World) (K:Act→World→Prop),I s pre W→w.heap.size + 2≤W.heap.size→(∀ a' W',Below W.heap.size W W'→Ax s x a' W'→K a' W') →
   assign.wpIn (F.inRound l) (n - 1 - 1) P (Exit.then K (fun _ _ _=>False)) { tmps:=(ps.zip (encs x)).foldl (fun t (p,v)=>t.setIfInBounds p v) a.tmps,defers:=[] } W)
  (hbody:∀ (l:Nat) (s:σ) (pre:List α) (x:α) (a':Act) (W:World),I s pre W→Ax s x a' W→Sp (pre ++ [x])→w.heap.size + 2≤W.heap.size→body.wpIn (F.inRound l) (n - 1 - 1) P (postX own I Ix s (pre ++ [x]) W) a' W)
  (hdone:∀ (s:σ) (xs:List α) (W:World),Kps (own s0) w W→Newer own s0 s w→S xs→I s xs W→W.heap[w.heap.size]?=some (.deferred (some []))→¬ own s w.heap.size→Q .normal { a with defers:={ target:=.collected w.heap.size,args:=#[] } :: a.defers } W)
  (hstop:∀ (c:Code) (s:σ) (pre:List α) (W:World),Kps (own s0) w W→Newer own s0 s w→Sp pre→Ix c s pre W→W.heap[w.heap.size]?=some (.deferred (some []))→¬ own s w.heap.size→c.wpIn F n P Q { a with defers:={ target:=.collected w.heap.size,args:=#[] } :: a.defers } W) :
  (Code.rangeFunc g ps assign body).wpIn F n P Q a w:=by
 refine wpIn_rangeFunc fun fn hfn=>?_
 rw [hro]
 obtain ⟨rec,hrec⟩:∃ rec:LoopState→Option Code→Loop,rec=fun st pe=>{ state:=st,pending:=pe,fn,tmps:=a.tmps,params:=ps,assign,body,defers:=w.heap.size }:=⟨_,rfl⟩
 obtain ⟨W1,hW1⟩:∃ W1,(w.alloc (.deferred (some []))).alloc (.loop (rec .ready none))=W1:=⟨_,rfl⟩
 have bW:Below w.heap.size w W1:=by rw [← hW1];exact ext_alloc (ext_alloc (Below.refl _ _) _) _
 have sW:W1.heap.size=w.heap.size + 2:=by rw [← hW1];simp
 have hL1:W1.heap[w.heap.size + 1]?=some (.loop (rec .ready none)):=by
  rw [← hW1]
  have:=World.alloc_heap_new (w.alloc (.deferred (some []))) (.loop (rec .ready none))
  rwa [World.size_alloc] at this
 have hD1:W1.heap[w.heap.size]?=some (.deferred (some [])):=by
  rw [← hW1]
  exact (Below.heap_alloc _ _ _ (by simp)).trans (World.alloc_heap_new w _)
 -- what the caller owns besides: the record and the block for the rounds' deferred calls
 let G:Guest σ α:={
  own:=fun s k=>own s k∨k=w.heap.size∨k=w.heap.size + 1
  J:=fun s pre W=>I s pre W∧(∀ k,own s k→k≠w.heap.size∧k≠w.heap.size + 1)∧W.heap[w.heap.size + 1]?=some (.loop (rec .ready none))∧W.heap[w.heap.size]?=some (.deferred (some []))∧w.heap.size + 2≤W.heap.size
  Jx:=fun s pre W=>∃ c,Ix c s pre W∧(∀ k,own s k→k≠w.heap.size∧k≠w.heap.size + 1)∧W.heap[w.heap.size + 1]?=some (.loop (rec .done (some c)))∧W.heap[w.heap.size]?=some (.deferred (some []))∧w.heap.size + 2≤W.heap.size
  lean:=lean
  stay:=fun s pre W W' h hs hk=>⟨hI s pre W W' h.1 hs (fun k ho=>ho.elim (fun o=>hk k (.inl (.inl o))) (fun q=>hk k (.inr q))),h.2.1,(hk _ (.inl (.inr (.inr rfl)))).trans h.2.2.1,(hk _ (.inl (.inr (.inl rfl)))).trans h.2.2.2.1,Nat.le_trans h.2.2.2.2 hs⟩
  stayx:=fun s pre W W' h hs hk=>by
   obtain ⟨c,h1,h2,h3,h4,h5⟩:=h
   exact ⟨c,hIx c s pre W W' h1 hs (fun k ho=>ho.elim (fun o=>hk k (.inl (.inl o))) (fun q=>hk k (.inr q))),h2,(hk _ (.inl (.inr (.inr rfl)))).trans h3,(hk _ (.inl (.inr (.inl rfl)))).trans h4,Nat.le_trans h5 hs⟩
  lives:=fun s pre W h k ho=>by
   rcases ho with ho | rfl | rfl
   ·exact hlv s pre W h.1 k ho
   ·have:=h.2.2.2.2;omega
   ·have:=h.2.2.2.2;omega }
 have ap0:∀ k,own s0 k→k < w.heap.size:=fun k ho=>hlv s0 [] w h0 k ho
 refine ⟨w.heap.size + 1,[{ target:=.collected w.heap.size,args:=#[] }],W1,{ target:=.fn (.func gf) lb,args:=#[.func (.yield (w.heap.size + 1)) #[] #[]] },W1,gf,
  #[.func (.yield (w.heap.size + 1)) #[] #[]] ++ lb,W1,?_,?_,?_,?_,fun _=>h1,?_⟩
 ·rw [← hW1,hrec];exact run_enterLoop_outer _ _ _ _ _
 ·simp only [resolve,hg]
  simp [go_sem]
 ·intro f' hf'
  simp [Target.leads] at hf'
  subst hf'
  exact hFg
 ·simp [invoke,go_sem,eg]
 ·refine (hseq (w.heap.size + 1) σ G s0 W1 (hrw.trans (Kps.of_below (fun k=>¬ rel k) bW) (fun _ _ e=>e)) (fun k hk=>?_) (fun k hk=>Nat.lt_of_lt_of_le (hln k hk) bW.size) ?_ ?_).mono ?_
  ·obtain ⟨k1,k2⟩:=hrel k hk
   have hsz:=hrw.size
   refine ⟨k1,?_⟩
   rintro (h | rfl | rfl)
   ·exact k2 h
   ·omega
   ·omega
  ·-- a round
   rintro s pre x W ⟨hi,hap,hl,hk,hz⟩ hlen
   have hy:=run_yield (P:=P) (args:=encs x) hl (by rw [hrec];exact hps x)
   rw [hrec] at hy
   refine ⟨fn,_,assign,body,hy,roundIn_of_wpIn hfn (hassign _ s pre x W _ hi hz fun a' Wa bA hax=>?_)⟩
   have za:=bA.size
   have hla:Wa.heap[w.heap.size + 1]?=some (.loop (rec .ready none)):=(bA.block _ (by omega)).trans hl
   have hka:Wa.heap[w.heap.size]?=some (.deferred (some [])):=(bA.block _ (by omega)).trans hk
   refine ⟨_,run_beginRound hla (by rw [hrec]),?_⟩
   obtain ⟨W2,hW2⟩:∃ W2,Wa.putObj (w.heap.size + 1) (.loop { rec .ready none with state:=.busy })=W2:=⟨_,rfl⟩
   rw [hW2]
   have k2:Kps (G.own s) W W2:=by rw [← hW2];exact Kps.trans (Kps.of_below _ bA) (Kps.put (o:=G.own s) _ (.inr (.inr rfl))) (fun _ _ e=>e)
   have z2:W2.heap.size=Wa.heap.size:=by rw [← hW2];simp
   have l2:W2.heap[w.heap.size + 1]?=some (.loop { rec .ready none with state:=.busy }):=by rw [← hW2];exact World.putObj_heap_same (by omega)
   have d2:W2.heap[w.heap.size]?=some (.deferred (some [])):=by rw [← hW2];exact (World.putObj_heap_other (by omega)).trans hka
   have i2:I s pre W2:=hI s pre W W2 hi (by omega) (fun k ho=>by
    rw [← hW2]
    rcases ho with ho | ho
    ·exact (World.putObj_heap_other (hap k ho).2).trans (bA.block k (hlv s pre W hi k ho))
    ·have:=hln k ho
     exact (World.putObj_heap_other (by omega)).trans (bA.block k (by omega)))
   have a2:Ax s x a' W2:=hAx s x a' Wa W2 hax (by omega) (fun k hk _=>by rw [← hW2];exact World.putObj_heap_other (by omega))
   refine wpIn_mono (hbody _ s pre x a' W2 i2 a2 hlen (by omega)) ?_
   -- the round's end,whichever it is
   have fin:∀ (jump:Option Code) (s':σ) (W3:World),Kps (own s) W2 W3→Newer own s s' W2 →
     ∃ W4,(Instr.endRound (w.heap.size + 1) jump).run P W3=.ok (.bool jump.isNone) W4∧W4.heap[w.heap.size + 1]?=some (.loop (rec (if jump.isNone then .ready else .done) jump))∧W4.heap[w.heap.size]?=some (.deferred (some [])) ∧
       W3.heap.size≤W4.heap.size∧w.heap.size + 2≤W4.heap.size∧(∀ k,own s' k→k≠w.heap.size∧k≠w.heap.size + 1)∧(∀ k,own s' k∨lean k→W4.heap[k]?=W3.heap[k]?)∧Kps (G.own s) W W4∧Newer G.own s s' W:=fun jump s' W3 k3 n3=>by
    have l3:W3.heap[w.heap.size + 1]?=some (.loop { rec .ready none with state:=.busy }):=(k3.same _ (by omega) (fun e=>(hap _ e).2 rfl)).trans l2
    have d3:W3.heap[w.heap.size]?=some (.deferred (some [])):=(k3.same _ (by omega) (fun e=>(hap _ e).1 rfl)).trans d2
    have z3:=k3.size
    have hap':∀ k,own s' k→k≠w.heap.size∧k≠w.heap.size + 1:=fun k ho=>by
     rcases n3 k ho with h | h
     ·exact hap k h
     ·omega
    have hr:=run_endRound (P:=P) jump l3
    refine ⟨_,hr,?_,?_,by simp,by simp;omega,hap',fun k ho=>World.putObj_heap_other (ho.elim (fun o=>(hap' k o).2) (fun q=>by have:=hln k q;omega)),?_,?_⟩
    ·rw [hrec];exact World.putObj_heap_same (by omega)
    ·exact (World.putObj_heap_other (by omega)).trans d3
    ·refine Kps.trans (Kps.trans k2 k3 (fun i _ e=>.inl e)) (Kps.put (o:=G.own s) _ (.inr (.inr rfl))) (fun i _ e=>e)
    ·intro k ho
     rcases ho with ho | ho | ho
     ·rcases n3 k ho with h | h
      ·exact .inl (.inl h)
      ·exact .inr (by omega)
     ·exact .inl (.inr (.inl ho))
     ·exact .inl (.inr (.inr ho))
   rintro e a3 W3 hp
   cases e with
   | normal =>
     obtain ⟨s',hi3,k3,n3⟩:=hp
     obtain ⟨W4,hr,q1,q2,q3,q4,q5,q6,q7,q8⟩:=fin none s' W3 k3 n3
     exact ⟨_,_,hr,.inl ⟨rfl,s',⟨hI s' _ W3 W4 hi3 q3 q6,q5,q1,q2,q4⟩,q7,q8⟩⟩
   | ret =>
     obtain ⟨s',hi3,k3,n3⟩:=hp
     obtain ⟨W4,hr,q1,q2,q3,q4,q5,q6,q7,q8⟩:=fin (some .ret) s' W3 k3 n3
     exact ⟨_,_,hr,.inr ⟨rfl,s',⟨_,hIx _ s' _ W3 W4 hi3 q3 q6,q5,q1,q2,q4⟩,q7,q8⟩⟩
   | exit id =>
     obtain ⟨s',hi3,k3,n3⟩:=hp
     obtain ⟨W4,hr,q1,q2,q3,q4,q5,q6,q7,q8⟩:=fin (some (.exit id)) s' W3 k3 n3
     exact ⟨_,_,hr,.inr ⟨rfl,s',⟨_,hIx _ s' _ W3 W4 hi3 q3 q6,q5,q1,q2,q4⟩,q7,q8⟩⟩
   | goto t =>
     obtain ⟨s',hi3,k3,n3⟩:=hp
     obtain ⟨W4,hr,q1,q2,q3,q4,q5,q6,q7,q8⟩:=fin (some (.goto t)) s' W3 k3 n3
     exact ⟨_,_,hr,.inr ⟨rfl,s',⟨_,hIx _ s' _ W3 W4 hi3 q3 q6,q5,q1,q2,q4⟩,q7,q8⟩⟩
   | panic ch=>exact hp.elim
   | outgrown=>exact hp.elim
  ·exact ⟨hI s0 [] w W1 h0 (by omega) (fun k ho=>bW.block k (ho.elim (ap0 k) (hln k))),fun k ho=>by have:=ap0 k ho;omega,hL1,hD1,by omega⟩
  ·-- behind the iterator
   rintro e W2 ⟨⟨v,rfl⟩,s',kW,nW,hend⟩
   have kw:∀ W3,Kps (G.own s0) W1 W3→Kps (own s0) w W3:=fun W3 k=>⟨k.os.trans bW.os,k.tape.trans bW.tape,k.output.trans bW.output,by have:=k.size;omega,fun i hi ho=>(k.same i (by omega) (by rintro (h | h | h);exact ho h;omega;omega)).trans (bW.block i hi)⟩
   have nw:(∀ k,own s' k→k≠w.heap.size∧k≠w.heap.size + 1)→Newer own s0 s' w:=fun hap k ho=>by
    rcases nW k (.inl ho) with (h | h | h) | h
    ·exact .inl h
    ·exact absurd h (hap k ho).1
    ·exact absurd h (hap k ho).2
    ·exact .inr (by omega)
   rcases hend with ⟨xs,hS,hi,hap,hl,hd,hz⟩ | ⟨pre,hSp,c,hi,hap,hl,hd,hz⟩
   ·have hr:=run_endLoop (P:=P) hl (by rw [hrec];simp)
    have hr':(Instr.endLoop (w.heap.size + 1)).run P W2=.ok none (W2.putObj (w.heap.size + 1) (.loop { rec .ready none with state:=.exhausted })):=by rw [hr,hrec]
    refine ⟨none,_,hr',hdone s' xs _ (kw _ (Kps.trans kW (Kps.put (o:=G.own s0) _ (.inr (.inr rfl))) (fun i _ e=>e))) (nw hap) hS (hI s' xs W2 _ hi (by simp) (fun k ho=>World.putObj_heap_other (ho.elim (fun o=>(hap k o).2) (fun q=>by have:=hln k q;omega)))) ((World.putObj_heap_other (by omega)).trans hd) (fun h=>(hap _ h).1 rfl)⟩
   ·have hr:=run_endLoop (P:=P) hl (by rw [hrec];simp)
    have hr':(Instr.endLoop (w.heap.size + 1)).run P W2=.ok (some c) (W2.putObj (w.heap.size + 1) (.loop { rec .done (some c) with state:=.exhausted })):=by rw [hr,hrec]
    refine ⟨some c,_,hr',hstop c s' pre _ (kw _ (Kps.trans kW (Kps.put (o:=G.own s0) _ (.inr (.inr rfl))) (fun i _ e=>e))) (nw hap) hSp (hIx c s' pre W2 _ hi (by simp) (fun k ho=>World.putObj_heap_other (ho.elim (fun o=>(hap k o).2) (fun q=>by have:=hln k q;omega)))) ((World.putObj_heap_other (by omega)).trans hd) (fun h=>(hap _ h).1 rfl)⟩
end Go.Proofs.YtjjfakokakamaaaGreat.P

namespace Go.Proofs.YtjjfakokakamaaaGreat.P
open Go.RowKit Go.Shelf
attribute [local go_sem] Oper.semAt_some
set_option maxRecDepth 100000 in
set_option maxHeartbeats 2000000 in
theorem between_any (t:Nat) (f tz:Int) (w:World):Calls Tryz.prog 64 #[.pointer (some ⟨t,0,none⟩),.int .i64 f,.int .i64 tz] w fun e w'=>e=.returned (.func (.func 99) #[] #[.pointer (some ⟨w.heap.size,0,none⟩),.pointer (some ⟨w.heap.size + 1,0,none⟩),.pointer (some ⟨w.heap.size + 2,0,none⟩)]) ∧
  w'=((w.alloc (.cells #[.pointer (some ⟨t,0,none⟩)] 24)).alloc (.cells #[.int .i64 f] 3)).alloc (.cells #[.int .i64 tz] 3):=by
 go_enter Tryz.func64,Tryz.ntmps64
 go_wp2_with fail
 go_ret
 exact ⟨rfl,rfl⟩
structure BtI {σ:Type} (G:Guest σ (Int × Int)) (enc:Int) (ps:List PG) (f tz i base b6 b7:Nat) (hold:Nat→Prop) (V:World) (s:σ) (pre:List It) (W:World):Prop where
 pr:pre=xsOf ((ps.drop i).take pre.length)
 len:i + pre.length≤ps.length
 le:(sh enc (ps.take (i + pre.length))).length≤tz
 j:G.J s (told enc ps f (i + pre.length) 0) W
 ap:∀ k,G.own s k→k≠b6∧k≠b7∧¬ hold k
 ins:W.heap[b6]?=some (.cells #[.int .i64 ((if pre.length=0 then f - base else 0:Nat):Int)] 3 (0,0))
 lft:W.heap[b7]?=some (.cells #[.int .i64 ((tz - max f (sh enc (ps.take (i + pre.length))).length:Nat):Int)] 3 (0,0))
 hd:∀ k,hold k→W.heap[k]?=V.heap[k]?
def btO {σ:Type} (G:Guest σ (Int × Int)) (b6 b7:Nat) (s:σ) (k:Nat):Prop:=G.own s k∨k=b6∨k=b7
def BtX {σ:Type} (G:Guest σ (Int × Int)) (enc:Int) (ps:List PG) (f tz:Nat) (c:Code) (s:σ) (W:World):Prop:=c=.ret∧(G.J s (btw enc ps f tz) W∨∃ q,q <+: btw enc ps f tz∧G.Jx s q W)
section
variable {σ:Type} {G:Guest σ (Int × Int)} {enc:Int} {ps:List PG} {f tz i base b6 b7:Nat} {hold:Nat→Prop} {V:World}
theorem BtI.same {s:σ} {pre:List It} {W W':World} (h:BtI G enc ps f tz i base b6 b7 hold V s pre W) (hz:W.heap.size≤W'.heap.size) (hk:∀ k,btO G b6 b7 s k∨(G.lean k∨hold k)→W'.heap[k]?=W.heap[k]?):BtI G enc ps f tz i base b6 b7 hold V s pre W' :=
 ⟨h.pr,h.len,h.le,G.stay s _ W W' h.j hz (fun k ho=>hk k (ho.elim (fun o=>.inl (.inl o)) (fun o=>.inr (.inl o)))),h.ap,by rw [hk b6 (.inl (.inr (.inl rfl)))];exact h.ins,by rw [hk b7 (.inl (.inr (.inr rfl)))];exact h.lft,fun k hh=>(hk k (.inr (.inr hh))).trans (h.hd k hh)⟩
theorem BtX.same {c:Code} {s:σ} {W W':World} (h:BtX G enc ps f tz c s W) (hz:W.heap.size≤W'.heap.size) (hk:∀ k,btO G b6 b7 s k∨(G.lean k∨hold k)→W'.heap[k]?=W.heap[k]?):BtX G enc ps f tz c s W':=by
 refine ⟨h.1,h.2.imp (fun j=>G.stay s _ W W' j hz (fun k ho=>hk k (ho.elim (fun o=>.inl (.inl o)) (fun o=>.inr (.inl o))))) ?_⟩
 rintro ⟨q,hq,hj⟩
 exact ⟨q,hq,G.stayx s _ W W' hj hz (fun k ho=>hk k (ho.elim (fun o=>.inl (.inl o)) (fun o=>.inr (.inl o))))⟩
theorem BtI.lives {s:σ} {pre:List It} {W:World} (h:BtI G enc ps f tz i base b6 b7 hold V s pre W) (k:Nat) (hk:btO G b6 b7 s k):k < W.heap.size:=by
 rcases hk with hk | rfl | rfl
 ·exact G.lives s _ W h.j k hk
 ·exact (Array.getElem?_eq_some_iff.1 h.ins).1
 ·exact (Array.getElem?_eq_some_iff.1 h.lft).1
end
def btMu (N:Nat):Value→Nat
 | .int _ z=>N - z.toNat
 | _=>0
structure BtL {σ:Type} (G:Guest σ (Int × Int)) (b6 b7 g5:Nat) (hold:Nat→Prop) (V:World) (x:It) (s0:σ) (W0:World) (T:List (Int × Int)) (iv lf:Nat) (s:σ) (W:World):Prop where
 j:G.J s T W
 ap:∀ k,G.own s k→k≠b6∧k≠b7∧¬ hold k
 og:∀ k,G.own s k→k≠g5
 inb:W.heap[b6]?=some (.cells #[.int .i64 (iv:Nat)] 3 (0,0))
 lft:W.heap[b7]?=some (.cells #[.int .i64 (lf:Nat)] 3 (0,0))
 hd:∀ k,hold k→W.heap[k]?=V.heap[k]?
 bx:BlkI W g5 x
 kp:Kps (btO G b6 b7 s0) W0 W
 nw:Newer (btO G b6 b7) s0 s W0
structure BtS {σ:Type} (G:Guest σ (Int × Int)) (b6 b7 g5:Nat) (hold:Nat→Prop):Prop where
 ne:b6≠b7
 n6:b6≠g5
 n7:b7≠g5
 h6:¬ hold b6
 h7:¬ hold b7
 lb:∀ k,G.lean k→k≠b6∧k≠b7
section
variable {σ:Type} {G:Guest σ (Int × Int)} {b6 b7 g5:Nat} {hold:Nat→Prop} {V:World} {x:It} {s0:σ} {W0:World} {T:List (Int × Int)} {iv lf:Nat} {s:σ} {W:World}
theorem BtL.call {W':World} (h:BtL G b6 b7 g5 hold V x s0 W0 T iv lf s W) (hb:Below W.heap.size W W') (hln:∀ k,G.lean k→k < W0.heap.size) (hhl:∀ k,hold k→k < W0.heap.size):BtL G b6 b7 g5 hold V x s0 W0 T iv lf s W':=by
 have z:=h.kp.size
 refine ⟨G.stay s T W W' h.j hb.size (fun k ho=>hb.block k (ho.elim (G.lives s T W h.j k) (fun o=>by have:=hln k o;omega))),h.ap,h.og,?_,?_,fun k hk=>(hb.block k (by have:=hhl k hk;omega)).trans (h.hd k hk),h.bx.same9 (hb.block g5 h.bx.lt),h.kp.trans (Kps.of_below (btO G b6 b7 s0) hb) (fun _ _ e=>e),h.nw⟩
 ·exact (hb.block b6 (Array.getElem?_eq_some_iff.1 h.inb).1).trans h.inb
 ·exact (hb.block b7 (Array.getElem?_eq_some_iff.1 h.lft).1).trans h.lft
theorem BtL.told {T':List (Int × Int)} {s':σ} {W':World} (h:BtL G b6 b7 g5 hold V x s0 W0 T iv lf s W) (hJ:G.J s' T' W') (hk:Kps (G.own s) W W') (hn:Newer G.own s s' W) (hhl:∀ k,hold k→k < W0.heap.size):BtL G b6 b7 g5 hold V x s0 W0 T' iv lf s' W':=by
 have z:=h.kp.size
 have l6:=(Array.getElem?_eq_some_iff.1 h.inb).1
 have l7:=(Array.getElem?_eq_some_iff.1 h.lft).1
 have l5:=h.bx.lt
 have hn':Newer (btO G b6 b7) s0 s' W0:=fun k ho=>by
  rcases ho with ho | ho | ho
  ·rcases hn k ho with h1 | h1
   ·exact h.nw k (.inl h1)
   ·exact .inr (by omega)
  ·exact .inl (.inr (.inl ho))
  ·exact .inl (.inr (.inr ho))
 refine ⟨hJ,fun k ho=>?_,fun k ho=>?_,?_,?_,fun k hh=>?_,?_,?_,hn'⟩
 ·rcases hn k ho with h1 | h1
  ·exact h.ap k h1
  ·exact ⟨by omega,by omega,fun hh=>by have:=hhl k hh;omega⟩
 ·rcases hn k ho with h1 | h1
  ·exact h.og k h1
  ·omega
 ·exact (hk.same b6 l6 (fun e=>(h.ap b6 e).1 rfl)).trans h.inb
 ·exact (hk.same b7 l7 (fun e=>(h.ap b7 e).2.1 rfl)).trans h.lft
 ·exact (hk.same k (by have:=hhl k hh;omega) (fun e=>(h.ap k e).2.2 hh)).trans (h.hd k hh)
 ·exact h.bx.same9 (hk.same g5 l5 (fun e=>h.og g5 e rfl))
 ·refine h.kp.trans hk (fun k hlt ho=>?_)
  rcases h.nw k (.inl ho) with h1 | h1
  ·exact h1
  ·omega
theorem BtL.kpn {s':σ} {W':World} (h:BtL G b6 b7 g5 hold V x s0 W0 T iv lf s W) (hk:Kps (G.own s) W W') (hn:Newer G.own s s' W) (hhl:∀ k,hold k→k < W0.heap.size):Kps (btO G b6 b7 s0) W0 W'∧Newer (btO G b6 b7) s0 s' W0∧(∀ k,hold k→W'.heap[k]?=V.heap[k]?)∧BlkI W' g5 x:=by
 have z:=h.kp.size
 refine ⟨?_,?_,?_,?_⟩
 ·refine h.kp.trans hk (fun k hlt ho=>?_)
  rcases h.nw k (.inl ho) with h1 | h1
  ·exact h1
  ·omega
 ·intro k ho
  rcases ho with ho | ho | ho
  ·rcases hn k ho with h1 | h1
   ·exact h.nw k (.inl h1)
   ·exact .inr (by omega)
  ·exact .inl (.inr (.inl ho))
  ·exact .inl (.inr (.inr ho))
 ·exact fun k hh=>(hk.same k (by have:=hhl k hh;omega) (fun e=>(h.ap k e).2.2 hh)).trans (h.hd k hh)
 ·exact h.bx.same9 (hk.same g5 h.bx.lt (fun e=>h.og g5 e rfl))
theorem BtL.put7 (h:BtL G b6 b7 g5 hold V x s0 W0 T iv lf s W) (hs:BtS G b6 b7 g5 hold) (lf':Nat):BtL G b6 b7 g5 hold V x s0 W0 T iv lf' s (W.setCell ⟨b7,0,none⟩ (.int .i64 (lf':Nat))):=by
 obtain ⟨p1,p2⟩:=set1 h.lft 0 (.int .i64 (lf':Nat))
 have e:∀ k,k < W.heap.size→k≠b7→(W.setCell ⟨b7,0,none⟩ (.int .i64 (lf':Nat))).heap[k]?=W.heap[k]?:=fun k h1 h2=>p2.block k h1 (by intro e;simp only [Option.some.injEq] at e;exact h2 e)
 have e':∀ k,k≠b7→(W.setCell ⟨b7,0,none⟩ (.int .i64 (lf':Nat))).heap[k]?=W.heap[k]?:=fun k h2=>by
  rcases Nat.lt_or_ge k W.heap.size with h1 | h1
  ·exact e k h1 h2
  ·rw [Array.getElem?_eq_none h1,Array.getElem?_eq_none (by simpa using h1)]
 refine ⟨G.stay s T W _ h.j p2.size (fun k ho=>e' k (ho.elim (fun o=>(h.ap k o).2.1) (fun o=>(hs.lb k o).2))),h.ap,h.og,(e' b6 hs.ne).trans h.inb,p1,fun k hk=>(e' k (fun e=>hs.h7 (e ▸ hk))).trans (h.hd k hk),h.bx.same9 (e' g5 (Ne.symm hs.n7)),h.kp.trans (Kps.grown p2 fun j e _=>?_) (fun _ _ e=>e),h.nw⟩
 simp only [Option.some.injEq] at e
 subst e
 exact .inr (.inr rfl)
theorem BtL.put6 (h:BtL G b6 b7 g5 hold V x s0 W0 T iv lf s W) (hs:BtS G b6 b7 g5 hold) (iv':Nat):BtL G b6 b7 g5 hold V x s0 W0 T iv' lf s (W.setCell ⟨b6,0,none⟩ (.int .i64 (iv':Nat))):=by
 obtain ⟨p1,p2⟩:=set1 h.inb 0 (.int .i64 (iv':Nat))
 have e':∀ k,k≠b6→(W.setCell ⟨b6,0,none⟩ (.int .i64 (iv':Nat))).heap[k]?=W.heap[k]?:=fun k h2=>by
  rcases Nat.lt_or_ge k W.heap.size with h1 | h1
  ·exact p2.block k h1 (by intro e;simp only [Option.some.injEq] at e;exact h2 e)
  ·rw [Array.getElem?_eq_none h1,Array.getElem?_eq_none (by simpa using h1)]
 refine ⟨G.stay s T W _ h.j p2.size (fun k ho=>e' k (ho.elim (fun o=>(h.ap k o).1) (fun o=>(hs.lb k o).1))),h.ap,h.og,p1,(e' b7 (Ne.symm hs.ne)).trans h.lft,fun k hk=>(e' k (fun e=>hs.h6 (e ▸ hk))).trans (h.hd k hk),h.bx.same9 (e' g5 (Ne.symm hs.n6)),h.kp.trans (Kps.grown p2 fun j e _=>?_) (fun _ _ e=>e),h.nw⟩
 simp only [Option.some.injEq] at e
 subst e
 exact .inr (.inl rfl)
end
set_option maxRecDepth 100000 in
set_option maxHeartbeats 8000000 in
theorem between_stops (n:Nat) (enc lim:Int) (L:List Int) (t:Nat) (ps:List PG) (f tz:Nat) (hft:f≤tz) (hto:tz≤(sh enc ps).length) (wT:World) (hT:Tx enc lim L wT t ps) (w:World) (hBT:Below wT.heap.size wT w) (ba bf bt:Nat) (la:ba < w.heap.size) (lf:bf < w.heap.size) (lt:bt < w.heap.size)
  (hA:w.heap[ba]?=some (.cells #[.pointer (some ⟨t,0,none⟩)] 24 (0,0))) (hF:w.heap[bf]?=some (.cells #[.int .i64 f] 3 (0,0))) (hTo:w.heap[bt]?=some (.cells #[.int .i64 tz] 3 (0,0))) :
  SeqX Fence.wide n Tryz.prog 99 #[.pointer (some ⟨ba,0,none⟩),.pointer (some ⟨bf,0,none⟩),.pointer (some ⟨bt,0,none⟩)] (fun p:Int × Int=>#[.int .i64 p.1,.int .i64 p.2]) (fun k=>k < wT.heap.size∨k=ba∨k=bf∨k=bt) (fun xs=>xs=btw enc ps f tz) (fun pre=>pre <+: btw enc ps f tz) w:=by
 intro l σ G s W hK hrel hlean hY h0
 have hbW:Below wT.heap.size wT W:=⟨hK.os.trans hBT.os,hK.tape.trans hBT.tape,hK.output.trans hBT.output,by have:=hK.size;have:=hBT.size;omega,fun k hk=>(hK.same k (Nat.lt_of_lt_of_le hk hBT.size) (fun e=>e (.inl hk))).trans (hBT.block k hk)⟩
 have HHE:Hid (W.heap[ba]?=some (.cells #[.pointer (some ⟨t,0,none⟩)] 24 (0,0))∧W.heap[bf]?=some (.cells #[.int .i64 f] 3 (0,0))∧W.heap[bt]?=some (.cells #[.int .i64 tz] 3 (0,0))) :=
  ⟨(hK.same ba la (fun e=>e (.inr (.inl rfl)))).trans hA,(hK.same bf lf (fun e=>e (.inr (.inr (.inl rfl))))).trans hF,(hK.same bt lt (fun e=>e (.inr (.inr (.inr rfl))))).trans hTo⟩
 have HT:=hidIt hT
 have HTW:=hidIt (hT.ext hbW)
 have HBW:=hidIt hbW
 obtain ⟨lv,u,⟨_,_,_,c3⟩,_,htt,htl⟩:=HTW.out.cells
 have htlT:t < wT.heap.size:=by obtain ⟨_,_,_,_,_,h⟩:=hT.cells;exact h
 have HTT:=hidIt htt
 obtain ⟨i,hfi,hil,hib,hig⟩:=find_from hT.pc f
 obtain ⟨base,hbs⟩:∃ base,base=(sh enc (ps.take i)).length:=⟨_,rfl⟩
 have hbf:base≤f:=by rw [hbs];exact hib
 have hsl:(sh enc ps).length≤65536:=hT.sum.2.2
 have hpl:ps.length≤65536:=by have:=hT.pc.len;have:=ln_ge enc (asOf ps);have:=hT.sz;omega
 have hwt:wt (xsOf ps)≤4611686018427387904:=by have:=hT.pc.wt;have:=hT.sz;omega
 have FD:Hid (∀ w',Below W.heap.size W w'→Calls Tryz.prog 65 #[.agg #[.pointer u],.int .i64 0,.int .i64 ((f:Int) + 1)] w' fun e w''=>e=.returned (.int .i64 ((i + 1:Nat):Int))∧Below w'.heap.size w' w''):=fun w' hb=>by rw [← hfi];exact Find_any u (xsOf ps) 0 ((f:Int) + 1) w' (htt.ext hb) hwt
 have UP:Hid (∀ w',Below W.heap.size W w'→Calls Tryz.prog 67 #[.agg #[.pointer u],.int .i64 (i:Nat)] w' fun e w''=>∃ s,Hid (s=rA.su ((xsOf ps).take i))∧e=.returned (.agg #[.int .i64 s.a,.int .i64 s.s,.int .i64 s.b,.bool s.lf,.bool s.cr])∧Below w'.heap.size w' w''):=fun w' hb=>by have:=Upto_any u (xsOf ps) (i:Nat) w' (htt.ext hb) hwt (by omega);rwa [Int.toNat_natCast] at this
 have HUA:Hid ((rA.su ((xsOf ps).take i)).a=(base:Int)):=by
  unfold Hid
  have h':Pcs enc L wT (ps.take i):=fun q hq=>hT.pc q (List.mem_of_mem_take hq)
  rw [show (xsOf ps).take i=xsOf (ps.take i) by simp [xsOf,List.map_take],h'.su,hbs,sh_len]
  exact (spn_a enc _ h'.fit).1
 have HIG:=hidIt hig
 have HBS:=hidIt hbs
 have HJ:=hidIt h0
 have HYY:=hidIt hY
 have HRL:=hidIt hrel
 have HLN:=hidIt hlean
 have HKW:=hidIt hK
 have HOW:=hidIt (fun k (ho:G.own s k)=>G.lives s [] W h0 k ho)
 have HSEP:=hidIt (show ba < W.heap.size∧bf < W.heap.size∧bt < W.heap.size from ⟨by have:=hK.size;omega,by have:=hK.size;omega,by have:=hK.size;omega⟩)
 have HC:Hid (∀ w',Below W.heap.size W w'→w'.cell? ⟨ba,0,none⟩=some (.pointer (some ⟨t,0,none⟩))∧w'.cell? ⟨bf,0,none⟩=some (.int .i64 f)∧w'.cell? ⟨bt,0,none⟩=some (.int .i64 tz)∧w'.cell? ⟨t,3,none⟩=some (.pointer u)):=fun w' hb=>by
  obtain ⟨q1,q2,q3⟩:=HHE.out
  obtain ⟨z1,z2,z3⟩:=HSEP.out
  refine ⟨?_,?_,?_,(hb.cell (p:=⟨t,3,none⟩) htl).trans c3⟩
  ·rw [cell_of_row w' _ _ _ _ _ ((hb.block _ z1).trans q1)];rfl
  ·rw [cell_of_row w' _ _ _ _ _ ((hb.block _ z2).trans q2)];rfl
  ·rw [cell_of_row w' _ _ _ _ _ ((hb.block _ z3).trans q3)];rfl
 have hwf:IntKind.i64.wrap ((f:Int) + 1)=(f:Int) + 1:=by rw [IntKind.wrap_i64];omega
 have hwi:IntKind.i64.wrap (i:Int)=(i:Int):=by rw [IntKind.wrap_i64];omega
 have hwb:IntKind.i64.wrap ((f:Int) - (base:Int))=((f - base:Nat):Int):=by rw [IntKind.wrap_i64];omega
 have hwl:IntKind.i64.wrap ((tz:Int) - (f:Int))=((tz - f:Nat):Int):=by rw [IntKind.wrap_i64];omega
 have HIB:=hidIt hib
 clear hK hrel hlean hY h0 hA hF hTo hBT hT hbW htt hfi hbs c3 hig hib
 refine (callsIn_wide (n:=n)).2 ?_
 refine (callsIn_wide (n:=9)).1 ?_
 refine callsIn_of_wp_marks Tryz.func99 rfl trivial ?_ rfl
 simp only [Tryz.ntmps99,List.size_toArray,List.length_cons,List.length_nil,Nat.reduceAdd,Nat.reduceSub,Array.replicate_succ,Array.replicate_zero,List.push_toArray,List.append_toArray,List.nil_append,List.cons_append]
 refine wpIn_mono (Q:=calm _) ?_ (fun _ _ _ h=>calm_imp h)
 refine wpIn_wide.2 ?_
 go_upto_region 1 with fail
 obtain ⟨W0,hW0,k4,hb0⟩:∃ W0,W0=W.alloc (.cells #[.func (.yield l) #[] #[]] 26)∧W0.heap[W.heap.size]?=some (.cells #[.func (.yield l) #[] #[]] 26 (0,0))∧Below W.heap.size W W0:=⟨_,rfl,heap_alloc_new _ _,ext_alloc (Below.refl _ _) _⟩
 rw [← hW0]
 clear hW0
 have HK4:=hidIt k4
 have HB0:=hidIt hb0
 have HB0k:=k4
 have HZ0:=hidIt (Array.getElem?_eq_some_iff.1 k4).1
 clear k4 hb0 HB0k
 obtain ⟨ca,cf,ct,c3⟩:=HC.out W0 HB0.out
 refine wp_region_held_drew (S:=fun w''=>w''.cell? ⟨ba,0,none⟩=some (.pointer (some ⟨t,0,none⟩))∧w''.cell? ⟨bf,0,none⟩=some (.int .i64 f)∧w''.cell? ⟨bt,0,none⟩=some (.int .i64 tz)∧w''.cell? ⟨t,3,none⟩=some (.pointer u)) (by kernel_rfl) (⟨ca,cf,ct,c3⟩) (fun hHeld=>?_)
 refine tkH (v:=?_) 0 rfl ?_ ?_;rotate_left 1
 ·intro wq hSw;(try dsimp only at hSw);go_simp;try (with_reducible rfl)
 try simp only [Act.put,sA1,sA3,sA4,sA5,sA6]
 refine tkH (v:=?_) 1 rfl ?_ ?_;rotate_left 1
 ·intro wq hSw;(try dsimp only at hSw);go_simp;try (with_reducible rfl)
 try simp only [Act.put,sA1,sA2,sA3,sA4,sA5,sA6]
 refine tkH (v:=?_) 2 rfl ?_ ?_;rotate_left 1
 ·intro wq hSw;(try dsimp only at hSw);go_simp;try (with_reducible rfl)
 try simp only [Act.put,sA1,sA2,sA3,sA4,sA5,sA6]
 refine tkH (v:=?_) 3 rfl ?_ ?_;rotate_left 1
 ·intro wq hSw;(try dsimp only at hSw);go_simp;try (with_reducible rfl)
 try simp only [Act.put,sA1,sA2,sA3,sA4,sA5,sA6]
 refine tkH (v:=?_) 4 rfl ?_ ?_;rotate_left 1
 ·intro wq hSw;(try dsimp only at hSw);go_simp;try (with_reducible rfl)
 try simp only [Act.put,sA1,sA2,sA3,sA4,sA5,sA6]
 refine tkH (v:=?_) 5 rfl ?_ ?_;rotate_left 1
 ·intro wq hSw;(try dsimp only at hSw);go_simp;try (with_reducible rfl)
 try simp only [Act.put,sA1,sA2,sA3,sA4,sA5,sA6]
 refine wpAnyH_ready (rs:=[6]) (by kernel_rfl) (by simp) ?_
 refine AllReadyH.cons (o:=_) rfl (fun K hK=>?_) AllReadyH.nil
 go_simp
 refine (FD.out _ HB0.out.drew).mono ?_;clear ca cf ct c3;rintro e x1 ⟨rfl,hb⟩;have HB1:=hidIt (ext_trans HB0.out.drew hb);have HK41:=hidIt ((ext_trans (Below.drew (Below.refl W0.heap.size W0)) hb).block _ (Array.getElem?_eq_some_iff.1 HK4.out).1 |>.trans HK4.out);have HS1:=hidIt (ext_trans (Below.drew (Below.refl W0.heap.size W0)) hb).size;clear hb;obtain ⟨ca,cf,ct,c3⟩:=HC.out x1 HB1.out;try dsimp only
 refine hK.out _ _ ?_ (fun hHeld=>?_)
 ·(try simp only [World.cell?_drew]);exact ⟨ca,cf,ct,c3⟩
 clear hK K
 try simp only [Act.put,sA1,sA2,sA3,sA4,sA5,sA6]
 refine tkH (v:=?_) 7 rfl ?_ ?_;rotate_left 1
 ·intro wq hSw;(try dsimp only at hSw);go_simp;try (with_reducible rfl)
 try simp only [Act.put,sA1,sA2,sA3,sA4,sA5,sA6]
 refine tkH (v:=?_) 8 rfl ?_ ?_;rotate_left 1
 ·intro wq hSw;(try dsimp only at hSw);go_simp;try (with_reducible rfl)
 try simp only [Act.put,sA1,sA2,sA3,sA4,sA5,sA6]
 refine wpAnyH_done (by kernel_rfl) ?_ _
 skip
 go_upto_region 2 with fail
 go_cut [6,7] from 20 to 31 (fun p q wF=>∃ b6 b7:Nat,p=.pointer (some ⟨b6,0,none⟩)∧q=.pointer (some ⟨b7,0,none⟩)∧Hid (x1.heap.size≤b6∧x1.heap.size≤b7∧b6≠b7∧wF.heap[b6]?=some (.cells #[.int .i64 (f - base:Nat)] 3 (0,0))∧wF.heap[b7]?=some (.cells #[.int .i64 (tz - f:Nat)] 3 (0,0))∧Below x1.heap.size x1 wF))
 ·have HBc:=hidIt (Below.refl x1.heap.size x1)
  have fa:=field_atoms
  refine wp_region_held_drew (S:=fun w''=>w''.cell? ⟨ba,0,none⟩=some (.pointer (some ⟨t,0,none⟩))∧w''.cell? ⟨bf,0,none⟩=some (.int .i64 f)∧w''.cell? ⟨bt,0,none⟩=some (.int .i64 tz)∧w''.cell? ⟨t,3,none⟩=some (.pointer u)) (by kernel_rfl) (⟨ca,cf,ct,c3⟩) (fun hHeld=>?_)
  refine tkH (v:=?_) 0 rfl ?_ ?_;rotate_left 1
  ·intro wq hSw;(try dsimp only at hSw);go_simp;try (with_reducible rfl)
  try simp only [Act.put,sA1,sA3,sA4,sA5,sA6]
  refine tkH (v:=?_) 1 rfl ?_ ?_;rotate_left 1
  ·intro wq hSw;(try dsimp only at hSw);go_simp;try (with_reducible rfl)
  try simp only [Act.put,sA1,sA2,sA3,sA4,sA5,sA6]
  refine tkH (v:=?_) 2 rfl ?_ ?_;rotate_left 1
  ·intro wq hSw;(try dsimp only at hSw);go_simp;try (with_reducible rfl)
  try simp only [Act.put,sA1,sA2,sA3,sA4,sA5,sA6]
  refine tkH (v:=?_) 3 rfl ?_ ?_;rotate_left 1
  ·intro wq hSw;(try dsimp only at hSw);go_simp;try (with_reducible rfl)
  try simp only [Act.put,sA1,sA2,sA3,sA4,sA5,sA6]
  refine tkH (v:=?_) 4 rfl ?_ ?_;rotate_left 1
  ·intro wq hSw;(try dsimp only at hSw);go_simp;try (with_reducible rfl)
  try simp only [Act.put,sA1,sA2,sA3,sA4,sA5,sA6]
  refine tkH (v:=?_) 5 rfl ?_ ?_;rotate_left 1
  ·intro wq hSw;(try dsimp only at hSw);go_simp;try (with_reducible rfl)
  try simp only [Act.put,sA1,sA2,sA3,sA4,sA5,sA6]
  refine tkH (v:=?_) 9 rfl ?_ ?_;rotate_left 1
  ·intro wq hSw;(try dsimp only at hSw);go_simp;try (with_reducible rfl)
  try simp only [Act.put,sA1,sA2,sA3,sA4,sA5,sA6]
  refine tkH (v:=?_) 10 rfl ?_ ?_;rotate_left 1
  ·intro wq hSw;(try dsimp only at hSw);go_simp;try (with_reducible rfl)
  try simp only [Act.put,sA1,sA2,sA3,sA4,sA5,sA6]
  refine tkH (v:=?_) 11 rfl ?_ ?_;rotate_left 1
  ·intro wq hSw;(try dsimp only at hSw);go_simp;try (with_reducible rfl)
  try simp only [Act.put,sA1,sA2,sA3,sA4,sA5,sA6]
  refine wpAnyH_ready (rs:=[6,12,13]) (by kernel_rfl) (by simp) ?_
  refine (AllReadyH.cons (o:=_) rfl (fun K hK=>?_) (AllReadyH.cons (o:=_) rfl (fun K hK=>?_) (AllReadyH.cons (o:=_) rfl (fun K hK=>?_) AllReadyH.nil)))
  ·skip
   go_simp
   refine (UP.out _ (ext_trans HB1.out HBc.out).drew).mono ?_;(try clear z6 zf6);(try clear z7 zf7);rintro e y1 ⟨⟨sa,ss,sb,sf,sc⟩,hs,rfl,hb⟩;obtain rfl:sa=(base:Int):=(congrArg Rs.a hs.out).trans HUA.out;have hst:Below x1.heap.size x1 y1:=ext_trans (Below.drew (Below.refl _ _)) hb;clear hb hs;have HBn:=hidIt (ext_trans HBc.out hst);clear HBc;have HBc:=HBn;clear HBn;clear ca cf ct c3;obtain ⟨ca,cf,ct,c3⟩:=HC.out y1 (ext_trans HB1.out HBc.out);(try clear z6 zf6);(try clear z7 zf7);have sz1:x1.heap.size≤y1.heap.size:=hst.size;clear hst;try dsimp only
   refine hK.out _ _ ?_ (fun hHeld=>?_)
   ·(try simp only [World.cell?_drew]);exact HC.out y1 (ext_trans HB1.out HBc.out)
   clear hK K
   try simp only [Act.put,sA1,sA2,sA3,sA4,sA5,sA6]
   refine tkH (v:=?_) 7 rfl ?_ ?_;rotate_left 1
   ·intro wq hSw;(try dsimp only at hSw);go_simp;try (with_reducible rfl)
   try simp only [Act.put,sA1,sA2,sA3,sA4,sA5,sA6]
   refine tkH (v:=?_) 8 rfl ?_ ?_;rotate_left 1
   ·intro wq hSw;(try dsimp only at hSw);go_simp;try (with_reducible rfl)
   try simp only [Act.put,sA1,sA2,sA3,sA4,sA5,sA6]
   refine wpAnyH_ready (rs:=[12,13]) (by kernel_rfl) (by simp) ?_
   refine (AllReadyH.cons (o:=_) rfl (fun K hK=>?_) (AllReadyH.cons (o:=_) rfl (fun K hK=>?_) AllReadyH.nil))
   ·skip
    go_simp
    generalize hwN:World.alloc _ _=y2;have hst:Below y1.heap.size y1 y2:=(by rw [← hwN];exact ext_alloc (Below.refl _ _) _);have lb6:x1.heap.size≤y1.heap.size:=HBc.out.size;have HBn:=hidIt (ext_trans HBc.out hst);clear HBc;have HBc:=HBn;clear HBn;have H6:Hid (y2.heap[y1.heap.size]?=some (.cells #[.int .i64 0] 3 (0,0))):=(by unfold Hid;rw [← hwN];exact heap_alloc_new _ _);clear hwN hst;clear ca cf ct c3;obtain ⟨ca,cf,ct,c3⟩:=HC.out y2 (ext_trans HB1.out HBc.out);(try clear z6 zf6);(try clear z7 zf7);have zf6:∀ i,y2.frozen? ⟨y1.heap.size,i,none⟩=false:=(fun i=>by simp [World.frozen?,H6.out]);have z6:y2.cell? ⟨y1.heap.size,0,none⟩=some (.int .i64 0):=(by rw [cell_of_row y2 _ _ _ _ _ H6.out];rfl);have sz2:y1.heap.size < y2.heap.size:=(Array.getElem?_eq_some_iff.1 H6.out).1
    refine hK.out _ _ ?_ (fun hHeld=>?_)
    ·(try simp only [World.cell?_drew]);exact HC.out y2 (ext_trans HB1.out HBc.out)
    clear hK K
    try simp only [Act.put,sA1,sA2,sA3,sA4,sA5,sA6]
    refine wpAnyH_ready (rs:=[13]) (by kernel_rfl) (by simp) ?_
    refine AllReadyH.cons (o:=_) rfl (fun K hK=>?_) AllReadyH.nil
    go_simp
    generalize hwN:World.alloc _ _=y3;have hst:Below y2.heap.size y2 y3:=(by rw [← hwN];exact ext_alloc (Below.refl _ _) _);have lb7:x1.heap.size≤y2.heap.size:=HBc.out.size;have HBn:=hidIt (ext_trans HBc.out hst);clear HBc;have HBc:=HBn;clear HBn;have Hn:=hidIt ((hst.block _ (Array.getElem?_eq_some_iff.1 H6.out).1).trans H6.out);clear H6;have H6:=Hn;clear Hn;have H7:Hid (y3.heap[y2.heap.size]?=some (.cells #[.int .i64 0] 3 (0,0))):=(by unfold Hid;rw [← hwN];exact heap_alloc_new _ _);clear hwN hst;clear ca cf ct c3;obtain ⟨ca,cf,ct,c3⟩:=HC.out y3 (ext_trans HB1.out HBc.out);(try clear z6 zf6);(try clear z7 zf7);have zf6:∀ i,y3.frozen? ⟨y1.heap.size,i,none⟩=false:=(fun i=>by simp [World.frozen?,H6.out]);have z6:y3.cell? ⟨y1.heap.size,0,none⟩=some (.int .i64 0):=(by rw [cell_of_row y3 _ _ _ _ _ H6.out];rfl);have zf7:∀ i,y3.frozen? ⟨y2.heap.size,i,none⟩=false:=(fun i=>by simp [World.frozen?,H7.out]);have z7:y3.cell? ⟨y2.heap.size,0,none⟩=some (.int .i64 0):=(by rw [cell_of_row y3 _ _ _ _ _ H7.out];rfl);have sz3:y2.heap.size < y3.heap.size:=(Array.getElem?_eq_some_iff.1 H7.out).1
    refine hK.out _ _ ?_ (fun hHeld=>?_)
    ·(try simp only [World.cell?_drew]);exact HC.out y3 (ext_trans HB1.out HBc.out)
    clear hK K
    try simp only [Act.put,sA1,sA2,sA3,sA4,sA5,sA6]
    refine wpAnyH_ready (rs:=[14]) (by kernel_rfl) (by simp) ?_
    refine AllReadyH.cons (o:=_) rfl (fun K hK=>?_) AllReadyH.nil
    go_simp
    generalize hwN:World.setCell _ _ _=y4;obtain ⟨p1,p2⟩:=set1 H6.out 0 (.int .i64 (f - base:Nat));rw [hwN] at p1 p2;(try clear z6 zf6);(try clear z7 zf7);have Hn:=hidIt ((p2.block y2.heap.size (Array.getElem?_eq_some_iff.1 H7.out).1 (by intro e;simp only [Option.some.injEq] at e;omega)).trans H7.out);clear H7;have H7:=Hn;clear Hn;clear H6;have H6:=hidIt p1;have HBn:=hidIt (below_put HBc.out HBc.out.size p2 lb6);clear HBc;have HBc:=HBn;clear HBn;clear hwN;have sz4:=p2.size;clear p1 p2;have zf7:∀ i,y4.frozen? ⟨y2.heap.size,i,none⟩=false:=(fun i=>by simp [World.frozen?,H7.out]);have z7:y4.cell? ⟨y2.heap.size,0,none⟩=some (.int .i64 0):=(by rw [cell_of_row y4 _ _ _ _ _ H7.out];rfl)
    refine hK.out _ _ ?_ (fun hHeld=>?_)
    ·(try simp only [World.cell?_drew]);exact HC.out y4 (ext_trans HB1.out HBc.out)
    clear hK K
    try simp only [Act.put,sA1,sA2,sA3,sA4,sA5,sA6]
    refine wpAnyH_ready (rs:=[15]) (by kernel_rfl) (by simp) ?_
    refine AllReadyH.cons (o:=_) rfl (fun K hK=>?_) AllReadyH.nil
    go_simp
    generalize hwN:World.setCell _ _ _=y5;obtain ⟨p1,p2⟩:=set1 H7.out 0 (.int .i64 (tz - f:Nat));rw [hwN] at p1 p2;(try clear z6 zf6);(try clear z7 zf7);have Hn:=hidIt ((p2.block y1.heap.size (Array.getElem?_eq_some_iff.1 H6.out).1 (by intro e;simp only [Option.some.injEq] at e;omega)).trans H6.out);clear H6;have H6:=Hn;clear Hn;clear H7;have H7:=hidIt p1;have HBn:=hidIt (below_put HBc.out HBc.out.size p2 lb7);clear HBc;have HBc:=HBn;clear HBn;clear hwN;have sz5:=p2.size;clear p1 p2;skip
    refine hK.out _ _ ?_ (fun hHeld=>?_)
    ·(try simp only [World.cell?_drew]);exact HC.out y5 (ext_trans HB1.out HBc.out)
    clear hK K
    try simp only [Act.put,sA1,sA2,sA3,sA4,sA5,sA6]
    refine wpAnyH_done (by kernel_rfl) ?_ _
    go_wp2_with fail
    go_meet
    case rel=>exact ⟨y1.heap.size,y2.heap.size,rfl,rfl,lb6,lb7,by omega,H6.out,H7.out,HBc.out⟩
   ·skip
    go_simp
    generalize hwN:World.alloc _ _=y2;have hst:Below y1.heap.size y1 y2:=(by rw [← hwN];exact ext_alloc (Below.refl _ _) _);have lb7:x1.heap.size≤y1.heap.size:=HBc.out.size;have HBn:=hidIt (ext_trans HBc.out hst);clear HBc;have HBc:=HBn;clear HBn;have H7:Hid (y2.heap[y1.heap.size]?=some (.cells #[.int .i64 0] 3 (0,0))):=(by unfold Hid;rw [← hwN];exact heap_alloc_new _ _);clear hwN hst;clear ca cf ct c3;obtain ⟨ca,cf,ct,c3⟩:=HC.out y2 (ext_trans HB1.out HBc.out);(try clear z6 zf6);(try clear z7 zf7);have zf7:∀ i,y2.frozen? ⟨y1.heap.size,i,none⟩=false:=(fun i=>by simp [World.frozen?,H7.out]);have z7:y2.cell? ⟨y1.heap.size,0,none⟩=some (.int .i64 0):=(by rw [cell_of_row y2 _ _ _ _ _ H7.out];rfl);have sz2:y1.heap.size < y2.heap.size:=(Array.getElem?_eq_some_iff.1 H7.out).1
    refine hK.out _ _ ?_ (fun hHeld=>?_)
    ·(try simp only [World.cell?_drew]);exact HC.out y2 (ext_trans HB1.out HBc.out)
    clear hK K
    try simp only [Act.put,sA1,sA2,sA3,sA4,sA5,sA6]
    refine wpAnyH_ready (rs:=[12]) (by kernel_rfl) (by simp) ?_
    refine AllReadyH.cons (o:=_) rfl (fun K hK=>?_) AllReadyH.nil
    go_simp
    generalize hwN:World.alloc _ _=y3;have hst:Below y2.heap.size y2 y3:=(by rw [← hwN];exact ext_alloc (Below.refl _ _) _);have lb6:x1.heap.size≤y2.heap.size:=HBc.out.size;have HBn:=hidIt (ext_trans HBc.out hst);clear HBc;have HBc:=HBn;clear HBn;have Hn:=hidIt ((hst.block _ (Array.getElem?_eq_some_iff.1 H7.out).1).trans H7.out);clear H7;have H7:=Hn;clear Hn;have H6:Hid (y3.heap[y2.heap.size]?=some (.cells #[.int .i64 0] 3 (0,0))):=(by unfold Hid;rw [← hwN];exact heap_alloc_new _ _);clear hwN hst;clear ca cf ct c3;obtain ⟨ca,cf,ct,c3⟩:=HC.out y3 (ext_trans HB1.out HBc.out);(try clear z6 zf6);(try clear z7 zf7);have zf6:∀ i,y3.frozen? ⟨y2.heap.size,i,none⟩=false:=(fun i=>by simp [World.frozen?,H6.out]);have z6:y3.cell? ⟨y2.heap.size,0,none⟩=some (.int .i64 0):=(by rw [cell_of_row y3 _ _ _ _ _ H6.out];rfl);have zf7:∀ i,y3.frozen? ⟨y1.heap.size,i,none⟩=false:=(fun i=>by simp [World.frozen?,H7.out]);have z7:y3.cell? ⟨y1.heap.size,0,none⟩=some (.int .i64 0):=(by rw [cell_of_row y3 _ _ _ _ _ H7.out];rfl);have sz3:y2.heap.size < y3.heap.size:=(Array.getElem?_eq_some_iff.1 H6.out).1
    refine hK.out _ _ ?_ (fun hHeld=>?_)
    ·(try simp only [World.cell?_drew]);exact HC.out y3 (ext_trans HB1.out HBc.out)
    clear hK K
    try simp only [Act.put,sA1,sA2,sA3,sA4,sA5,sA6]
    refine wpAnyH_ready (rs:=[14]) (by kernel_rfl) (by simp) ?_
    refine AllReadyH.cons (o:=_) rfl (fun K hK=>?_) AllReadyH.nil
    go_simp
    generalize hwN:World.setCell _ _ _=y4;obtain ⟨p1,p2⟩:=set1 H6.out 0 (.int .i64 (f - base:Nat));rw [hwN] at p1 p2;(try clear z6 zf6);(try clear z7 zf7);have Hn:=hidIt ((p2.block y1.heap.size (Array.getElem?_eq_some_iff.1 H7.out).1 (by intro e;simp only [Option.some.injEq] at e;omega)).trans H7.out);clear H7;have H7:=Hn;clear Hn;clear H6;have H6:=hidIt p1;have HBn:=hidIt (below_put HBc.out HBc.out.size p2 lb6);clear HBc;have HBc:=HBn;clear HBn;clear hwN;have sz4:=p2.size;clear p1 p2;have zf7:∀ i,y4.frozen? ⟨y1.heap.size,i,none⟩=false:=(fun i=>by simp [World.frozen?,H7.out]);have z7:y4.cell? ⟨y1.heap.size,0,none⟩=some (.int .i64 0):=(by rw [cell_of_row y4 _ _ _ _ _ H7.out];rfl)
    refine hK.out _ _ ?_ (fun hHeld=>?_)
    ·(try simp only [World.cell?_drew]);exact HC.out y4 (ext_trans HB1.out HBc.out)
    clear hK K
    try simp only [Act.put,sA1,sA2,sA3,sA4,sA5,sA6]
    refine wpAnyH_ready (rs:=[15]) (by kernel_rfl) (by simp) ?_
    refine AllReadyH.cons (o:=_) rfl (fun K hK=>?_) AllReadyH.nil
    go_simp
    generalize hwN:World.setCell _ _ _=y5;obtain ⟨p1,p2⟩:=set1 H7.out 0 (.int .i64 (tz - f:Nat));rw [hwN] at p1 p2;(try clear z6 zf6);(try clear z7 zf7);have Hn:=hidIt ((p2.block y2.heap.size (Array.getElem?_eq_some_iff.1 H6.out).1 (by intro e;simp only [Option.some.injEq] at e;omega)).trans H6.out);clear H6;have H6:=Hn;clear Hn;clear H7;have H7:=hidIt p1;have HBn:=hidIt (below_put HBc.out HBc.out.size p2 lb7);clear HBc;have HBc:=HBn;clear HBn;clear hwN;have sz5:=p2.size;clear p1 p2;skip
    refine hK.out _ _ ?_ (fun hHeld=>?_)
    ·(try simp only [World.cell?_drew]);exact HC.out y5 (ext_trans HB1.out HBc.out)
    clear hK K
    try simp only [Act.put,sA1,sA2,sA3,sA4,sA5,sA6]
    refine wpAnyH_done (by kernel_rfl) ?_ _
    go_wp2_with fail
    go_meet
    case rel=>exact ⟨y2.heap.size,y1.heap.size,rfl,rfl,lb6,lb7,by omega,H6.out,H7.out,HBc.out⟩
  ·skip
   go_simp
   generalize hwN:World.alloc _ _=y1;have hst:Below x1.heap.size x1 y1:=(by rw [← hwN];exact ext_alloc (Below.refl _ _) _);have lb6:x1.heap.size≤x1.heap.size:=HBc.out.size;have HBn:=hidIt (ext_trans HBc.out hst);clear HBc;have HBc:=HBn;clear HBn;have H6:Hid (y1.heap[x1.heap.size]?=some (.cells #[.int .i64 0] 3 (0,0))):=(by unfold Hid;rw [← hwN];exact heap_alloc_new _ _);clear hwN hst;clear ca cf ct c3;obtain ⟨ca,cf,ct,c3⟩:=HC.out y1 (ext_trans HB1.out HBc.out);(try clear z6 zf6);(try clear z7 zf7);have zf6:∀ i,y1.frozen? ⟨x1.heap.size,i,none⟩=false:=(fun i=>by simp [World.frozen?,H6.out]);have z6:y1.cell? ⟨x1.heap.size,0,none⟩=some (.int .i64 0):=(by rw [cell_of_row y1 _ _ _ _ _ H6.out];rfl);have sz1:x1.heap.size < y1.heap.size:=(Array.getElem?_eq_some_iff.1 H6.out).1
   refine hK.out _ _ ?_ (fun hHeld=>?_)
   ·(try simp only [World.cell?_drew]);exact HC.out y1 (ext_trans HB1.out HBc.out)
   clear hK K
   try simp only [Act.put,sA1,sA2,sA3,sA4,sA5,sA6]
   refine wpAnyH_ready (rs:=[6,13]) (by kernel_rfl) (by simp) ?_
   refine (AllReadyH.cons (o:=_) rfl (fun K hK=>?_) (AllReadyH.cons (o:=_) rfl (fun K hK=>?_) AllReadyH.nil))
   ·skip
    go_simp
    refine (UP.out _ (ext_trans HB1.out HBc.out).drew).mono ?_;(try clear z6 zf6);(try clear z7 zf7);rintro e y2 ⟨⟨sa,ss,sb,sf,sc⟩,hs,rfl,hb⟩;obtain rfl:sa=(base:Int):=(congrArg Rs.a hs.out).trans HUA.out;have hst:Below y1.heap.size y1 y2:=ext_trans (Below.drew (Below.refl _ _)) hb;clear hb hs;have HBn:=hidIt (ext_trans HBc.out hst);clear HBc;have HBc:=HBn;clear HBn;have Hn:=hidIt ((hst.block _ (Array.getElem?_eq_some_iff.1 H6.out).1).trans H6.out);clear H6;have H6:=Hn;clear Hn;clear ca cf ct c3;obtain ⟨ca,cf,ct,c3⟩:=HC.out y2 (ext_trans HB1.out HBc.out);(try clear z6 zf6);(try clear z7 zf7);have zf6:∀ i,y2.frozen? ⟨x1.heap.size,i,none⟩=false:=(fun i=>by simp [World.frozen?,H6.out]);have z6:y2.cell? ⟨x1.heap.size,0,none⟩=some (.int .i64 0):=(by rw [cell_of_row y2 _ _ _ _ _ H6.out];rfl);have sz2:y1.heap.size≤y2.heap.size:=hst.size;clear hst;try dsimp only
    refine hK.out _ _ ?_ (fun hHeld=>?_)
    ·(try simp only [World.cell?_drew]);exact HC.out y2 (ext_trans HB1.out HBc.out)
    clear hK K
    try simp only [Act.put,sA1,sA2,sA3,sA4,sA5,sA6]
    refine tkH (v:=?_) 7 rfl ?_ ?_;rotate_left 1
    ·intro wq hSw;(try dsimp only at hSw);go_simp;try (with_reducible rfl)
    try simp only [Act.put,sA1,sA2,sA3,sA4,sA5,sA6]
    refine tkH (v:=?_) 8 rfl ?_ ?_;rotate_left 1
    ·intro wq hSw;(try dsimp only at hSw);go_simp;try (with_reducible rfl)
    try simp only [Act.put,sA1,sA2,sA3,sA4,sA5,sA6]
    refine wpAnyH_ready (rs:=[13]) (by kernel_rfl) (by simp) ?_
    refine AllReadyH.cons (o:=_) rfl (fun K hK=>?_) AllReadyH.nil
    go_simp
    generalize hwN:World.alloc _ _=y3;have hst:Below y2.heap.size y2 y3:=(by rw [← hwN];exact ext_alloc (Below.refl _ _) _);have lb7:x1.heap.size≤y2.heap.size:=HBc.out.size;have HBn:=hidIt (ext_trans HBc.out hst);clear HBc;have HBc:=HBn;clear HBn;have Hn:=hidIt ((hst.block _ (Array.getElem?_eq_some_iff.1 H6.out).1).trans H6.out);clear H6;have H6:=Hn;clear Hn;have H7:Hid (y3.heap[y2.heap.size]?=some (.cells #[.int .i64 0] 3 (0,0))):=(by unfold Hid;rw [← hwN];exact heap_alloc_new _ _);clear hwN hst;clear ca cf ct c3;obtain ⟨ca,cf,ct,c3⟩:=HC.out y3 (ext_trans HB1.out HBc.out);(try clear z6 zf6);(try clear z7 zf7);have zf6:∀ i,y3.frozen? ⟨x1.heap.size,i,none⟩=false:=(fun i=>by simp [World.frozen?,H6.out]);have z6:y3.cell? ⟨x1.heap.size,0,none⟩=some (.int .i64 0):=(by rw [cell_of_row y3 _ _ _ _ _ H6.out];rfl);have zf7:∀ i,y3.frozen? ⟨y2.heap.size,i,none⟩=false:=(fun i=>by simp [World.frozen?,H7.out]);have z7:y3.cell? ⟨y2.heap.size,0,none⟩=some (.int .i64 0):=(by rw [cell_of_row y3 _ _ _ _ _ H7.out];rfl);have sz3:y2.heap.size < y3.heap.size:=(Array.getElem?_eq_some_iff.1 H7.out).1
    refine hK.out _ _ ?_ (fun hHeld=>?_)
    ·(try simp only [World.cell?_drew]);exact HC.out y3 (ext_trans HB1.out HBc.out)
    clear hK K
    try simp only [Act.put,sA1,sA2,sA3,sA4,sA5,sA6]
    refine wpAnyH_ready (rs:=[14]) (by kernel_rfl) (by simp) ?_
    refine AllReadyH.cons (o:=_) rfl (fun K hK=>?_) AllReadyH.nil
    go_simp
    generalize hwN:World.setCell _ _ _=y4;obtain ⟨p1,p2⟩:=set1 H6.out 0 (.int .i64 (f - base:Nat));rw [hwN] at p1 p2;(try clear z6 zf6);(try clear z7 zf7);have Hn:=hidIt ((p2.block y2.heap.size (Array.getElem?_eq_some_iff.1 H7.out).1 (by intro e;simp only [Option.some.injEq] at e;omega)).trans H7.out);clear H7;have H7:=Hn;clear Hn;clear H6;have H6:=hidIt p1;have HBn:=hidIt (below_put HBc.out HBc.out.size p2 lb6);clear HBc;have HBc:=HBn;clear HBn;clear hwN;have sz4:=p2.size;clear p1 p2;have zf7:∀ i,y4.frozen? ⟨y2.heap.size,i,none⟩=false:=(fun i=>by simp [World.frozen?,H7.out]);have z7:y4.cell? ⟨y2.heap.size,0,none⟩=some (.int .i64 0):=(by rw [cell_of_row y4 _ _ _ _ _ H7.out];rfl)
    refine hK.out _ _ ?_ (fun hHeld=>?_)
    ·(try simp only [World.cell?_drew]);exact HC.out y4 (ext_trans HB1.out HBc.out)
    clear hK K
    try simp only [Act.put,sA1,sA2,sA3,sA4,sA5,sA6]
    refine wpAnyH_ready (rs:=[15]) (by kernel_rfl) (by simp) ?_
    refine AllReadyH.cons (o:=_) rfl (fun K hK=>?_) AllReadyH.nil
    go_simp
    generalize hwN:World.setCell _ _ _=y5;obtain ⟨p1,p2⟩:=set1 H7.out 0 (.int .i64 (tz - f:Nat));rw [hwN] at p1 p2;(try clear z6 zf6);(try clear z7 zf7);have Hn:=hidIt ((p2.block x1.heap.size (Array.getElem?_eq_some_iff.1 H6.out).1 (by intro e;simp only [Option.some.injEq] at e;omega)).trans H6.out);clear H6;have H6:=Hn;clear Hn;clear H7;have H7:=hidIt p1;have HBn:=hidIt (below_put HBc.out HBc.out.size p2 lb7);clear HBc;have HBc:=HBn;clear HBn;clear hwN;have sz5:=p2.size;clear p1 p2;skip
    refine hK.out _ _ ?_ (fun hHeld=>?_)
    ·(try simp only [World.cell?_drew]);exact HC.out y5 (ext_trans HB1.out HBc.out)
    clear hK K
    try simp only [Act.put,sA1,sA2,sA3,sA4,sA5,sA6]
    refine wpAnyH_done (by kernel_rfl) ?_ _
    go_wp2_with fail
    go_meet
    case rel=>exact ⟨x1.heap.size,y2.heap.size,rfl,rfl,lb6,lb7,by omega,H6.out,H7.out,HBc.out⟩
   ·skip
    go_simp
    generalize hwN:World.alloc _ _=y2;have hst:Below y1.heap.size y1 y2:=(by rw [← hwN];exact ext_alloc (Below.refl _ _) _);have lb7:x1.heap.size≤y1.heap.size:=HBc.out.size;have HBn:=hidIt (ext_trans HBc.out hst);clear HBc;have HBc:=HBn;clear HBn;have Hn:=hidIt ((hst.block _ (Array.getElem?_eq_some_iff.1 H6.out).1).trans H6.out);clear H6;have H6:=Hn;clear Hn;have H7:Hid (y2.heap[y1.heap.size]?=some (.cells #[.int .i64 0] 3 (0,0))):=(by unfold Hid;rw [← hwN];exact heap_alloc_new _ _);clear hwN hst;clear ca cf ct c3;obtain ⟨ca,cf,ct,c3⟩:=HC.out y2 (ext_trans HB1.out HBc.out);(try clear z6 zf6);(try clear z7 zf7);have zf6:∀ i,y2.frozen? ⟨x1.heap.size,i,none⟩=false:=(fun i=>by simp [World.frozen?,H6.out]);have z6:y2.cell? ⟨x1.heap.size,0,none⟩=some (.int .i64 0):=(by rw [cell_of_row y2 _ _ _ _ _ H6.out];rfl);have zf7:∀ i,y2.frozen? ⟨y1.heap.size,i,none⟩=false:=(fun i=>by simp [World.frozen?,H7.out]);have z7:y2.cell? ⟨y1.heap.size,0,none⟩=some (.int .i64 0):=(by rw [cell_of_row y2 _ _ _ _ _ H7.out];rfl);have sz2:y1.heap.size < y2.heap.size:=(Array.getElem?_eq_some_iff.1 H7.out).1
    refine hK.out _ _ ?_ (fun hHeld=>?_)
    ·(try simp only [World.cell?_drew]);exact HC.out y2 (ext_trans HB1.out HBc.out)
    clear hK K
    try simp only [Act.put,sA1,sA2,sA3,sA4,sA5,sA6]
    refine wpAnyH_ready (rs:=[6]) (by kernel_rfl) (by simp) ?_
    refine AllReadyH.cons (o:=_) rfl (fun K hK=>?_) AllReadyH.nil
    go_simp
    refine (UP.out _ (ext_trans HB1.out HBc.out).drew).mono ?_;(try clear z6 zf6);(try clear z7 zf7);rintro e y3 ⟨⟨sa,ss,sb,sf,sc⟩,hs,rfl,hb⟩;obtain rfl:sa=(base:Int):=(congrArg Rs.a hs.out).trans HUA.out;have hst:Below y2.heap.size y2 y3:=ext_trans (Below.drew (Below.refl _ _)) hb;clear hb hs;have HBn:=hidIt (ext_trans HBc.out hst);clear HBc;have HBc:=HBn;clear HBn;have Hn:=hidIt ((hst.block _ (Array.getElem?_eq_some_iff.1 H6.out).1).trans H6.out);clear H6;have H6:=Hn;clear Hn;have Hn:=hidIt ((hst.block _ (Array.getElem?_eq_some_iff.1 H7.out).1).trans H7.out);clear H7;have H7:=Hn;clear Hn;clear ca cf ct c3;obtain ⟨ca,cf,ct,c3⟩:=HC.out y3 (ext_trans HB1.out HBc.out);(try clear z6 zf6);(try clear z7 zf7);have zf6:∀ i,y3.frozen? ⟨x1.heap.size,i,none⟩=false:=(fun i=>by simp [World.frozen?,H6.out]);have z6:y3.cell? ⟨x1.heap.size,0,none⟩=some (.int .i64 0):=(by rw [cell_of_row y3 _ _ _ _ _ H6.out];rfl);have zf7:∀ i,y3.frozen? ⟨y1.heap.size,i,none⟩=false:=(fun i=>by simp [World.frozen?,H7.out]);have z7:y3.cell? ⟨y1.heap.size,0,none⟩=some (.int .i64 0):=(by rw [cell_of_row y3 _ _ _ _ _ H7.out];rfl);have sz3:y2.heap.size≤y3.heap.size:=hst.size;clear hst;try dsimp only
    refine hK.out _ _ ?_ (fun hHeld=>?_)
    ·(try simp only [World.cell?_drew]);exact HC.out y3 (ext_trans HB1.out HBc.out)
    clear hK K
    try simp only [Act.put,sA1,sA2,sA3,sA4,sA5,sA6]
    refine tkH (v:=?_) 7 rfl ?_ ?_;rotate_left 1
    ·intro wq hSw;(try dsimp only at hSw);go_simp;try (with_reducible rfl)
    try simp only [Act.put,sA1,sA2,sA3,sA4,sA5,sA6]
    refine tkH (v:=?_) 8 rfl ?_ ?_;rotate_left 1
    ·intro wq hSw;(try dsimp only at hSw);go_simp;try (with_reducible rfl)
    try simp only [Act.put,sA1,sA2,sA3,sA4,sA5,sA6]
    refine wpAnyH_ready (rs:=[14]) (by kernel_rfl) (by simp) ?_
    refine AllReadyH.cons (o:=_) rfl (fun K hK=>?_) AllReadyH.nil
    go_simp
    generalize hwN:World.setCell _ _ _=y4;obtain ⟨p1,p2⟩:=set1 H6.out 0 (.int .i64 (f - base:Nat));rw [hwN] at p1 p2;(try clear z6 zf6);(try clear z7 zf7);have Hn:=hidIt ((p2.block y1.heap.size (Array.getElem?_eq_some_iff.1 H7.out).1 (by intro e;simp only [Option.some.injEq] at e;omega)).trans H7.out);clear H7;have H7:=Hn;clear Hn;clear H6;have H6:=hidIt p1;have HBn:=hidIt (below_put HBc.out HBc.out.size p2 lb6);clear HBc;have HBc:=HBn;clear HBn;clear hwN;have sz4:=p2.size;clear p1 p2;have zf7:∀ i,y4.frozen? ⟨y1.heap.size,i,none⟩=false:=(fun i=>by simp [World.frozen?,H7.out]);have z7:y4.cell? ⟨y1.heap.size,0,none⟩=some (.int .i64 0):=(by rw [cell_of_row y4 _ _ _ _ _ H7.out];rfl)
    refine hK.out _ _ ?_ (fun hHeld=>?_)
    ·(try simp only [World.cell?_drew]);exact HC.out y4 (ext_trans HB1.out HBc.out)
    clear hK K
    try simp only [Act.put,sA1,sA2,sA3,sA4,sA5,sA6]
    refine wpAnyH_ready (rs:=[15]) (by kernel_rfl) (by simp) ?_
    refine AllReadyH.cons (o:=_) rfl (fun K hK=>?_) AllReadyH.nil
    go_simp
    generalize hwN:World.setCell _ _ _=y5;obtain ⟨p1,p2⟩:=set1 H7.out 0 (.int .i64 (tz - f:Nat));rw [hwN] at p1 p2;(try clear z6 zf6);(try clear z7 zf7);have Hn:=hidIt ((p2.block x1.heap.size (Array.getElem?_eq_some_iff.1 H6.out).1 (by intro e;simp only [Option.some.injEq] at e;omega)).trans H6.out);clear H6;have H6:=Hn;clear Hn;clear H7;have H7:=hidIt p1;have HBn:=hidIt (below_put HBc.out HBc.out.size p2 lb7);clear HBc;have HBc:=HBn;clear HBn;clear hwN;have sz5:=p2.size;clear p1 p2;skip
    refine hK.out _ _ ?_ (fun hHeld=>?_)
    ·(try simp only [World.cell?_drew]);exact HC.out y5 (ext_trans HB1.out HBc.out)
    clear hK K
    try simp only [Act.put,sA1,sA2,sA3,sA4,sA5,sA6]
    refine wpAnyH_done (by kernel_rfl) ?_ _
    go_wp2_with fail
    go_meet
    case rel=>exact ⟨x1.heap.size,y1.heap.size,rfl,rfl,lb6,lb7,by omega,H6.out,H7.out,HBc.out⟩
  ·skip
   go_simp
   generalize hwN:World.alloc _ _=y1;have hst:Below x1.heap.size x1 y1:=(by rw [← hwN];exact ext_alloc (Below.refl _ _) _);have lb7:x1.heap.size≤x1.heap.size:=HBc.out.size;have HBn:=hidIt (ext_trans HBc.out hst);clear HBc;have HBc:=HBn;clear HBn;have H7:Hid (y1.heap[x1.heap.size]?=some (.cells #[.int .i64 0] 3 (0,0))):=(by unfold Hid;rw [← hwN];exact heap_alloc_new _ _);clear hwN hst;clear ca cf ct c3;obtain ⟨ca,cf,ct,c3⟩:=HC.out y1 (ext_trans HB1.out HBc.out);(try clear z6 zf6);(try clear z7 zf7);have zf7:∀ i,y1.frozen? ⟨x1.heap.size,i,none⟩=false:=(fun i=>by simp [World.frozen?,H7.out]);have z7:y1.cell? ⟨x1.heap.size,0,none⟩=some (.int .i64 0):=(by rw [cell_of_row y1 _ _ _ _ _ H7.out];rfl);have sz1:x1.heap.size < y1.heap.size:=(Array.getElem?_eq_some_iff.1 H7.out).1
   refine hK.out _ _ ?_ (fun hHeld=>?_)
   ·(try simp only [World.cell?_drew]);exact HC.out y1 (ext_trans HB1.out HBc.out)
   clear hK K
   try simp only [Act.put,sA1,sA2,sA3,sA4,sA5,sA6]
   refine wpAnyH_ready (rs:=[6,12]) (by kernel_rfl) (by simp) ?_
   refine (AllReadyH.cons (o:=_) rfl (fun K hK=>?_) (AllReadyH.cons (o:=_) rfl (fun K hK=>?_) AllReadyH.nil))
   ·skip
    go_simp
    refine (UP.out _ (ext_trans HB1.out HBc.out).drew).mono ?_;(try clear z6 zf6);(try clear z7 zf7);rintro e y2 ⟨⟨sa,ss,sb,sf,sc⟩,hs,rfl,hb⟩;obtain rfl:sa=(base:Int):=(congrArg Rs.a hs.out).trans HUA.out;have hst:Below y1.heap.size y1 y2:=ext_trans (Below.drew (Below.refl _ _)) hb;clear hb hs;have HBn:=hidIt (ext_trans HBc.out hst);clear HBc;have HBc:=HBn;clear HBn;have Hn:=hidIt ((hst.block _ (Array.getElem?_eq_some_iff.1 H7.out).1).trans H7.out);clear H7;have H7:=Hn;clear Hn;clear ca cf ct c3;obtain ⟨ca,cf,ct,c3⟩:=HC.out y2 (ext_trans HB1.out HBc.out);(try clear z6 zf6);(try clear z7 zf7);have zf7:∀ i,y2.frozen? ⟨x1.heap.size,i,none⟩=false:=(fun i=>by simp [World.frozen?,H7.out]);have z7:y2.cell? ⟨x1.heap.size,0,none⟩=some (.int .i64 0):=(by rw [cell_of_row y2 _ _ _ _ _ H7.out];rfl);have sz2:y1.heap.size≤y2.heap.size:=hst.size;clear hst;try dsimp only
    refine hK.out _ _ ?_ (fun hHeld=>?_)
    ·(try simp only [World.cell?_drew]);exact HC.out y2 (ext_trans HB1.out HBc.out)
    clear hK K
    try simp only [Act.put,sA1,sA2,sA3,sA4,sA5,sA6]
    refine tkH (v:=?_) 7 rfl ?_ ?_;rotate_left 1
    ·intro wq hSw;(try dsimp only at hSw);go_simp;try (with_reducible rfl)
    try simp only [Act.put,sA1,sA2,sA3,sA4,sA5,sA6]
    refine tkH (v:=?_) 8 rfl ?_ ?_;rotate_left 1
    ·intro wq hSw;(try dsimp only at hSw);go_simp;try (with_reducible rfl)
    try simp only [Act.put,sA1,sA2,sA3,sA4,sA5,sA6]
    refine wpAnyH_ready (rs:=[12]) (by kernel_rfl) (by simp) ?_
    refine AllReadyH.cons (o:=_) rfl (fun K hK=>?_) AllReadyH.nil
    go_simp
    generalize hwN:World.alloc _ _=y3;have hst:Below y2.heap.size y2 y3:=(by rw [← hwN];exact ext_alloc (Below.refl _ _) _);have lb6:x1.heap.size≤y2.heap.size:=HBc.out.size;have HBn:=hidIt (ext_trans HBc.out hst);clear HBc;have HBc:=HBn;clear HBn;have Hn:=hidIt ((hst.block _ (Array.getElem?_eq_some_iff.1 H7.out).1).trans H7.out);clear H7;have H7:=Hn;clear Hn;have H6:Hid (y3.heap[y2.heap.size]?=some (.cells #[.int .i64 0] 3 (0,0))):=(by unfold Hid;rw [← hwN];exact heap_alloc_new _ _);clear hwN hst;clear ca cf ct c3;obtain ⟨ca,cf,ct,c3⟩:=HC.out y3 (ext_trans HB1.out HBc.out);(try clear z6 zf6);(try clear z7 zf7);have zf6:∀ i,y3.frozen? ⟨y2.heap.size,i,none⟩=false:=(fun i=>by simp [World.frozen?,H6.out]);have z6:y3.cell? ⟨y2.heap.size,0,none⟩=some (.int .i64 0):=(by rw [cell_of_row y3 _ _ _ _ _ H6.out];rfl);have zf7:∀ i,y3.frozen? ⟨x1.heap.size,i,none⟩=false:=(fun i=>by simp [World.frozen?,H7.out]);have z7:y3.cell? ⟨x1.heap.size,0,none⟩=some (.int .i64 0):=(by rw [cell_of_row y3 _ _ _ _ _ H7.out];rfl);have sz3:y2.heap.size < y3.heap.size:=(Array.getElem?_eq_some_iff.1 H6.out).1
    refine hK.out _ _ ?_ (fun hHeld=>?_)
    ·(try simp only [World.cell?_drew]);exact HC.out y3 (ext_trans HB1.out HBc.out)
    clear hK K
    try simp only [Act.put,sA1,sA2,sA3,sA4,sA5,sA6]
    refine wpAnyH_ready (rs:=[14]) (by kernel_rfl) (by simp) ?_
    refine AllReadyH.cons (o:=_) rfl (fun K hK=>?_) AllReadyH.nil
    go_simp
    generalize hwN:World.setCell _ _ _=y4;obtain ⟨p1,p2⟩:=set1 H6.out 0 (.int .i64 (f - base:Nat));rw [hwN] at p1 p2;(try clear z6 zf6);(try clear z7 zf7);have Hn:=hidIt ((p2.block x1.heap.size (Array.getElem?_eq_some_iff.1 H7.out).1 (by intro e;simp only [Option.some.injEq] at e;omega)).trans H7.out);clear H7;have H7:=Hn;clear Hn;clear H6;have H6:=hidIt p1;have HBn:=hidIt (below_put HBc.out HBc.out.size p2 lb6);clear HBc;have HBc:=HBn;clear HBn;clear hwN;have sz4:=p2.size;clear p1 p2;have zf7:∀ i,y4.frozen? ⟨x1.heap.size,i,none⟩=false:=(fun i=>by simp [World.frozen?,H7.out]);have z7:y4.cell? ⟨x1.heap.size,0,none⟩=some (.int .i64 0):=(by rw [cell_of_row y4 _ _ _ _ _ H7.out];rfl)
    refine hK.out _ _ ?_ (fun hHeld=>?_)
    ·(try simp only [World.cell?_drew]);exact HC.out y4 (ext_trans HB1.out HBc.out)
    clear hK K
    try simp only [Act.put,sA1,sA2,sA3,sA4,sA5,sA6]
    refine wpAnyH_ready (rs:=[15]) (by kernel_rfl) (by simp) ?_
    refine AllReadyH.cons (o:=_) rfl (fun K hK=>?_) AllReadyH.nil
    go_simp
    generalize hwN:World.setCell _ _ _=y5;obtain ⟨p1,p2⟩:=set1 H7.out 0 (.int .i64 (tz - f:Nat));rw [hwN] at p1 p2;(try clear z6 zf6);(try clear z7 zf7);have Hn:=hidIt ((p2.block y2.heap.size (Array.getElem?_eq_some_iff.1 H6.out).1 (by intro e;simp only [Option.some.injEq] at e;omega)).trans H6.out);clear H6;have H6:=Hn;clear Hn;clear H7;have H7:=hidIt p1;have HBn:=hidIt (below_put HBc.out HBc.out.size p2 lb7);clear HBc;have HBc:=HBn;clear HBn;clear hwN;have sz5:=p2.size;clear p1 p2;skip
    refine hK.out _ _ ?_ (fun hHeld=>?_)
    ·(try simp only [World.cell?_drew]);exact HC.out y5 (ext_trans HB1.out HBc.out)
    clear hK K
    try simp only [Act.put,sA1,sA2,sA3,sA4,sA5,sA6]
    refine wpAnyH_done (by kernel_rfl) ?_ _
    go_wp2_with fail
    go_meet
    case rel=>exact ⟨y2.heap.size,x1.heap.size,rfl,rfl,lb6,lb7,by omega,H6.out,H7.out,HBc.out⟩
   ·skip
    go_simp
    generalize hwN:World.alloc _ _=y2;have hst:Below y1.heap.size y1 y2:=(by rw [← hwN];exact ext_alloc (Below.refl _ _) _);have lb6:x1.heap.size≤y1.heap.size:=HBc.out.size;have HBn:=hidIt (ext_trans HBc.out hst);clear HBc;have HBc:=HBn;clear HBn;have Hn:=hidIt ((hst.block _ (Array.getElem?_eq_some_iff.1 H7.out).1).trans H7.out);clear H7;have H7:=Hn;clear Hn;have H6:Hid (y2.heap[y1.heap.size]?=some (.cells #[.int .i64 0] 3 (0,0))):=(by unfold Hid;rw [← hwN];exact heap_alloc_new _ _);clear hwN hst;clear ca cf ct c3;obtain ⟨ca,cf,ct,c3⟩:=HC.out y2 (ext_trans HB1.out HBc.out);(try clear z6 zf6);(try clear z7 zf7);have zf6:∀ i,y2.frozen? ⟨y1.heap.size,i,none⟩=false:=(fun i=>by simp [World.frozen?,H6.out]);have z6:y2.cell? ⟨y1.heap.size,0,none⟩=some (.int .i64 0):=(by rw [cell_of_row y2 _ _ _ _ _ H6.out];rfl);have zf7:∀ i,y2.frozen? ⟨x1.heap.size,i,none⟩=false:=(fun i=>by simp [World.frozen?,H7.out]);have z7:y2.cell? ⟨x1.heap.size,0,none⟩=some (.int .i64 0):=(by rw [cell_of_row y2 _ _ _ _ _ H7.out];rfl);have sz2:y1.heap.size < y2.heap.size:=(Array.getElem?_eq_some_iff.1 H6.out).1
    refine hK.out _ _ ?_ (fun hHeld=>?_)
    ·(try simp only [World.cell?_drew]);exact HC.out y2 (ext_trans HB1.out HBc.out)
    clear hK K
    try simp only [Act.put,sA1,sA2,sA3,sA4,sA5,sA6]
    refine wpAnyH_ready (rs:=[6]) (by kernel_rfl) (by simp) ?_
    refine AllReadyH.cons (o:=_) rfl (fun K hK=>?_) AllReadyH.nil
    go_simp
    refine (UP.out _ (ext_trans HB1.out HBc.out).drew).mono ?_;(try clear z6 zf6);(try clear z7 zf7);rintro e y3 ⟨⟨sa,ss,sb,sf,sc⟩,hs,rfl,hb⟩;obtain rfl:sa=(base:Int):=(congrArg Rs.a hs.out).trans HUA.out;have hst:Below y2.heap.size y2 y3:=ext_trans (Below.drew (Below.refl _ _)) hb;clear hb hs;have HBn:=hidIt (ext_trans HBc.out hst);clear HBc;have HBc:=HBn;clear HBn;have Hn:=hidIt ((hst.block _ (Array.getElem?_eq_some_iff.1 H6.out).1).trans H6.out);clear H6;have H6:=Hn;clear Hn;have Hn:=hidIt ((hst.block _ (Array.getElem?_eq_some_iff.1 H7.out).1).trans H7.out);clear H7;have H7:=Hn;clear Hn;clear ca cf ct c3;obtain ⟨ca,cf,ct,c3⟩:=HC.out y3 (ext_trans HB1.out HBc.out);(try clear z6 zf6);(try clear z7 zf7);have zf6:∀ i,y3.frozen? ⟨y1.heap.size,i,none⟩=false:=(fun i=>by simp [World.frozen?,H6.out]);have z6:y3.cell? ⟨y1.heap.size,0,none⟩=some (.int .i64 0):=(by rw [cell_of_row y3 _ _ _ _ _ H6.out];rfl);have zf7:∀ i,y3.frozen? ⟨x1.heap.size,i,none⟩=false:=(fun i=>by simp [World.frozen?,H7.out]);have z7:y3.cell? ⟨x1.heap.size,0,none⟩=some (.int .i64 0):=(by rw [cell_of_row y3 _ _ _ _ _ H7.out];rfl);have sz3:y2.heap.size≤y3.heap.size:=hst.size;clear hst;try dsimp only
    refine hK.out _ _ ?_ (fun hHeld=>?_)
    ·(try simp only [World.cell?_drew]);exact HC.out y3 (ext_trans HB1.out HBc.out)
    clear hK K
    try simp only [Act.put,sA1,sA2,sA3,sA4,sA5,sA6]
    refine tkH (v:=?_) 7 rfl ?_ ?_;rotate_left 1
    ·intro wq hSw;(try dsimp only at hSw);go_simp;try (with_reducible rfl)
    try simp only [Act.put,sA1,sA2,sA3,sA4,sA5,sA6]
    refine tkH (v:=?_) 8 rfl ?_ ?_;rotate_left 1
    ·intro wq hSw;(try dsimp only at hSw);go_simp;try (with_reducible rfl)
    try simp only [Act.put,sA1,sA2,sA3,sA4,sA5,sA6]
    refine wpAnyH_ready (rs:=[14]) (by kernel_rfl) (by simp) ?_
    refine AllReadyH.cons (o:=_) rfl (fun K hK=>?_) AllReadyH.nil
    go_simp
    generalize hwN:World.setCell _ _ _=y4;obtain ⟨p1,p2⟩:=set1 H6.out 0 (.int .i64 (f - base:Nat));rw [hwN] at p1 p2;(try clear z6 zf6);(try clear z7 zf7);have Hn:=hidIt ((p2.block x1.heap.size (Array.getElem?_eq_some_iff.1 H7.out).1 (by intro e;simp only [Option.some.injEq] at e;omega)).trans H7.out);clear H7;have H7:=Hn;clear Hn;clear H6;have H6:=hidIt p1;have HBn:=hidIt (below_put HBc.out HBc.out.size p2 lb6);clear HBc;have HBc:=HBn;clear HBn;clear hwN;have sz4:=p2.size;clear p1 p2;have zf7:∀ i,y4.frozen? ⟨x1.heap.size,i,none⟩=false:=(fun i=>by simp [World.frozen?,H7.out]);have z7:y4.cell? ⟨x1.heap.size,0,none⟩=some (.int .i64 0):=(by rw [cell_of_row y4 _ _ _ _ _ H7.out];rfl)
    refine hK.out _ _ ?_ (fun hHeld=>?_)
    ·(try simp only [World.cell?_drew]);exact HC.out y4 (ext_trans HB1.out HBc.out)
    clear hK K
    try simp only [Act.put,sA1,sA2,sA3,sA4,sA5,sA6]
    refine wpAnyH_ready (rs:=[15]) (by kernel_rfl) (by simp) ?_
    refine AllReadyH.cons (o:=_) rfl (fun K hK=>?_) AllReadyH.nil
    go_simp
    generalize hwN:World.setCell _ _ _=y5;obtain ⟨p1,p2⟩:=set1 H7.out 0 (.int .i64 (tz - f:Nat));rw [hwN] at p1 p2;(try clear z6 zf6);(try clear z7 zf7);have Hn:=hidIt ((p2.block y1.heap.size (Array.getElem?_eq_some_iff.1 H6.out).1 (by intro e;simp only [Option.some.injEq] at e;omega)).trans H6.out);clear H6;have H6:=Hn;clear Hn;clear H7;have H7:=hidIt p1;have HBn:=hidIt (below_put HBc.out HBc.out.size p2 lb7);clear HBc;have HBc:=HBn;clear HBn;clear hwN;have sz5:=p2.size;clear p1 p2;skip
    refine hK.out _ _ ?_ (fun hHeld=>?_)
    ·(try simp only [World.cell?_drew]);exact HC.out y5 (ext_trans HB1.out HBc.out)
    clear hK K
    try simp only [Act.put,sA1,sA2,sA3,sA4,sA5,sA6]
    refine wpAnyH_done (by kernel_rfl) ?_ _
    go_wp2_with fail
    go_meet
    case rel=>exact ⟨y1.heap.size,x1.heap.size,rfl,rfl,lb6,lb7,by omega,H6.out,H7.out,HBc.out⟩
 obtain ⟨b6,b7,rfl,rfl,H67⟩:=hcut
 obtain ⟨x2,rfl⟩:∃ x2,x2=wc:=⟨_,rfl⟩
 have HB2:=hidIt (ext_trans HB1.out H67.out.2.2.2.2.2)
 obtain ⟨ca,cf,ct,c3⟩:=HC.out x2 HB2.out
 have HK42:=hidIt ((H67.out.2.2.2.2.2.block _ (Array.getElem?_eq_some_iff.1 HK41.out).1).trans HK41.out)
 have IT:=hidIt (Items_any u i i x2 (by omega))
 clear FD UP HUA HK41 HK4 hwf hwi hwb hwl
 go_upto_block 0 with (go_at_call 60;refine IT.out.mono ?_;rintro e v4 ⟨rfl,hv4⟩;have HV4:=hidIt hv4;clear hv4;(try dsimp only))
 clear ca cf ct c3 IT
 have hv4s:v4.heap.size=x2.heap.size + 2:=by rw [HV4.out];simp
 have HB4:Hid (Below x2.heap.size x2 v4):=by unfold Hid;rw [HV4.out];exact ext_alloc (ext_alloc (Below.refl _ _) _) _
 have hA4:v4.heap[x2.heap.size]?=some (.cells #[.pointer u] 114 (0,0)):=by
  rw [HV4.out]
  exact (Below.heap_alloc _ _ _ (by simp)).trans (heap_alloc_new _ _)
 have hB4:v4.heap[x2.heap.size + 1]?=some (.cells #[.int .i64 (i:Nat)] 3 (0,0)):=by
  rw [HV4.out]
  have e:x2.heap.size + 1=(x2.alloc (.cells #[.pointer u] 114)).heap.size:=by simp
  rw [e]
  exact heap_alloc_new _ _
 have HB4W:=hidIt (ext_trans HB2.out HB4.out)
 have HB4T:=hidIt (ext_trans HBW.out HB4W.out)
 obtain ⟨u',tr,hu,htin,hlst,_⟩:=(show TT wT (.agg #[.pointer u]) (xsOf ps) from by
  obtain ⟨lv',u'',⟨_,_,_,c3'⟩,_,ht',ht2⟩:=HT.out.cells
  have e:=(HC.out W (Below.refl _ _)).2.2.2
  rw [HBW.out.cell (p:=⟨t,3,none⟩) ht2,c3'] at e
  cases e
  exact ht')
 simp only [Value.agg.injEq,Array.mk.injEq,List.cons.injEq,Value.pointer.injEq,and_true] at hu
 subst hu
 have HTI:=hidIt htin
 have HLS:=hidIt hlst
 clear htin hlst
 have z1:=HB1.out.size
 have z2:=H67.out.2.2.2.2.2.size
 have zb:=HBW.out.size
 have zs:=HSEP.out
 have zs1:=HS1.out
 have zs0:=(Array.getElem?_eq_some_iff.1 HK42.out).1
 have l67:x1.heap.size≤b6∧x1.heap.size≤b7∧b6≠b7:=⟨H67.out.1,H67.out.2.1,H67.out.2.2.1⟩
 have m6:=(Array.getElem?_eq_some_iff.1 H67.out.2.2.2.1).1
 have m7:=(Array.getElem?_eq_some_iff.1 H67.out.2.2.2.2.1).1
 have z0:W.heap.size < x1.heap.size:=Nat.lt_of_lt_of_le HZ0.out zs1
 obtain ⟨hold,hhold⟩:∃ hold:Nat→Prop,hold=fun k=>k < wT.heap.size∨k=ba∨k=bf∨k=bt∨k=W.heap.size:=⟨_,rfl⟩
 have HHO:Hid (∀ k,hold k ↔ (k < wT.heap.size∨k=ba∨k=bf∨k=bt∨k=W.heap.size)):=fun k=>by rw [hhold]
 have hhl:∀ k,hold k→k < x1.heap.size:=fun k hk=>by have:=(HHO.out k).1 hk;omega
 clear hhold
 have SQ:=hidIt (items_stops 8 tr u i v4 x2.heap.size (x2.heap.size + 1) wT.heap.size HB4T.out.size (by omega) (by omega) wT rfl HB4T.out HTI.out (by rw [HLS.out,xsOf_len];omega) (by omega) hA4 hB4)
 -- the end,whichever it is
 have FIN:Hid (∀ (s':σ) (W' W2:World),Kps (btO G b6 b7 s) v4 W'→Newer (btO G b6 b7) s s' v4→¬ btO G b6 b7 s' v4.heap.size→(W2.os=W'.os∧W2.tape=W'.tape∧W2.output=W'.output∧W2.heap.size=W'.heap.size∧∀ k,k≠v4.heap.size→W2.heap[k]?=W'.heap[k]?)→(G.J s' (btw enc ps f tz) W'∨∃ q,q <+: btw enc ps f tz∧G.Jx s' q W') →
   ∃ s',Kps (G.own s) W W2∧Newer G.own s s' W∧((∃ xs,xs=btw enc ps f tz∧G.J s' xs W2)∨(∃ pre,pre <+: btw enc ps f tz∧G.Jx s' pre W2))):=fun s' W' W2 hk hnw hno h2 hJ=>by
  obtain ⟨e1,e2,e3,e4,e5⟩:=h2
  have zk:=hk.size
  have zw:=HB4W.out.size
  have hst:∀ k,G.own s' k∨G.lean k→W2.heap[k]?=W'.heap[k]?:=fun k ho=>e5 k (fun e=>by
   subst e
   rcases ho with ho | ho
   ·exact hno (.inl ho)
   ·have:=HLN.out _ ho;omega)
  refine ⟨s',⟨e1.trans (hk.os.trans HB4W.out.os),e2.trans (hk.tape.trans HB4W.out.tape),e3.trans (hk.output.trans HB4W.out.output),by omega,fun k h1 h2=>?_⟩,fun k ho=>?_,?_⟩
  ·refine (e5 k (by omega)).trans ((hk.same k (by omega) ?_).trans (HB4W.out.block k h1))
   rintro (h | h | h)
   ·exact h2 h
   ·omega
   ·omega
  ·rcases hnw k (.inl ho) with (h | h | h) | h
   ·exact .inl h
   ·exact .inr (by omega)
   ·exact .inr (by omega)
   ·exact .inr (by omega)
  ·rcases hJ with hJ | ⟨q,hq,hJ⟩
   ·exact .inl ⟨_,rfl,G.stay s' _ W' W2 hJ (by omega) hst⟩
   ·exact .inr ⟨q,hq,G.stayx s' _ W' W2 hJ (by omega) hst⟩
 refine (wpIn_wide (n:=9)).1 ?_
 gi_wp2_with fail
 refine range_y (σ:=σ) rfl (by omega) (gf:=97) (lb:=#[.pointer (some ⟨x2.heap.size,0,none⟩),.pointer (some ⟨x2.heap.size + 1,0,none⟩)]) rfl trivial (enters_of Tryz.func97 (by kernel_rfl) rfl) SQ.out (Kps.refl _ _) (fun _=>rfl)
  (btO G b6 b7) (fun s1 pre V1=>BtI G enc ps f tz i base b6 b7 hold v4 s1 pre V1) (fun c s1 _ V1=>BtX G enc ps f tz c s1 V1) s ?rel (fun k=>G.lean k∨hold k) ?hln (fun _ _ _ _ h hz hk=>h.same hz hk) (fun _ _ _ _ _ h hz hk=>BtX.same h hz hk) (fun _ _ _ h=>h.lives) ?h0
  (fun s1 x a' V1=>∃ g5,v4.heap.size + 2≤g5∧BlkI V1 g5 x∧(∀ k,btO G b6 b7 s1 k→k≠g5)∧a'={ tmps:=#[.func (.yield l) #[] #[],.pointer (some ⟨ba,0,none⟩),.pointer (some ⟨bf,0,none⟩),.pointer (some ⟨bt,0,none⟩),.pointer (some ⟨W.heap.size,0,none⟩),.int .i64 i,.pointer (some ⟨b6,0,none⟩),.pointer (some ⟨b7,0,none⟩),.pointer (some ⟨g5,0,none⟩),undef,undef,undef,.pointer (some ⟨t,0,none⟩),.pointer (some ⟨t,0,none⟩),.pointer (some ⟨t,3,none⟩),.agg #[.pointer u],.int .i64 f,.int .i64 ((f:Int) + 1),.int .i64 ((i + 1:Nat):Int),.int .i64 i,u20,u21,u22,u23,u24,u25,u26,u27,u28,u29,u30,u31,.pointer (some ⟨t,0,none⟩),.pointer (some ⟨t,0,none⟩),.pointer (some ⟨t,3,none⟩),.agg #[.pointer u],.int .i64 i,.func (.func 97) #[] #[.pointer (some ⟨x2.heap.size,0,none⟩),.pointer (some ⟨x2.heap.size + 1,0,none⟩)],.agg #[.slice x.p x.n x.c,.int .i64 x.pl,.int .i64 x.sp.a,.int .i64 x.sp.s,.int .i64 x.sp.b,.bool x.sp.lf,.bool x.sp.cr],undef,undef,undef,undef,undef,undef,undef,undef,undef,undef,undef,undef,undef,undef,undef,undef,undef,undef,undef,undef,undef,undef,undef,undef,undef,undef,undef,undef,undef,undef,undef,undef,undef,undef,undef,undef,undef],defers:=[] }) ?hAx ?assign ?body ?done ?stop
 case rel =>
  intro k hk
  have hnew:∀ k,btO G b6 b7 s k→(G.own s k∧k < W.heap.size)∨x1.heap.size≤k:=fun k h=>by
   rcases h with h | h | h
   ·exact .inl ⟨h,HOW.out k h⟩
   ·exact .inr (by omega)
   ·exact .inr (by omega)
  rcases hk with hk | hk | hk
  ·refine ⟨by omega,fun h=>?_⟩
   rcases hnew k h with ⟨h1,_⟩ | h1
   ·exact (HRL.out k (.inl hk)).2 h1
   ·omega
  ·refine ⟨by omega,fun h=>?_⟩
   rcases h with h | h | h
   ·have:=HOW.out k h;omega
   ·omega
   ·omega
  ·refine ⟨by omega,fun h=>?_⟩
   rcases h with h | h | h
   ·have:=HOW.out k h;omega
   ·omega
   ·omega
 case hln =>
  intro k hk
  rcases hk with hk | hk
  ·have:=HLN.out k hk;omega
  ·have:=hhl k hk;omega
 case h0 =>
  refine ⟨by simp [xsOf],by simp;exact hil,?_,?_,?_,?_,?_,fun _ _=>rfl⟩
  ·simp only [List.length_nil,Nat.add_zero];rw [← HBS.out];omega
  ·have e:told enc ps f (i + ([]:List It).length) 0=[]:=by
    unfold told
    simp only [List.length_nil,Nat.add_zero]
    rw [← HBS.out,List.drop_eq_nil_of_le (by rw [List.length_take];omega)]
   rw [e]
   exact G.stay s [] W v4 HJ.out HB4W.out.size (fun k ho=>HB4W.out.block k (ho.elim (HOW.out k) (HLN.out k)))
  ·intro k hk
   have:=HOW.out k hk
   refine ⟨by omega,by omega,fun hh=>?_⟩
   rcases (HHO.out k).1 hh with h | h | h | h | h
   ·exact (HRL.out k (.inl h)).2 hk
   ·exact (HRL.out k (.inr (.inl h))).2 hk
   ·exact (HRL.out k (.inr (.inr (.inl h)))).2 hk
   ·exact (HRL.out k (.inr (.inr (.inr h)))).2 hk
   ·omega
  ·exact (HB4.out.block _ m6).trans H67.out.2.2.2.1
  ·simp only [List.length_nil,Nat.add_zero]
   rw [← HBS.out,Nat.max_eq_left hbf]
   exact (HB4.out.block _ m7).trans H67.out.2.2.2.2.1
 case hAx =>
  rintro s1 x a' V1 V2 ⟨g5,h1,h2,h3,h4⟩ hz hk
  exact ⟨g5,h1,h2.same9 (hk g5 h1 h2.lt),h3,h4⟩
 case assign =>
  intro l' s1 pre x V1 K hI hz hK
  gi_wp2_with fail
  exact hK _ _ (ext_alloc (Below.refl _ _) _) ⟨V1.heap.size,hz,heap_alloc_new _ _,fun k hk=>by have:=hI.lives k hk;omega,rfl⟩
 case body =>
  rintro l' s1 pre x a' V1 hI ⟨g5,hg5,hx5,hog,rfl⟩ hSp hzW
  refine wpIn_block ?_
  obtain ⟨z,hz⟩:=hSp
  rw [HLS.out] at hz
  obtain ⟨k0,hk0⟩:∃ k0,k0=i + pre.length:=⟨_,rfl⟩
  have hxj:∃ gx,ps[k0]?=some (x,gx):=by
   have e:=congrArg (fun q=>q[pre.length]?) hz
   rw [List.append_assoc,List.getElem?_append_right (Nat.le_refl _),Nat.sub_self] at e
   simp only [List.cons_append,List.getElem?_cons_zero,xsOf,List.getElem?_drop,List.getElem?_map] at e
   rw [← hk0] at e
   cases hp:ps[k0]? with
   | none=>rw [hp] at e;cases e
   | some q=>rw [hp] at e;simp only [Option.map_some,Option.some.injEq] at e;exact ⟨q.2,by rw [e]⟩
  obtain ⟨gx,hgx⟩:=hxj
  obtain ⟨pos,hpos⟩:∃ pos,pos=(sh enc (ps.take k0)).length:=⟨_,rfl⟩
  obtain ⟨ins,hins⟩:∃ ins:Nat,ins=if pre.length=0 then f - base else 0:=⟨_,rfl⟩
  have hpk:pos + gx.length≤(sh enc ps).length:=by
   have e:=(sh_part enc ps (k0 + 1)).length_le
   rw [sh_succ hgx,List.length_append,ctn_len,← hpos] at e
   exact e
  have hgx2:gx.length≤ln enc gx:=ln_ge enc gx
  have hinsl:ins≤gx.length∧max f pos=pos + ins:=by
   rw [hins]
   by_cases hp0:pre.length=0
   ·rw [if_pos hp0]
    have e0:k0=i:=by omega
    rw [e0] at hpos hgx
    have:=HIG.out x gx hgx
    rw [← HBS.out] at this hpos
    omega
   ·rw [if_neg hp0]
    refine ⟨Nat.zero_le _,?_⟩
    obtain ⟨kk,hkk⟩:∃ kk,k0=i + kk + 1:=⟨k0 - i - 1,by omega⟩
    have hlt:i < ps.length:=by have:=(List.getElem?_eq_some_iff.1 hgx).1;omega
    have hq:=HIG.out ps[i].1 ps[i].2 (List.getElem?_eq_getElem hlt)
    have e1:(sh enc (ps.take (i + 1))).length≤pos:=by
     rw [hpos]
     have:ps.take (i + 1) <+: ps.take k0:=List.take_prefix_take_left (by omega)
     obtain ⟨r,hr⟩:=this
     rw [← hr,sh_app,List.length_append]
     omega
    rw [sh_succ (x:=ps[i].1) (g:=ps[i].2) (List.getElem?_eq_getElem hlt),List.length_append,ctn_len,← HBS.out] at e1
    rw [← HBS.out] at hq
    omega
  have HPT:Hid (told enc ps f k0 0=told enc ps f k0 ins):=by
   unfold Hid
   by_cases hi0:ins=0
   ·rw [hi0]
   ·have hm:max f pos=f:=by have:=hinsl.2;omega
    have hm2:=hinsl.2
    unfold told
    rw [← hpos,List.drop_eq_nil_of_le (by rw [List.length_take];omega),List.drop_eq_nil_of_le (by rw [List.length_take];omega)]
  have hlT:∀ k,G.lean k→k < V1.heap.size:=fun k hk=>by have:=HLN.out k hk;omega
  have hhV:∀ k,hold k→k < V1.heap.size:=fun k hk=>by have:=hhl k hk;omega
  have HLT:=hidIt hlT
  have HHV:=hidIt hhV
  have HBS2:Hid (BtS G b6 b7 g5 hold):=⟨l67.2.2,by omega,by omega,fun h=>by have:=hhl _ h;omega,fun h=>by have:=hhl _ h;omega,fun k hk=>by have:=HLN.out k hk;omega⟩
  have HL0:Hid (BtL G b6 b7 g5 hold v4 x s1 V1 (told enc ps f k0 ins) ins (tz - (pos + ins)) s1 V1):=by
   refine ⟨?_,hI.ap,fun k hk=>hog k (.inl hk),?_,?_,hI.hd,hx5,Kps.refl _ _,fun k hk=>.inl hk⟩
   ·rw [← HPT.out,hk0];exact hI.j
   ·rw [hins];exact hI.ins
   ·rw [← hinsl.2,hpos,hk0];exact hI.lft
  have HPC:Hid (∀ Wx:World,(∀ k,hold k→Wx.heap[k]?=v4.heap[k]?)→Pc enc L Wx x gx):=fun Wx h=>(HT.out.pc (x,gx) (List.mem_of_getElem? hgx)).same (fun b hb=>(h b ((HHO.out b).2 (.inl hb.lt))).trans (HB4T.out.block b hb.lt))
  have HCH:Hid (∀ Wx:World,(∀ k,hold k→Wx.heap[k]?=v4.heap[k]?)→Wx.cell? ⟨ba,0,none⟩=some (.pointer (some ⟨t,0,none⟩))∧Wx.cell? ⟨t,0,none⟩=some (.int .i64 enc)∧Wx.cell? ⟨W.heap.size,0,none⟩=some (.func (.yield l) #[] #[])):=fun Wx h=>by
   refine ⟨?_,?_,?_⟩
   ·rw [cell_of_row Wx _ _ _ _ _ ((h ba ((HHO.out ba).2 (.inr (.inl rfl)))).trans ((HB4W.out.block ba zs.1).trans HHE.out.1))];rfl
   ·obtain ⟨_,_,⟨e0,_⟩,_⟩:=HT.out.cells
    rw [cell_same (h t ((HHO.out t).2 (.inl htlT)))]
    exact (HB4T.out.cell (p:=⟨t,0,none⟩) htlT).trans e0
   ·rw [cell_of_row Wx _ _ _ _ _ ((h _ ((HHO.out _).2 (.inr (.inr (.inr (.inr rfl)))))).trans ((HB4.out.block _ zs0).trans HK42.out))];rfl
  have hgr:=(HPC.out V1 hI.hd).gr
  have HGR:=hidIt hgr
  have hgl:ln enc gx≤65536:=by
   have h1:=HT.out.sz
   have e:asOf ps=asOf (ps.take k0) ++ (gx ++ asOf (ps.drop (k0 + 1))):=by
    conv=>lhs;rw [← List.take_append_drop k0 ps,drop_of hgx]
    rw [asOf_app];simp [asOf]
   rw [e,ln_app,ln_app] at h1
   omega
  have hpt:pos≤tz:=by rw [hpos,hk0];exact hI.le
  have SK:Hid (∀ Wx,Below V1.heap.size V1 Wx→Calls Tryz.prog 100 #[.agg #[.slice x.p x.n x.c,.int .i64 x.pl,.int .i64 x.sp.a,.int .i64 x.sp.s,.int .i64 x.sp.b,.bool x.sp.lf,.bool x.sp.cr],.int .i64 enc,.int .i64 ins] Wx fun e w'=>e=.returned (.int .i64 (ln enc (gx.take ins):Nat))∧Below Wx.heap.size Wx w'):=fun Wx hb=>by
   have hp:=(HPC.out V1 hI.hd).ext hb
   have h:=skip_any enc HT.out.en x (Cx.encB enc gx) ins Wx (hp.rd (by omega)) hgr.byt (by show ln enc gx≤_;omega) (by rw [hp.sp,(spn_a enc gx hgr.fit).1,hgr.dec]) (by rw [hgr.dec];exact hinsl.1)
   rwa [off_gr hgr] at h
  obtain ⟨q1,q2,q3⟩:=HCH.out V1 hI.hd
  have cx:=hx5.cells.1
  have c6:V1.cell? ⟨b6,0,none⟩=some (.int .i64 ins):=by rw [cell_of_row V1 _ _ _ _ _ HL0.out.inb];rfl
  have HI:=hidIt hI
  have HGX:=hidIt hgx
  have HPOS:=hidIt hpos
  have HK0:=hidIt hk0
  have HIN:=hidIt hinsl
  clear hI hgx hpos hk0 hins hz hlT hhV hgr hog
  refine wpIn_seq ?_
  refine wpIn_seq ?_
  refine wpIn_heldC (S:=fun w''=>(w''.cell? ⟨g5,0,none⟩=some (.slice x.p x.n x.c)∧w''.cell? ⟨g5,1,none⟩=some (.int .i64 x.pl)∧w''.cell? ⟨g5,2,none⟩=some (.int .i64 x.sp.a)∧w''.cell? ⟨g5,3,none⟩=some (.int .i64 x.sp.s)∧w''.cell? ⟨g5,4,none⟩=some (.int .i64 x.sp.b)∧w''.cell? ⟨g5,5,none⟩=some (.bool x.sp.lf)∧w''.cell? ⟨g5,6,none⟩=some (.bool x.sp.cr))∧w''.cell? ⟨ba,0,none⟩=some (.pointer (some ⟨t,0,none⟩))∧w''.cell? ⟨t,0,none⟩=some (.int .i64 enc)∧w''.cell? ⟨b6,0,none⟩=some (.int .i64 ins)) ?nd (fun ⟨a,w,h⟩=>h) (by kernel_rfl) (by simp only [World.cell?_drew];exact ⟨cx,q1,q2,c6⟩) (fun hHeld=>?_)
  case nd =>
   intro i o h
   rcases i with _ | _ | _ | _ | _ | _ | _ | _ | i
   all_goals first | (obtain rfl:=Option.some.inj h;intro c hc;cases hc) | (simp at h)
  refine tkH (v:=?_) 0 rfl ?_ ?_;rotate_left 1
  ·intro wq hSw;(try dsimp only at hSw);go_simp;try (with_reducible rfl)
  try simp only [Act.put,sA1,sA3,sA4,sA5,sA6]
  refine tkH (v:=?_) 1 rfl ?_ ?_;rotate_left 1
  ·intro wq hSw;(try dsimp only at hSw);go_simp;try (with_reducible rfl)
  try simp only [Act.put,sA1,sA2,sA3,sA4,sA5,sA6]
  refine tkH (v:=?_) 2 rfl ?_ ?_;rotate_left 1
  ·intro wq hSw;(try dsimp only at hSw);go_simp;try (with_reducible rfl)
  try simp only [Act.put,sA1,sA2,sA3,sA4,sA5,sA6]
  refine tkH (v:=?_) 3 rfl ?_ ?_;rotate_left 1
  ·intro wq hSw;(try dsimp only at hSw);go_simp;try (with_reducible rfl)
  try simp only [Act.put,sA1,sA2,sA3,sA4,sA5,sA6]
  refine tkH (v:=?_) 4 rfl ?_ ?_;rotate_left 1
  ·intro wq hSw;(try dsimp only at hSw);go_simp;try (with_reducible rfl)
  try simp only [Act.put,sA1,sA2,sA3,sA4,sA5,sA6]
  refine tkH (v:=?_) 5 rfl ?_ ?_;rotate_left 1
  ·intro wq hSw;(try dsimp only at hSw);go_simp;try (with_reducible rfl)
  try simp only [Act.put,sA1,sA2,sA3,sA4,sA5,sA6]
  refine wpAnyH_ready (rs:=[6]) (by kernel_rfl) (by simp) ?_
  refine AllReadyH.cons (o:=_) rfl (fun K hK=>?_) AllReadyH.nil
  go_simp
  refine (SK.out _ (Below.drew (Below.refl _ _))).mono ?_;clear q1 q2 q3 cx c6;rintro e V2 ⟨rfl,hb⟩;have HL2:=hidIt (HL0.out.call (ext_trans (Below.drew (Below.refl V1.heap.size V1)) hb) HLT.out HHV.out);clear hb;obtain ⟨q1,q2,q3⟩:=HCH.out V2 HL2.out.hd;have cx:=HL2.out.bx.cells.1;have c6:V2.cell? ⟨b6,0,none⟩=some (.int .i64 ins):=(by rw [cell_of_row V2 _ _ _ _ _ HL2.out.inb];rfl);try dsimp only
  refine hK.out _ _ ?_ (fun hHeld=>?_)
  ·(try simp only [World.cell?_drew]);exact ⟨cx,q1,q2,c6⟩
  clear hK K
  try simp only [Act.put,sA1,sA2,sA3,sA4,sA5,sA6]
  refine tkH (v:=?_) 7 rfl ?_ ?_;rotate_left 1
  ·intro wq hSw;(try dsimp only at hSw);go_simp;try (with_reducible rfl)
  try simp only [Act.put,sA1,sA2,sA3,sA4,sA5,sA6]
  refine wpAnyH_done (by kernel_rfl) ?_ _
  change Code.wpIn _ _ _ _ _ _ _
  clear q1 q2 q3 cx c6
  obtain ⟨N,hN⟩:∃ N,N=ln enc gx:=⟨_,rfl⟩
  have HN:=hidIt hN
  have hNl:N≤65536:=by rw [hN];exact hgl
  clear hN
  refine wpIn_block ?_
  gi_loopw [9] (fun v wr=>∃ (m:Nat) (s2:σ),v=.int .i64 (ln enc (gx.take m):Nat)∧m≤gx.length∧pos + m≤tz∧f≤pos + m∧Hid (BtL G b6 b7 g5 hold v4 x s1 V1 (told enc ps f k0 m) ins (tz - (pos + m)) s2 wr)) (fun v _=>btMu N v)
  case atStart=>exact ⟨ins,s1,rfl,HIN.out.1,by have:=HIN.out.2;omega,by have:=HIN.out.2;omega,HL2.out⟩
  case round =>
   obtain ⟨m,s2,rfl,hm,hmt,hfm,HL⟩:=hrel
   have cx:=HL.out.bx.cells.1
   have xnc:x.n=N∧x.c=N:=by have h:=HPC.out wr HL.out.hd;exact ⟨h.xn.trans HN.out.symm,h.xc.trans HN.out.symm⟩
   rw [xnc.1,xnc.2] at cx
   obtain ⟨q1,q2,q3⟩:=HCH.out wr HL.out.hd
   have c6:wr.cell? ⟨b6,0,none⟩=some (.int .i64 ins):=by rw [cell_of_row wr _ _ _ _ _ HL.out.inb];rfl
   have c7:wr.cell? ⟨b7,0,none⟩=some (.int .i64 (tz - (pos + m):Nat)):=by rw [cell_of_row wr _ _ _ _ _ HL.out.lft];rfl
   have f6:∀ i,wr.frozen? ⟨b6,i,none⟩=false:=fun i=>by simp [World.frozen?,HL.out.inb]
   obtain ⟨off,hoff⟩:∃ o,o=ln enc (gx.take m):=⟨_,rfl⟩
   rw [← hoff]
   by_cases hmg:m < gx.length
   ·obtain ⟨a,ha⟩:∃ a,gx[m]?=some a:=⟨_,List.getElem?_eq_getElem hmg⟩
    have hst:off < N:=by
     have e:=ln_take_drop enc gx m
     rw [drop_of ha,ln_cons,← hoff,← HN.out] at e
     have:=(Cx.put_len enc a).1
     omega
    have hlt:(off:Int) < (N:Int):=by omega
    by_cases hl0:tz=pos + m
    ·have e0:tz - (pos + m)=0:=by omega
     rw [e0] at c7
     gi_wp2_with fail
     exact ⟨s2,⟨rfl,.inl (by rw [← told_all (k:=k0) (m:=m) (by rw [← HPOS.out];omega)];exact HL.out.j)⟩,HL.out.kp,HL.out.nw⟩
    ·obtain ⟨lf,hlf⟩:∃ lf,tz - (pos + m)=lf + 1:=⟨tz - (pos + m) - 1,by omega⟩
     have HLF:=hidIt hlf
     rw [hlf] at c7 HL
     have hl1:(((lf + 1:Nat):Int) == 0)=false:=by simp;omega
     have hl2:¬ ((lf:Int) + 1=0):=by omega
     clear hlf hl0 c6 f6
     obtain ⟨sz,hsz⟩:∃ sz,sz=ln enc [a]:=⟨_,rfl⟩
     have hnx:ln enc (gx.take (m + 1))=off + sz:=by rw [List.take_add_one,ha,Option.toList_some,ln_app,← hoff,hsz]
     have hsz1:1≤sz:=by rw [hsz,ln_one];exact (Cx.put_len enc a).1
     have NX:Hid (∀ Wx,Below wr.heap.size wr Wx→Calls Tryz.prog 52 #[.int .i64 enc,.slice x.p N N,.int .i64 off] Wx fun e w'=>e=.returned (.tuple #[.int .i64 a,.int .i64 sz])∧Below Wx.heap.size Wx w'):=fun Wx hb=>by
      have hp:=(HPC.out wr HL.out.hd).ext hb
      have hrd:=hp.rd (by omega)
      rw [xnc.1,xnc.2] at hrd
      have hzl:(Cx.encB enc gx).length=N:=HN.out.symm
      have h:=Next_any enc HT.out.en (.slice x.p N N) (Cx.encB enc gx) off Wx hrd hp.gr.byt (by rw [hzl];exact hst)
      obtain ⟨_,a',s',e1,e2,e3,_⟩:=off_step enc HT.out.en (Cx.encB enc gx) hp.gr.byt m (by rw [hp.gr.dec];exact hmg)
      rw [off_gr hp.gr,← hoff] at e1
      rw [off_gr hp.gr,off_gr hp.gr,hnx,← hoff] at e3
      rw [hp.gr.dec,ha] at e2
      cases e2
      rw [e1] at h
      obtain rfl:s'=sz:=by omega
      exact h
     have HNXT:=hidIt hnx
     have HA:=hidIt ha
     have HOFF:=hidIt hoff
     have cx0:=HL.out.bx.cells.1
     have hwo:IntKind.i64.wrap ((off:Int) + (sz:Int))=((off + sz:Nat):Int):=by
      have e:=ln_take_drop enc gx (m + 1)
      rw [hnx,← HN.out] at e
      rw [IntKind.wrap_i64]
      omega
     have hlow:=(HPC.out wr HL.out.hd).low
     have hend:=(HPC.out wr HL.out.hd).end HT.out.en HT.out.by'
     have hLl:=HT.out.ll
     have TG:Hid (∀ Wx,Calls Tryz.prog 101 #[.agg #[.slice x.p N N,.int .i64 x.pl,.int .i64 x.sp.a,.int .i64 x.sp.s,.int .i64 x.sp.b,.bool x.sp.lf,.bool x.sp.cr],.int .i64 off] Wx fun e w'=>e=.returned (.int .i64 (tg x.pl off))∧Below Wx.heap.size Wx w'):=fun Wx=>by
      have h:=tag_any x off Wx hlow (by omega) (by rw [← HN.out] at hend;omega)
      rwa [xnc.1,xnc.2] at h
     obtain ⟨tgv,htgv⟩:∃ v,v=tg x.pl (off:Nat):=⟨_,rfl⟩
     rw [← htgv] at TG
     have hts:=told_snoc (enc:=enc) (f:=f) HGX.out hlow ha (by rw [← HPOS.out];exact hfm)
     rw [← hoff,← htgv] at hts
     have HTS:=hidIt hts
     have HYD:Hid (∀ W5,G.J s2 (told enc ps f k0 m) W5→YieldAt Fence.wide 6 Tryz.prog l #[.int .i64 a,.int .i64 tgv] W5 fun e W'=>(e=.returned (.bool true)∧∃ s',G.J s' (told enc ps f k0 (m + 1)) W'∧Kps (G.own s2) W5 W'∧Newer G.own s2 s' W5)∨(e=.returned (.bool false)∧∃ s',G.Jx s' (told enc ps f k0 (m + 1)) W'∧Kps (G.own s2) W5 W'∧Newer G.own s2 s' W5)):=fun W5 hj=>by
      rw [hts]
      exact yield_any 6 (HYY.out s2 _ (a,tgv) W5 hj (by rw [← hts];exact told_pre (by rw [← HPOS.out];have:=HLF.out;omega)))
     have hwlf:IntKind.i64.wrap (lf:Int)=(lf:Int):=by rw [IntKind.wrap_i64];have:=HLF.out;omega
     clear hts htgv
     clear hnx ha hoff hlow hend hsz
     gi_wp2_with fail
     refine wpIn_heldC (S:=fun w''=>w''.cell? ⟨g5,0,none⟩=some (.slice x.p N N)∧w''.cell? ⟨ba,0,none⟩=some (.pointer (some ⟨t,0,none⟩))∧w''.cell? ⟨t,0,none⟩=some (.int .i64 enc)) ?nd (fun ⟨a,w,h⟩=>h) (by kernel_rfl) (by simp only [World.cell?_drew];exact ⟨cx.1,q1,q2⟩) (fun hHeld=>?_)
     case nd =>
      intro i o h
      rcases i with _ | _ | _ | _ | _ | _ | _ | _ | _ | _ | _ | _ | _ | i
      all_goals first | (obtain rfl:=Option.some.inj h;intro c hc;cases hc) | (simp at h)
     refine tkH (v:=?_) 0 rfl ?_ ?_;rotate_left 1
     ·intro wq hSw;(try dsimp only at hSw);go_simp;try (with_reducible rfl)
     try simp only [Act.put,sA1,sA3,sA4,sA5,sA6]
     refine tkH (v:=?_) 1 rfl ?_ ?_;rotate_left 1
     ·intro wq hSw;(try dsimp only at hSw);go_simp;try (with_reducible rfl)
     try simp only [Act.put,sA1,sA2,sA3,sA4,sA5,sA6]
     refine tkH (v:=?_) 2 rfl ?_ ?_;rotate_left 1
     ·intro wq hSw;(try dsimp only at hSw);go_simp;try (with_reducible rfl)
     try simp only [Act.put,sA1,sA2,sA3,sA4,sA5,sA6]
     refine tkH (v:=?_) 3 rfl ?_ ?_;rotate_left 1
     ·intro wq hSw;(try dsimp only at hSw);go_simp;try (with_reducible rfl)
     try simp only [Act.put,sA1,sA2,sA3,sA4,sA5,sA6]
     refine tkH (v:=?_) 4 rfl ?_ ?_;rotate_left 1
     ·intro wq hSw;(try dsimp only at hSw);go_simp;try (with_reducible rfl)
     try simp only [Act.put,sA1,sA2,sA3,sA4,sA5,sA6]
     refine tkH (v:=?_) 5 rfl ?_ ?_;rotate_left 1
     ·intro wq hSw;(try dsimp only at hSw);go_simp;try (with_reducible rfl)
     try simp only [Act.put,sA1,sA2,sA3,sA4,sA5,sA6]
     refine tkH (v:=?_) 6 rfl ?_ ?_;rotate_left 1
     ·intro wq hSw;(try dsimp only at hSw);go_simp;try (with_reducible rfl)
     try simp only [Act.put,sA1,sA2,sA3,sA4,sA5,sA6]
     refine wpAnyH_ready (rs:=[7]) (by kernel_rfl) (by simp) ?_
     refine AllReadyH.cons (o:=_) rfl (fun K hK=>?_) AllReadyH.nil
     go_simp
     refine (NX.out _ (Below.drew (Below.refl _ _))).mono ?_;clear q1 q2 q3 cx c7 cx0;rintro e V3 ⟨rfl,hb⟩;have HL3:=hidIt (HL.out.call (ext_trans (Below.drew (Below.refl wr.heap.size wr)) hb) HLT.out HHV.out);clear hb;obtain ⟨q1,q2,q3⟩:=HCH.out V3 HL3.out.hd;have cx:=HL3.out.bx.cells.1;rw [xnc.1,xnc.2] at cx;try dsimp only
     refine hK.out _ _ ?_ (fun hHeld=>?_)
     ·(try simp only [World.cell?_drew]);exact ⟨cx.1,q1,q2⟩
     clear hK K
     try simp only [Act.put,sA1,sA2,sA3,sA4,sA5,sA6]
     refine tkH (v:=?_) 8 rfl ?_ ?_;rotate_left 1
     ·intro wq hSw;(try dsimp only at hSw);go_simp;try (with_reducible rfl)
     try simp only [Act.put,sA1,sA2,sA3,sA4,sA5,sA6]
     refine tkH (v:=?_) 9 rfl ?_ ?_;rotate_left 1
     ·intro wq hSw;(try dsimp only at hSw);go_simp;try (with_reducible rfl)
     try simp only [Act.put,sA1,sA2,sA3,sA4,sA5,sA6]
     refine tkH (v:=?_) 10 rfl ?_ ?_;rotate_left 1
     ·intro wq hSw;(try dsimp only at hSw);go_simp;try (with_reducible rfl)
     try simp only [Act.put,sA1,sA2,sA3,sA4,sA5,sA6]
     refine tkH (v:=?_) 11 rfl ?_ ?_;rotate_left 1
     ·intro wq hSw;(try dsimp only at hSw);go_simp;try (with_reducible rfl)
     try simp only [Act.put,sA1,sA2,sA3,sA4,sA5,sA6]
     refine tkH (v:=?_) 12 rfl ?_ ?_;rotate_left 1
     ·intro wq hSw;(try dsimp only at hSw);go_simp;try (with_reducible rfl)
     try simp only [Act.put,sA1,sA2,sA3,sA4,sA5,sA6]
     refine wpAnyH_done (by kernel_rfl) ?_ _
     skip
     gi_wp2_with fail
     have cx0:=HL3.out.bx.cells.1
     refine wpIn_anyR (S:=fun w''=>(w''.cell? ⟨g5,0,none⟩=some (.slice x.p x.n x.c)∧w''.cell? ⟨g5,1,none⟩=some (.int .i64 x.pl)∧w''.cell? ⟨g5,2,none⟩=some (.int .i64 x.sp.a)∧w''.cell? ⟨g5,3,none⟩=some (.int .i64 x.sp.s)∧w''.cell? ⟨g5,4,none⟩=some (.int .i64 x.sp.b)∧w''.cell? ⟨g5,5,none⟩=some (.bool x.sp.lf)∧w''.cell? ⟨g5,6,none⟩=some (.bool x.sp.cr))∧w''.cell? ⟨W.heap.size,0,none⟩=some (.func (.yield l) #[] #[])) ?nd (by kernel_rfl) (by simp only [World.cell?_drew];exact ⟨cx0,q3⟩) (fun hHeld=>?_)
     case nd =>
      intro i o h
      rcases i with _ | _ | _ | _ | _ | _ | _ | i
      all_goals first | (obtain rfl:=Option.some.inj h;intro c hc;cases hc) | (simp at h)
     refine anyR_take (i:=0) (oi:=_) (v:=?_) rfl (by kernel_rfl) (by kernel_rfl) (by kernel_rfl) (fun _ _ _ h=>h) (Or.inl ⟨by rfl,?_⟩) (by assumption) ?_
     rotate_left 1
     ·intro wq hSw;(try dsimp only at hSw);go_simp;try (with_reducible rfl)
     try simp only [Act.put,sA1,sA3,sA4,sA5,sA6]
     refine anyR_take (i:=1) (oi:=_) (v:=?_) rfl (by kernel_rfl) (by kernel_rfl) (by kernel_rfl) (fun _ _ _ h=>h) (Or.inl ⟨by rfl,?_⟩) (by assumption) ?_
     rotate_left 1
     ·intro wq hSw;(try dsimp only at hSw);go_simp;try (with_reducible rfl)
     try simp only [Act.put,sA1,sA2,sA3,sA4,sA5,sA6]
     refine anyR_take (i:=2) (oi:=_) (v:=?_) rfl (by kernel_rfl) (by kernel_rfl) (by kernel_rfl) (fun _ _ _ h=>h) (Or.inl ⟨by rfl,?_⟩) (by assumption) ?_
     rotate_left 1
     ·intro wq hSw;(try dsimp only at hSw);go_simp;try (with_reducible rfl)
     try simp only [Act.put,sA1,sA2,sA3,sA4,sA5,sA6]
     refine anyR_take (i:=3) (oi:=_) (v:=?_) rfl (by kernel_rfl) (by kernel_rfl) (by kernel_rfl) (fun _ _ _ h=>h) (Or.inl ⟨by rfl,?_⟩) (by assumption) ?_
     rotate_left 1
     ·intro wq hSw;(try dsimp only at hSw);go_simp;try (with_reducible rfl)
     try simp only [Act.put,sA1,sA2,sA3,sA4,sA5,sA6]
     refine anyR_one (i:=4) (by kernel_rfl) rfl (by rfl) (fun K hK=>?_)
     go_simp
     refine (callsIn_wide (n:=6)).2 ((TG.out _).mono ?_)
     clear q1 q2 q3 cx cx0
     rintro e V5 ⟨rfl,hb⟩
     have HL5:=hidIt (HL3.out.call (ext_trans (Below.drew (Below.refl V3.heap.size V3)) hb) HLT.out HHV.out)
     clear hb
     have cx0:=HL5.out.bx.cells.1
     obtain ⟨q1,q2,q3⟩:=HCH.out V5 HL5.out.hd
     try dsimp only
     refine hK.out _ _ ⟨cx0,q3⟩ ?_
     clear hK K
     try simp only [Act.put,sA1,sA2,sA3,sA4,sA5,sA6]
     refine anyR_one (i:=5) (by kernel_rfl) rfl (by rfl) (fun K hK=>?_)
     obtain ⟨fn,tm,asg,bd,hy,hR⟩:=HYD.out V5 HL5.out.j
     have HR:=hidIt hR
     clear hR
     go_simp
     clear hy q1 q2 q3 cx0
     refine RoundIn.mono HR.out ?_
     rintro e V6 (⟨rfl,s3,hJ,hk,hn⟩ | ⟨rfl,s3,hJ,hk,hn⟩)
     ·have HL6:=hidIt (HL5.out.told hJ hk hn HHV.out)
      clear hJ hk hn
      have cx0:=HL6.out.bx.cells.1
      obtain ⟨q1,q2,q3⟩:=HCH.out V6 HL6.out.hd
      have c7:V6.cell? ⟨b7,0,none⟩=some (.int .i64 (lf + 1:Nat)):=by rw [cell_of_row V6 _ _ _ _ _ HL6.out.lft];rfl
      have f7:∀ i,V6.frozen? ⟨b7,i,none⟩=false:=fun i=>by simp [World.frozen?,HL6.out.lft]
      try dsimp only
      refine hK.out _ _ ⟨cx0,q3⟩ ?_
      clear hK K
      try simp only [Act.put,sA1,sA2,sA3,sA4,sA5,sA6]
      have hS6:=And.intro cx0 q3
      refine anyR_take (i:=6) (oi:=_) (v:=?_) rfl (by kernel_rfl) (by kernel_rfl) (by kernel_rfl) (fun _ _ _ h=>h) (Or.inl ⟨by rfl,?_⟩) (by assumption) ?_
      rotate_left 1
      ·intro wq hSw;(try dsimp only at hSw);go_simp;try (with_reducible rfl)
      try simp only [Act.put,sA1,sA2,sA3,sA4,sA5,sA6]
      refine anyR_done (by kernel_rfl) ?_ _
      gi_wp2_with fail
      go_roundw
      ·rw [xnc.1,xnc.2]
       (repeat apply Exists.intro)
       refine ⟨?rl,rfl⟩
       case rl =>
        refine ⟨m + 1,s3,by rw [HNXT.out];go_num,hmg,by have:=HLF.out;omega,by omega,?_⟩
        have e:tz - (pos + (m + 1))=lf:=by have:=HLF.out;omega
        rw [e]
        exact HL6.out.put7 HBS2.out lf
      ·change btMu N (.int .i64 ((off:Int) + (sz:Int))) < btMu N (.int .i64 (off:Int))
       simp only [btMu]
       omega
     ·have HKN:=hidIt (HL5.out.kpn hk hn HHV.out)
      have HJX:=hidIt hJ
      clear hJ hk hn
      have cx0:=HKN.out.2.2.2.cells.1
      obtain ⟨q1,q2,q3⟩:=HCH.out V6 HKN.out.2.2.1
      try dsimp only
      refine hK.out _ _ ⟨cx0,q3⟩ ?_
      clear hK K
      try simp only [Act.put,sA1,sA2,sA3,sA4,sA5,sA6]
      have hS6:=And.intro cx0 q3
      refine anyR_take (i:=6) (oi:=_) (v:=?_) rfl (by kernel_rfl) (by kernel_rfl) (by kernel_rfl) (fun _ _ _ h=>h) (Or.inl ⟨by rfl,?_⟩) (by assumption) ?_
      rotate_left 1
      ·intro wq hSw;(try dsimp only at hSw);go_simp;try (with_reducible rfl)
      try simp only [Act.put,sA1,sA2,sA3,sA4,sA5,sA6]
      refine anyR_done (by kernel_rfl) ?_ _
      gi_wp2_with fail
      exact ⟨s3,⟨rfl,.inr ⟨_,told_pre (by rw [← HPOS.out];have:=HLF.out;omega),HJX.out⟩⟩,HKN.out.1,HKN.out.2.1⟩
   ·obtain rfl:m=gx.length:=by omega
    have hlt:¬ (off:Int) < (N:Int):=by rw [hoff,List.take_length,← HN.out];omega
    clear hoff
    have HBI:Hid (BtI G enc ps f tz i base b6 b7 hold v4 s2 (pre ++ [x]) (wr.setCell ⟨b6,0,none⟩ (.int .i64 (0:Nat)))∧Kps (btO G b6 b7 s1) V1 (wr.setCell ⟨b6,0,none⟩ (.int .i64 (0:Nat)))∧Newer (btO G b6 b7) s1 s2 V1):=by
     have h:=HL.out.put6 HBS2.out 0
     have el:i + (pre ++ [x]).length=k0 + 1:=by rw [HK0.out];simp;omega
     have ep:(sh enc (ps.take (k0 + 1))).length=pos + gx.length:=by rw [sh_succ HGX.out,List.length_append,ctn_len,← HPOS.out]
     refine ⟨⟨?_,?_,?_,?_,h.ap,?_,?_,h.hd⟩,h.kp,h.nw⟩
     ·have e1:(pre ++ [x]).length=pre.length + 1:=by simp
      rw [e1,List.take_add_one,List.getElem?_drop,← HK0.out,HGX.out,Option.toList_some,xsOf_app,← HI.out.pr]
      rfl
     ·rw [el];have:=(List.getElem?_eq_some_iff.1 HGX.out).1;omega
     ·rw [el,ep];exact hmt
     ·rw [el,← told_next HGX.out];exact h.j
     ·rw [if_neg (by simp)];exact h.inb
     ·rw [el,ep,Nat.max_eq_right hfm];exact h.lft
    gi_wp2_with fail
    exact ⟨s2,HBI.out.1,HBI.out.2.1,HBI.out.2.2⟩
 case done =>
  intro s' xs W' hk hnw hS hI hdf hno
  have hxl:xs.length=ps.length - i:=by rw [hS,HLS.out,List.length_drop,xsOf_len]
  have hJ:=hI.j
  have hle:=hI.le
  rw [hxl,Nat.add_sub_cancel' hil] at hJ hle
  rw [List.take_length] at hle
  rw [told_all (t:=tz) (by rw [List.take_length];omega)] at hJ
  gi_wp2
  refine ⟨by simp,.inl ⟨_,_,rfl,run_takeDeferred hdf,?_⟩⟩
  refine ⟨.tuple #[],by simp [results,Tryz.results99,go_sem],⟨_,rfl⟩,?_⟩
  exact FIN.out s' W' _ hk hnw hno ⟨rfl,rfl,rfl,by simp,fun k h=>World.putObj_heap_other (by omega)⟩ (.inl hJ)
 case stop =>
  rintro c s' pre W' hk hnw hS ⟨rfl,hJ⟩ hdf hno
  refine wpIn_ret ?_
  refine ⟨by simp,.inl ⟨_,_,rfl,run_takeDeferred hdf,?_⟩⟩
  refine ⟨.tuple #[],by simp [results,Tryz.results99,go_sem],⟨_,rfl⟩,?_⟩
  exact FIN.out s' W' _ hk hnw hno ⟨rfl,rfl,rfl,by simp,fun k h=>World.putObj_heap_other (by omega)⟩ hJ
end Go.Proofs.YtjjfakokakamaaaGreat.P

namespace Go.Proofs.YtjjfakokakamaaaGreat.P
open Go.RowKit Go.Shelf
attribute [local go_sem] Oper.semAt_some
def OwnI (w:World) (base:Nat) (v:Value) (zs:List Int):Prop:=w.ownsRow base 3 1 v zs.length (zs.map (Value.int .i64))
theorem OwnI.typ {w:World} {base:Nat} {v:Value} {zs:List Int} (h:OwnI w base v zs) {k:Nat} (hk:v.ownBlock=some k):Typ 3 w k:=by
 rcases h.2 with ⟨rfl,_⟩ | ⟨g,cap,cur,rfl,hb,hg,_⟩
 ·simp [Value.ownBlock] at hk
 ·simp [Value.ownBlock] at hk
  subst hk
  exact ⟨_,hg⟩
theorem OwnI.form {w:World} {base:Nat} {v:Value} {zs:List Int} (h:OwnI w base v zs):∃ ao cap,v=.slice ao zs.length cap:=by
 rcases h.2 with ⟨rfl,h2⟩ | ⟨g,cap,cur,rfl,_⟩
 ·exact ⟨none,0,by rw [h2]⟩
 ·exact ⟨_,cap,rfl⟩
theorem OwnI.rd {w:World} {base:Nat} {v:Value} {zs:List Int} (h:OwnI w base v zs):Rd .i64 w v zs:=Rd.of_own h
def AtR (zs:List Int) (w:World) (e:Ending) (w':World):Prop:=∃ v,e=.returned v∧OwnI w' w.heap.size v zs∧Below w.heap.size w w'
structure AtI (bx base:Nat) (v:Value) (zs:List Int) (W:World):Prop where
 bxx:W.heap[bx]?=some (.cells #[v] 22 (0,0))
 own:OwnI W base v zs
def atO (bx:Nat) (v:Value) (k:Nat):Prop:=k=bx∨v.ownBlock=some k
theorem AtI.same {bx base:Nat} {v:Value} {zs:List Int} {W W':World} (h:AtI bx base v zs W) (hk:∀ k,atO bx v k→W'.heap[k]?=W.heap[k]?):AtI bx base v zs W':=by
 refine ⟨by rw [hk bx (.inl rfl)];exact h.bxx,?_⟩
 obtain ⟨h1,h2⟩:=h.own
 refine ⟨h1,?_⟩
 rcases h2 with h2 | ⟨k,cap,cur,rfl,hb,hg,r⟩
 ·exact .inl h2
 ·exact .inr ⟨k,cap,cur,rfl,hb,by rw [hk k (.inr (by simp [Value.ownBlock]))];exact hg,r⟩
theorem AtI.lives {bx base:Nat} {v:Value} {zs:List Int} {W:World} (h:AtI bx base v zs W) (k:Nat) (hk:atO bx v k):k < W.heap.size:=by
 rcases hk with rfl | hk
 ·exact (Array.getElem?_eq_some_iff.1 h.bxx).1
 ·exact (h.own.typ hk).lt
theorem AtI.push {bx base:Nat} {v v':Value} {zs:List Int} {W W1 w':World} {z:Int} (h:AtI bx base v zs W) (hb1:Below W.heap.size W W1) (ho:OwnI w' base v' (zs ++ [z])) (hg:W1.grownBy w' v.ownBlock) (hk:v'.ownBlock=v.ownBlock∨v'.ownBlock=some W1.heap.size) :
  AtI bx base v' (zs ++ [z]) (w'.setCell ⟨bx,0,none⟩ v')∧Kps (atO bx v) W (w'.setCell ⟨bx,0,none⟩ v')∧Newer (atO bx) v v' W:=by
 have hbl:=h.lives bx (.inl rfl)
 have z1:=hb1.size
 have bne:∀ k,v.ownBlock=some k→k≠bx:=fun k e he=>by subst he;exact absurd ((h.own.typ e).uniq ⟨_,h.bxx⟩) (by decide)
 have hbx':w'.heap[bx]?=some (.cells #[v] 22 (0,0)):=(hg.block bx (by omega) (fun e=>bne bx e.symm rfl)).trans ((hb1.block bx hbl).trans h.bxx)
 obtain ⟨p1,p2⟩:=set1 hbx' 0 v'
 have vg:v'.ownBlock≠some bx:=fun e=>by
  rcases hk with hk | hk
  ·rw [hk] at e;exact bne bx e rfl
  ·rw [hk] at e;simp only [Option.some.injEq] at e;omega
 have kk:Kps (atO bx v) W1 w':=Kps.grown hg fun j e _=>.inr e
 refine ⟨⟨p1,World.ownsRow.kept ho p2 (.inr vg)⟩,?_,?_⟩
 ·refine ((Kps.of_below (atO bx v) hb1).trans kk fun _ _ e=>e).trans (Kps.grown p2 fun j e _=>?_) fun _ _ e=>e
  simp only [Option.some.injEq] at e
  exact .inl e.symm
 ·rintro k (e | e)
  ·exact .inl (.inl e)
  ·rcases hk with hk | hk
   ·rw [hk] at e;exact .inl (.inr e)
   ·rw [hk] at e;simp only [Option.some.injEq] at e;exact .inr (by omega)
section
variable {P:Program} {W:World}
theorem wp_append_int {op:Oper} {a:Act} {K:Act→World→Prop} {Q:Exit→Act→World→Prop} (s x:Operand) (t:TypeId) (ho:op.op=.call { callee:=.builtin .append,args:=#[s,x],argTypes:=#[t,t] })
  (base:Nat) (e:TypeId) (he:e=3) (hinf:(P.info? e).map (fun i=>(i.zero,i.size,i.bytes))=some (some (.int .i64 0),1,8)) (ht:P.underlying t=some (.slice e))
  (v:Value) (zs:List Int) (hs:a.eval s=v) (hown:OwnI W base v zs) (y:Int) (g:Nat) (hx:a.eval x=.slice (some ⟨g,0,none⟩) 1 1) (hnew:W.cell? ⟨g,0,none⟩=some (.int .i64 y))
  (hbytes:zs.length + 1≤1099511627776) (hbase:base≤W.heap.size)
  (h:∀ v' w',OwnI w' base v' (zs ++ [y])→W.grownBy w' v.ownBlock→(v'.ownBlock=v.ownBlock∨v'.ownBlock=some W.heap.size)→K (a.put op.dst v') w'):op.wp P a W K Q:=by
 obtain ⟨i0,hi,hz0,hz1,hz2⟩:=info_parts hinf
 subst he
 obtain ⟨v',w',hr,h2,h3,h4⟩:=run_append_blk (P:=P) W base t op.type 3 i0 _ 1 8 ht hi hz0 hz1 hz2 rfl (by decide) v zs.length (zs.map (Value.int .i64)) hown ⟨g,0,none⟩ 1 1 [.int .i64 y] rfl (fun j u hj=>by
  cases j with
  | zero=>simp only [List.getElem?_cons_zero,Option.some.injEq] at hj;subst hj;exact hnew
  | succ j=>simp at hj) (fun u hu=>by simp at hu;subst hu;rfl) (by unfold maxLen;omega) (by omega) hbase (by omega)
 unfold Oper.wp execOp
 simp only [ho,resolve,invoke,builtin,Sem.run_bind,Sem.run_pure,Result.andThen_ok,List.map_toArray,List.map_cons,List.map_nil,hs,hx,hr]
 refine h v' w' ?_ h3 h4
 unfold OwnI
 rw [List.length_append,List.map_append]
 exact h2
end
set_option maxRecDepth 100000 in
set_option maxHeartbeats 8000000 in
theorem Atoms_any (enc lim:Int) (L:List Int) (w:World) (t:Nat) (ps:List PG) (a b:Int) (h:Tx enc lim L w t ps):Calls Tryz.prog 33 #[.pointer (some ⟨t,0,none⟩),.int .i64 a,.int .i64 b] w fun e w'=>AtR ((btw enc ps (clp (sh enc ps).length a b).1 (clp (sh enc ps).length a b).2).map Prod.fst) w e w':=by
 obtain ⟨i0,hi,hz0,hz1,hz2⟩:=info_parts Tryz.info_i64
 have CL:=hidIt (clip_any enc lim L w t ps a b h)
 obtain ⟨hc1,hc2⟩:=clp_le (sh enc ps).length a b
 have hs:=h.sum.2.2
 generalize (clp (sh enc ps).length a b).1=f at *
 generalize (clp (sh enc ps).length a b).2=tz at *
 have HT:=hidIt h
 clear h
 obtain ⟨n,hn⟩:∃ n,n=tz - f:=⟨_,rfl⟩
 have hwn:IntKind.i64.wrap ((tz:Int) - (f:Int))=(n:Nat):=by rw [IntKind.wrap_i64];omega
 have HN:=hidIt hn
 have hnl:n≤65536:=by omega
 clear hn
 refine (callsIn_wide (n:=9)).1 ?_
 refine callsIn_of_wp_marks Tryz.func33 rfl trivial ?_ rfl
 simp only [Tryz.ntmps33,List.size_toArray,List.length_cons,List.length_nil,Nat.reduceAdd,Nat.reduceSub,Array.replicate_succ,Array.replicate_zero,List.push_toArray,List.append_toArray,List.nil_append,List.cons_append]
 refine wpIn_mono (Q:=calm _) ?_ (fun _ _ _ h=>calm_imp h)
 refine wpIn_wide.2 ?_
 go_upto_region 3 with (first
  | (go_at_call 63;refine CL.out.mono ?_;rintro e w1 ⟨rfl,hb1⟩;have HB1:=hidIt hb1;have HS1:=hidIt hb1.size;clear hb1;(try dsimp only))
  | (refine wpList_make_own w1 rfl _ _ 22 rfl w.heap.size 3 i0 (.int .i64 0) 1 Tryz.underlying22 hi hz0 hz1 .i64 .i64 _ n rfl rfl rfl (by rw [hz2];omega) (by unfold maxLen;omega) HS1.out ?_;intro w2 hO hg;have HO:=hidIt hO;have HG:=hidIt hg;clear hO hg))
 obtain ⟨w3,hw3,k3,hb3⟩:∃ w3,w3=w2.alloc (.cells #[.slice (some ⟨w1.heap.size,0,none⟩) 0 n] 22)∧w3.heap[w2.heap.size]?=some (.cells #[.slice (some ⟨w1.heap.size,0,none⟩) 0 n] 22 (0,0))∧Below w2.heap.size w2 w3:=⟨_,rfl,heap_alloc_new _ _,ext_alloc (Below.refl _ _) _⟩
 rw [← hw3]
 clear hw3
 have HB2:=hidIt (Below.grown (Below.refl w1.heap.size w1) HG.out (Nat.le_refl _) (fun k e=>by cases e))
 have HB3:=hidIt (ext_trans (ext_trans HB1.out HB2.out) hb3)
 have HO3:Hid (OwnI w3 w.heap.size (.slice (some ⟨w1.heap.size,0,none⟩) 0 n) []):=World.ownsRow.kept (row:=none) HO.out ⟨hb3.os,hb3.tape,hb3.output,hb3.size,fun k hk _=>hb3.block k hk⟩ (by simp [Value.ownBlock])
 have HK3:=hidIt k3
 have BT:=hidIt (between_any t f tz w3)
 have hz1':w1.heap.size < w2.heap.size:=by
  have:=HO3.out.typ (k:=w1.heap.size) (by simp [Value.ownBlock])
  have h2:=HO.out.2
  rcases h2 with ⟨e,_⟩ | ⟨g,cap,cur,e,_,hg,_⟩
  ·cases e
  ·simp only [Value.slice.injEq,Option.some.injEq,Addr.mk.injEq] at e
   rw [e.1.1]
   exact (Array.getElem?_eq_some_iff.1 hg).1
 have hz2':w2.heap.size < w3.heap.size:=(Array.getElem?_eq_some_iff.1 k3).1
 clear k3 hb3 HO HG
 go_upto_block 0 with (go_at_call 64;refine BT.out.mono ?_;rintro e w4 ⟨rfl,hw4⟩;have HW4:=hidIt hw4;clear hw4;(try dsimp only))
 have HB4:Hid (Below w3.heap.size w3 w4):=by unfold Hid;rw [HW4.out];exact ext_alloc (ext_alloc (ext_alloc (Below.refl _ _) _) _) _
 have hs4:w4.heap.size=w3.heap.size + 3:=by rw [HW4.out];simp
 have HK4:Hid (w4.heap[w3.heap.size]?=some (.cells #[.pointer (some ⟨t,0,none⟩)] 24 (0,0))∧w4.heap[w3.heap.size + 1]?=some (.cells #[.int .i64 f] 3 (0,0))∧w4.heap[w3.heap.size + 2]?=some (.cells #[.int .i64 tz] 3 (0,0))):=by
  unfold Hid
  rw [HW4.out]
  refine ⟨?_,?_,?_⟩
  ·exact (Below.heap_alloc _ _ _ (by simp;omega)).trans ((Below.heap_alloc _ _ _ (by simp)).trans (heap_alloc_new _ _))
  ·have e:w3.heap.size + 1=(w3.alloc (.cells #[.pointer (some ⟨t,0,none⟩)] 24)).heap.size:=by simp
   rw [e]
   exact (Below.heap_alloc _ _ _ (by simp)).trans (heap_alloc_new _ _)
  ·have e:w3.heap.size + 2=((w3.alloc (.cells #[.pointer (some ⟨t,0,none⟩)] 24)).alloc (.cells #[.int .i64 f] 3)).heap.size:=by simp
   rw [e]
   exact heap_alloc_new _ _
 have HBw4:=hidIt (ext_trans HB3.out HB4.out)
 have zw:=HS1.out
 have SQ:=hidIt (between_stops 8 enc lim L t ps f tz hc1 hc2 w HT.out w4 HBw4.out w3.heap.size (w3.heap.size + 1) (w3.heap.size + 2) (by omega) (by omega) (by omega) HK4.out.1 HK4.out.2.1 HK4.out.2.2)
 clear BT HW4
 refine (wpIn_wide (n:=9)).1 ?_
 gi_wp2_with fail
 refine range_x (σ:=Value) rfl (by omega) (gf:=99) (lb:=#[.pointer (some ⟨w3.heap.size,0,none⟩),.pointer (some ⟨w3.heap.size + 1,0,none⟩),.pointer (some ⟨w3.heap.size + 2,0,none⟩)]) rfl trivial (enters_of Tryz.func99 (by kernel_rfl) rfl) SQ.out (Kps.refl _ _) (fun _=>rfl)
  (atO w2.heap.size) (fun v pre W=>AtI w2.heap.size w.heap.size v (pre.map Prod.fst) W∧w.heap.size≤W.heap.size) (fun _ _ _ _=>False) (.slice (some ⟨w1.heap.size,0,none⟩) 0 n) ?rel (fun _=>False) (fun _ h=>h.elim) (fun _ _ _ _ h hz hk=>⟨h.1.same (fun k ho=>hk k (.inl ho)),Nat.le_trans h.2 hz⟩) (fun _ _ _ _ _ h _ _=>h) (fun _ _ _ h=>h.1.lives) ?h0
  (fun q a' W=>a'={ tmps:=#[.pointer (some ⟨t,0,none⟩),.int .i64 f,.int .i64 tz,undef,undef,undef,.slice none 0 0,.pointer (some ⟨w2.heap.size,0,none⟩),.int .i64 q.1,.tuple #[.int .i64 f,.int .i64 tz],.pointer (some ⟨t,0,none⟩),.int .i64 a,.int .i64 b,.tuple #[.int .i64 f,.int .i64 tz],.int .i64 f,.int .i64 tz,.int .i64 tz,.int .i64 f,.int .i64 n,.slice (some ⟨w1.heap.size,0,none⟩) 0 n,.pointer (some ⟨t,0,none⟩),.int .i64 f,.int .i64 tz,.func (.func 99) #[] #[.pointer (some ⟨w3.heap.size,0,none⟩),.pointer (some ⟨w3.heap.size + 1,0,none⟩),.pointer (some ⟨w3.heap.size + 2,0,none⟩)],.int .i64 q.1,.int .i64 q.2,undef,undef,undef,undef,undef],defers:=[] }) (fun _ _ _ _ h _ _=>h) ?assign ?body ?done ?stop
 case rel =>
  intro k hk
  have hng:atO w2.heap.size (.slice (some ⟨w1.heap.size,0,none⟩) 0 n) k→k=w2.heap.size∨k=w1.heap.size:=fun h=>by
   rcases h with h | h
   ·exact .inl h
   ·simp [Value.ownBlock] at h;exact .inr h.symm
  rcases hk with hk | rfl | rfl | rfl
  ·exact ⟨by omega,fun h=>by have:=hng h;omega⟩
  ·exact ⟨by omega,fun h=>by have:=hng h;omega⟩
  ·exact ⟨by omega,fun h=>by have:=hng h;omega⟩
  ·exact ⟨by omega,fun h=>by have:=hng h;omega⟩
 case h0 =>
  refine ⟨⟨(HB4.out.block _ hz2').trans HK3.out,?_⟩,HBw4.out.size⟩
  exact World.ownsRow.kept (row:=none) HO3.out ⟨HB4.out.os,HB4.out.tape,HB4.out.output,HB4.out.size,fun k hk _=>HB4.out.block k hk⟩ (by simp [Value.ownBlock])
 case assign =>
  intro l q W K hz hK
  gi_wp2_with fail
  exact hK _ _ (Below.refl _ _) rfl
 case body =>
  rintro l v pre q a' W ⟨hI,hwW⟩ rfl hSp hzW
  obtain ⟨ao,capo,hvo⟩:=hI.own.form
  rw [List.length_map] at hvo
  subst hvo
  have HI:=hidIt hI
  have cb:W.cell? ⟨w2.heap.size,0,none⟩=some (.slice ao pre.length capo):=by rw [cell_of_row W _ _ _ _ _ hI.bxx];rfl
  have hbl:=hI.lives _ (.inl rfl)
  have hpl:pre.length + 1≤1099511627776:=by
   have h1:=hSp.length_le
   rw [btw_len hc2] at h1
   simp at h1
   omega
  have HPL:=hidIt (show (pre.map Prod.fst).length + 1≤1099511627776 by rw [List.length_map];exact hpl)
  obtain ⟨z,hz⟩:∃ z,z=q.1:=⟨_,rfl⟩
  have HZ:=hidIt hz
  have NEW:Hid ((W.alloc (.cells #[.int .i64 z] 3)).cell? ⟨W.heap.size,0,none⟩=some (.int .i64 z)):=by unfold Hid;rw [cell_of_row _ _ _ _ _ _ (heap_alloc_new _ _)];rfl
  have HOW:Hid (OwnI (W.alloc (.cells #[.int .i64 z] 3)) w.heap.size (.slice ao pre.length capo) (pre.map Prod.fst)):=World.ownsRow.kept (row:=none) HI.out.own ⟨rfl,rfl,rfl,size_alloc_le _ _,fun k hk _=>Below.heap_alloc _ _ _ hk⟩ (by cases ao <;> simp [Value.ownBlock])
  have CGF:Hid (∀ w',(W.alloc (.cells #[.int .i64 z] 3)).grownBy w' (Value.ownBlock (.slice ao pre.length capo))→w'.cell? ⟨w2.heap.size,0,none⟩=some (.slice ao pre.length capo)∧(∀ i,w'.frozen? ⟨w2.heap.size,i,none⟩=false)):=fun w' hg=>by
   have e:w'.heap[w2.heap.size]?=W.heap[w2.heap.size]?:=(hg.block _ (by simp;omega) (fun e=>absurd ((HI.out.own.typ e.symm).uniq ⟨_,HI.out.bxx⟩) (by decide))).trans (Below.heap_alloc _ _ _ hbl)
   exact ⟨by rw [cell_same e];exact cb,fun i=>by simp [World.frozen?,e,HI.out.bxx]⟩
  rw [← hz]
  clear hz hI hSp
  refine wpIn_block ?_
  gi_wp2_with (gi_at_builtin;refine wpListIn_plain rfl fun K hK=>?_;refine oper_in (fun c hc=>by cases hc) (fun _ _ h=>h) ?_;refine wp_append_int (.tmp 26) (.tmp 28) 22 rfl w.heap.size 3 rfl Tryz.info_i64 Tryz.underlying22 _ (pre.map Prod.fst) rfl HOW.out z W.heap.size rfl NEW.out HPL.out (by simp;omega) ?_;intro v' w9 hown' hg' hk';obtain ⟨n',ao',cap',hv'⟩:∃ n' ao' cap',v'=.slice ao' n' cap':=(let ⟨a,b,c⟩:=hown'.form;⟨_,a,b,c⟩);subst hv';have PU:=hidIt (HI.out.push (ext_alloc (Below.refl _ _) _) hown' hg' hk');obtain ⟨cg9,cf9⟩:=CGF.out w9 hg';refine hK _ _ ?_;clear hK hown' hg' hk' cb)
  refine ⟨_,⟨?_,Nat.le_trans hwW PU.out.2.1.size⟩,PU.out.2.1,PU.out.2.2⟩
  rw [List.map_append,List.map_cons,List.map_nil,← HZ.out]
  exact PU.out.1
 case done =>
  intro s xs W hk hnw hS ⟨hI,hwW⟩ hdf hno
  subst hS
  obtain ⟨ao,capo,hvo⟩:=hI.own.form
  rw [List.length_map] at hvo
  subst hvo
  have hob:=hI.bxx
  have hoc:W.cell? ⟨w2.heap.size,0,none⟩=some (.slice ao (btw enc ps f tz).length capo):=by rw [cell_of_row W _ _ _ _ _ hob];rfl
  gi_wp2
  go_wp2_with fail
  refine ⟨by simp,.inl ⟨_,_,rfl,run_takeDeferred hdf,?_⟩⟩
  refine ⟨_,results_tmp rfl _ _ _,?_⟩
  have zw4:=HBw4.out.size
  refine ⟨.slice ao (btw enc ps f tz).length capo,rfl,?_,?_⟩
  ·refine World.ownsRow.kept hI.own (grownBy_putObj' _ _ _) (.inr (fun e=>hno (.inr e)))
  ·refine HBw4.out.trans (Kps.below (o:=fun k=>w.heap.size≤k) ?_ zw4 (fun k hk=>hk))
   refine Kps.trans (hk.mono fun i _ hi=>?_) (Kps.put (o:=fun k=>w.heap.size≤k) _ zw4) (fun _ _ e=>e)
   rcases hi with rfl | hi
   ·omega
   ·simp [Value.ownBlock] at hi;omega
 case stop=>intro c s pre W _ _ _ h;exact h.elim
end Go.Proofs.YtjjfakokakamaaaGreat.P
