import Derived.Test.YtjomfbegghgbdaaGreatJ00
import Derived.Test.YtjomfbegghgbdaaGreatJ01
import Derived.Test.YtjomfbegghgbdaaGreatJ05
import Derived.Test.YtjomfbegghgbdaaGreatRows
import Derived.WalkKit
import Derived.WalkSpells
import Derived.WalkLawsBesides
import Derived.StillTactics
import Derived.Deep.QuietTactic
import Derived.BigQuiet
import Derived.Outline
import Derived.Laws.BytesArg
namespace Go.Proofs.YtjomfbegghgbdaaGreat.P
open Go.RowKit
section
variable {F:Fence} {n:Nat} {P:Program} {ops:Array Oper} {Q:Exit→Act→World→Prop} {S:World→Prop}
theorem upon_move {o:Oper} {a b:Act} {K K':Act→World→Prop} {r:Result Next} (hv:∀ u w',K (a.put o.dst u) w'→K' (b.put o.dst u) w') (hd:∀ d w',K ({ a with defers:=d :: a.defers }.put o.dst undef) w'→K' ({ b with defers:=d :: b.defers }.put o.dst undef) w') (hq:∀ c w',Q (.panic c) a w'→Q (.panic c) b w')
  (h:o.uponIn F n P a K Q r):o.uponIn F n P b K' Q r:=by
 unfold Oper.uponIn at h ⊢
 split at h
 ·exact hv _ _ h
 ·exact hv _ _ h
 ·exact hd _ _ h
 ·refine ⟨h.1,h.2.mono fun e w'' he=>?_⟩
  cases e with
  | returned v=>exact hv _ _ he
  | panicked c=>exact hq _ _ he
  | outgrown=>exact he
 ·exact ⟨h.1,h.2.mono fun v w'' he=>hv _ _ he⟩
 ·refine ⟨h.1,RoundIn.mono h.2 fun e w'' he=>?_⟩
  cases e with
  | returned v=>exact hv _ _ he
  | panicked c=>exact hq _ _ he
  | outgrown=>exact he
 ·exact hq _ _ h
 ·exact h.elim
def opR (F:Fence) (n:Nat) (P:Program) (ops:Array Oper) (Q:Exit→Act→World→Prop) (i:Nat) (K:Act→World→Prop) (a:Act) (w:World):Prop :=
 ∀ o,ops[i]?=some o→if Region.wanted o (yielded ops a.tmps)=true then o.uponIn F n P a K Q ((execOp a.eval o).run P w) else K (a.put o.dst undef) w
def anyR (F:Fence) (n:Nat) (P:Program) (ops:Array Oper) (Q:Exit→Act→World→Prop) (S:World→Prop):Nat→Array Bool→Act→World→Prop
 | 0,listed,a,w=>Region.ready .any ops listed=[]∧Q .normal a w
 | k + 1,listed,a,w=>(Region.ready .any ops listed=[]→Q .normal a w)∧∀ i ∈ Region.ready .any ops listed,opR F n P ops Q i (fun a' w'=>S w'∧anyR F n P ops Q S k (listed.setIfInBounds i true) a' w') a w
theorem anyR_in {l:Nat} (hq:∀ (i:Nat) (o:Oper),ops[i]?=some o→∀ c,o.op≠.defer c):∀ (k:Nat) (listed:Array Bool) (a:Act) (w:World),anyR (Fence.wide.inRound l) n P ops Q S k listed a w→wpAnyIn (Fence.wide.inRound l) n P .any ops Q k listed a w:=by
 intro k
 induction k with
 | zero=>intro listed a w h;exact h
 | succ k ih =>
   intro listed a w h
   refine ⟨h.1,fun i hi=>?_⟩
   obtain ⟨_,o,ho,_⟩:=mem_ready.1 hi
   have h2:=h.2 i hi o ho
   unfold wpOpIn
   simp only [ho]
   split at h2
   ·rename_i hw
    rw [if_pos hw]
    refine ⟨fun f _=>trivial,?_⟩
    rw [Oper.semAt_plain _ _ _ (hq i o ho)]
    exact upon_move (fun u w' h=>ih _ _ _ h.2) (fun d w' h=>ih _ _ _ h.2) (fun _ _ h=>h) h2
   ·rename_i hw
    rw [if_neg hw]
    exact ⟨fun f _=>trivial,ih _ _ _ h2.2⟩
theorem anyR_first {i:Nat} {oi:Oper} {v:Value} (hi:ops[i]?=some oi) (hsel:∀ (j:Nat) (o:Oper) cs b,ops[j]?=some o→o.op≠.select cs b) (hQ:∀ c a w,Q (.panic c) (a.put oi.dst v) w→Q (.panic c) a w) :
  ∀ (k:Nat) (listed:Array Bool) (a:Act) (w:World),(∀ j oj,ops[j]?=some oj→j≠i→listed.getD j true=false→(∀ e ∈ oj.after,Region.binds .any e=true→e.on≠i)→oi.apart ops oj=true) →
    i ∈ Region.ready .any ops listed→YieldsIf P ops S oi v a→S w→anyR F n P ops Q S k (listed.setIfInBounds i true) (a.put oi.dst v) w→anyR F n P ops Q S (k + 1) listed a w:=by
 have now:∀ (a:Act) (w:World) (K:Act→World→Prop),YieldsIf P ops S oi v a→S w→K (a.put oi.dst v) w→opR F n P ops Q i K a w:=fun a w K hy hS hK o ho=>by
  rw [hi] at ho
  cases ho
  rcases hy with ⟨h1,h2⟩ | ⟨h1,rfl⟩
  ·rw [if_pos h1,h2 w hS];exact hK
  ·rw [if_neg (by rw [h1];decide)];exact hK
 intro k
 induction k with
 | zero =>
   intro listed a w _ hr hy hS H
   refine ⟨fun h=>(by rw [h] at hr;cases hr),fun j hj=>?_⟩
   by_cases hji:j=i
   ·subst hji;exact now a w _ hy hS ⟨hS,H⟩
   ·have:=ready_mono hj hji
    rw [H.1] at this
    cases this
 | succ k ih =>
   intro listed a w hfree hr hy hS H
   refine ⟨fun h=>(by rw [h] at hr;cases hr),fun j hj=>?_⟩
   by_cases hji:j=i
   ·subst hji;exact now a w _ hy hS ⟨hS,H⟩
   ·intro oj hoj
    obtain ⟨hjun,oj',hoj',hall⟩:=mem_ready.1 hj
    rw [hoj] at hoj'
    cases hoj'
    have h1:=H.2 j (ready_mono hj hji) oj hoj
    have hnot:∀ e ∈ oj.after,Region.binds .any e=true→e.on≠i:=fun e he hb heq=>by
     have q1:=hall e he hb
     have q0:=(mem_ready.1 hr).1
     rw [heq] at q1
     rcases Nat.lt_or_ge i listed.size with h' | h'
     ·simp [h'] at q0 q1;rw [q0] at q1;cases q1
     ·simp [Array.getElem?_eq_none h'] at q1
    obtain ⟨p1,p2,p3⟩:=Oper.apart_spec (hfree j oj hoj hji hjun hnot)
    have keep:∀ (b:Act),YieldsIf P ops S oi v b→∀ u,YieldsIf P ops S oi v (b.put oj.dst u):=fun b hb u=>hb.of_same (execOp_put oi (fun cs d=>hsel i oi cs d hi) b oj.dst u p3) (wanted_put oi b oj.dst u p3)
    have next:∀ (b:Act) (w':World),YieldsIf P ops S oi v b→S w'→anyR F n P ops Q S k ((listed.setIfInBounds i true).setIfInBounds j true) (b.put oi.dst v) w'→anyR F n P ops Q S (k + 1) (listed.setIfInBounds j true) b w':=fun b w' hb hS' hh=>by
     refine ih _ b w' (fun m om hm hmi hun hno=>hfree m om hm hmi ?_ hno) (ready_mono hr (fun e=>hji e.symm)) hb hS' ?_
     ·by_cases hmj:j=m
      ·subst hmj
       rcases Nat.lt_or_ge j listed.size with h' | h'
       ·simp [h'] at hun
       ·simp [Array.getElem?_eq_none h'] at hjun
      ·rwa [getD_set_ne true hmj] at hun
     ·rw [Array.setIfInBounds_comm _ _ (fun e=>hji e)]
      exact hh
    rw [wanted_put oj a oi.dst v p1] at h1
    split
    ·rename_i hw
     rw [if_pos hw,execOp_put oj (fun cs d=>hsel j oj cs d hoj) a oi.dst v p1] at h1
     refine upon_move (fun u w' h=>⟨h.1,next _ w' (keep a hy u) h.1 ?_⟩) (fun d w' h=>⟨h.1,next _ w' (keep { a with defers:=d :: a.defers } (YieldsIf.of_same (a':={ a with defers:=d :: a.defers }) hy rfl rfl) undef) h.1 ?_⟩) (fun c w' h=>hQ c a w' h) h1
     ·rw [← Act.put_comm a v u p2];exact h.2
     ·rw [← Act.put_comm _ v undef p2,← Act.put_defers];exact h.2
    ·rename_i hw
     rw [if_neg hw] at h1
     refine ⟨h1.1,next _ w (keep a hy undef) h1.1 ?_⟩
     rw [← Act.put_comm a v undef p2]
     exact h1.2
theorem anyR_take {i:Nat} {oi:Oper} {v:Value} {k:Nat} {listed:Array Bool} {a:Act} {w:World} (hi:ops[i]?=some oi) (hs:Region.noSelect ops=true) (hf:Region.free .any ops listed i=true) (hr:(Region.ready .any ops listed).contains i=true)
  (hQ:∀ c a w,Q (.panic c) (a.put oi.dst v) w→Q (.panic c) a w) (hy:YieldsIf P ops S oi v a) (hS:S w) (h:anyR F n P ops Q S k (listed.setIfInBounds i true) (a.put oi.dst v) w):anyR F n P ops Q S (k + 1) listed a w :=
 anyR_first hi (Region.noSelect_spec hs) hQ k listed a w (Region.free_spec hi hf) (by simpa using hr) hy hS h
theorem anyR_one {i:Nat} {o:Oper} {k:Nat} {listed:Array Bool} {a:Act} {w:World} (hr:Region.ready .any ops listed=[i]) (ho:ops[i]?=some o) (hw:Region.wanted o (yielded ops a.tmps)=true)
  (h:∀ K:Act→World→Prop,Hid (∀ a w,S w→anyR F n P ops Q S k (listed.setIfInBounds i true) a w→K a w)→o.uponIn F n P a K Q ((execOp a.eval o).run P w)):anyR F n P ops Q S (k + 1) listed a w:=by
 refine ⟨fun h0=>(by rw [hr] at h0;cases h0),fun j hj=>?_⟩
 rw [hr,List.mem_singleton] at hj
 subst hj
 intro o' ho'
 rw [ho] at ho'
 cases ho'
 rw [if_pos hw]
 exact h _ fun a w hS hh=>⟨hS,hh⟩
theorem anyR_done {listed:Array Bool} {a:Act} {w:World} (hr:Region.ready .any ops listed=[]) (h:Q .normal a w):∀ k,anyR F n P ops Q S k listed a w
 | 0=>⟨hr,h⟩
 | _ + 1=>⟨fun _=>h,by rw [hr];simp⟩
theorem wpIn_anyR {l id:Nat} {a:Act} {w:World} (hq:∀ (i:Nat) (o:Oper),ops[i]?=some o→∀ c,o.op≠.defer c) (hm:P.follows .mixedOrders=true) (hS:S w.drew)
  (h:S w.drew→anyR (Fence.wide.inRound l) n P ops Q S ops.size (Array.replicate ops.size false) a w.drew):(Code.region id ops true).wpIn (Fence.wide.inRound l) n P Q a w :=
 wpIn_region_any hm (anyR_in hq _ _ _ _ (h hS))
end
end Go.Proofs.YtjomfbegghgbdaaGreat.P

namespace Go.Proofs.YtjomfbegghgbdaaGreat.P
open Go.RowKit
variable {F:Fence} {n:Nat} {P:Program}
set_option maxHeartbeats 1000000 in
theorem range_y {σ α:Type} {g:Operand} {ps:Array Tmp} {assign body:Code} {Q:Exit→Act→World→Prop} {a:Act} {w:World}
  (hro:F.round=none) (h1:1≤n) {gf:Nat} {lb:Array Value} (hg:a.eval g=.func (.func gf) #[] lb) (hFg:F.fn gf) (eg:∀ args w,(callFunc gf args).run P w=.ok (.enter gf args) w)
  {encs:α→Array Value} {rel:Nat→Prop} {S Sp:List α→Prop} {w0:World} (hseq:SeqX F (n - 1) P gf lb encs rel S Sp w0) (hrw:Kps (fun k=>¬ rel k) w0 w) (hps:∀ x,(encs x).size=ps.size)
  (own:σ→Nat→Prop) (I:σ→List α→World→Prop) (Ix:Code→σ→List α→World→Prop) (s0:σ) (hrel:∀ k,rel k→k < w0.heap.size∧¬ own s0 k)
  (lean:Nat→Prop) (hln:∀ k,lean k→k < w.heap.size)
  (hI:∀ s pre W W',I s pre W→W.heap.size≤W'.heap.size→(∀ k,own s k∨lean k→W'.heap[k]?=W.heap[k]?)→I s pre W')
  (hIx:∀ c s pre W W',Ix c s pre W→W.heap.size≤W'.heap.size→(∀ k,own s k∨lean k→W'.heap[k]?=W.heap[k]?)→Ix c s pre W')
  (hlv:∀ s pre W,I s pre W→∀ k,own s k→k < W.heap.size) (h0:I s0 [] w) (Ax:σ→α→Act→World→Prop) (hAx:∀ s x a' W W',Ax s x a' W→W.heap.size≤W'.heap.size→(∀ k,w.heap.size + 2≤k→k < W.heap.size→W'.heap[k]?=W.heap[k]?)→Ax s x a' W')
  (hassign:∀ (l:Nat) (s:σ) (pre:List α) (x:α) (W:World) (K:Act→World→Prop),I s pre W→w.heap.size + 2≤W.heap.size→(∀ a' W',Below W.heap.size W W'→Ax s x a' W'→K a' W') →
   assign.wpIn (F.inRound l) (n - 1 - 1) P (Exit.then K (fun _ _ _=>False)) { tmps:=(ps.zip (encs x)).foldl (fun t (p,v)=>t.setIfInBounds p v) a.tmps,defers:=[] } W)
  (hbody:∀ (l:Nat) (s:σ) (pre:List α) (x:α) (a':Act) (W:World),I s pre W→Ax s x a' W→Sp (pre ++ [x])→w.heap.size + 2≤W.heap.size→body.wpIn (F.inRound l) (n - 1 - 1) P (postX own I Ix s (pre ++ [x]) W) a' W)
  (hdone:∀ (s:σ) (xs:List α) (W:World),Kps (own s0) w W→Newer own s0 s w→S xs→I s xs W→W.heap[w.heap.size]?=some (.deferred (some []))→¬ own s w.heap.size→Q .normal { a with defers:={ target:=.collected w.heap.size,args:=#[] } :: a.defers } W)
  (hstop:∀ (c:Code) (s:σ) (pre:List α) (W:World),Kps (own s0) w W→Newer own s0 s w→Sp pre→Ix c s pre W→W.heap[w.heap.size]?=some (.deferred (some []))→¬ own s w.heap.size→c.wpIn F n P Q { a with defers:={ target:=.collected w.heap.size,args:=#[] } :: a.defers } W) :
  (Code.rangeFunc g ps assign body).wpIn F n P Q a w:=by
 refine wpIn_rangeFunc fun fn hfn=>?_
 rw [hro]
 obtain ⟨rec,hrec⟩:∃ rec:LoopState→Option Code→Loop,rec=fun st pe=>{ state:=st,pending:=pe,fn,tmps:=a.tmps,params:=ps,assign,body,defers:=w.heap.size }:=⟨_,rfl⟩
 obtain ⟨W1,hW1⟩:∃ W1,(w.alloc (.deferred (some []))).alloc (.loop (rec .ready none))=W1:=⟨_,rfl⟩
 have bW:Below w.heap.size w W1:=by rw [← hW1];exact ext_alloc (ext_alloc (Below.refl _ _) _) _
 have sW:W1.heap.size=w.heap.size + 2:=by rw [← hW1];simp
 have hL1:W1.heap[w.heap.size + 1]?=some (.loop (rec .ready none)):=by
  rw [← hW1]
  have:=World.alloc_heap_new (w.alloc (.deferred (some []))) (.loop (rec .ready none))
  rwa [World.size_alloc] at this
 have hD1:W1.heap[w.heap.size]?=some (.deferred (some [])):=by
  rw [← hW1]
  exact (Below.heap_alloc _ _ _ (by simp)).trans (World.alloc_heap_new w _)
 -- what the caller owns besides: the record and the block for the rounds' deferred calls
 let G:Guest σ α:={
  own:=fun s k=>own s k∨k=w.heap.size∨k=w.heap.size + 1
  J:=fun s pre W=>I s pre W∧(∀ k,own s k→k≠w.heap.size∧k≠w.heap.size + 1)∧W.heap[w.heap.size + 1]?=some (.loop (rec .ready none))∧W.heap[w.heap.size]?=some (.deferred (some []))∧w.heap.size + 2≤W.heap.size
  Jx:=fun s pre W=>∃ c,Ix c s pre W∧(∀ k,own s k→k≠w.heap.size∧k≠w.heap.size + 1)∧W.heap[w.heap.size + 1]?=some (.loop (rec .done (some c)))∧W.heap[w.heap.size]?=some (.deferred (some []))∧w.heap.size + 2≤W.heap.size
  lean:=lean
  stay:=fun s pre W W' h hs hk=>⟨hI s pre W W' h.1 hs (fun k ho=>ho.elim (fun o=>hk k (.inl (.inl o))) (fun q=>hk k (.inr q))),h.2.1,(hk _ (.inl (.inr (.inr rfl)))).trans h.2.2.1,(hk _ (.inl (.inr (.inl rfl)))).trans h.2.2.2.1,Nat.le_trans h.2.2.2.2 hs⟩
  stayx:=fun s pre W W' h hs hk=>by
   obtain ⟨c,h1,h2,h3,h4,h5⟩:=h
   exact ⟨c,hIx c s pre W W' h1 hs (fun k ho=>ho.elim (fun o=>hk k (.inl (.inl o))) (fun q=>hk k (.inr q))),h2,(hk _ (.inl (.inr (.inr rfl)))).trans h3,(hk _ (.inl (.inr (.inl rfl)))).trans h4,Nat.le_trans h5 hs⟩
  lives:=fun s pre W h k ho=>by
   rcases ho with ho | rfl | rfl
   ·exact hlv s pre W h.1 k ho
   ·have:=h.2.2.2.2;omega
   ·have:=h.2.2.2.2;omega }
 have ap0:∀ k,own s0 k→k < w.heap.size:=fun k ho=>hlv s0 [] w h0 k ho
 refine ⟨w.heap.size + 1,[{ target:=.collected w.heap.size,args:=#[] }],W1,{ target:=.fn (.func gf) lb,args:=#[.func (.yield (w.heap.size + 1)) #[] #[]] },W1,gf,
  #[.func (.yield (w.heap.size + 1)) #[] #[]] ++ lb,W1,?_,?_,?_,?_,fun _=>h1,?_⟩
 ·rw [← hW1,hrec];exact run_enterLoop_outer _ _ _ _ _
 ·simp only [resolve,hg]
  simp [go_sem]
 ·intro f' hf'
  simp [Target.leads] at hf'
  subst hf'
  exact hFg
 ·simp [invoke,go_sem,eg]
 ·refine (hseq (w.heap.size + 1) σ G s0 W1 (hrw.trans (Kps.of_below (fun k=>¬ rel k) bW) (fun _ _ e=>e)) (fun k hk=>?_) (fun k hk=>Nat.lt_of_lt_of_le (hln k hk) bW.size) ?_ ?_).mono ?_
  ·obtain ⟨k1,k2⟩:=hrel k hk
   have hsz:=hrw.size
   refine ⟨k1,?_⟩
   rintro (h | rfl | rfl)
   ·exact k2 h
   ·omega
   ·omega
  ·-- a round
   rintro s pre x W ⟨hi,hap,hl,hk,hz⟩ hlen
   have hy:=run_yield (P:=P) (args:=encs x) hl (by rw [hrec];exact hps x)
   rw [hrec] at hy
   refine ⟨fn,_,assign,body,hy,roundIn_of_wpIn hfn (hassign _ s pre x W _ hi hz fun a' Wa bA hax=>?_)⟩
   have za:=bA.size
   have hla:Wa.heap[w.heap.size + 1]?=some (.loop (rec .ready none)):=(bA.block _ (by omega)).trans hl
   have hka:Wa.heap[w.heap.size]?=some (.deferred (some [])):=(bA.block _ (by omega)).trans hk
   refine ⟨_,run_beginRound hla (by rw [hrec]),?_⟩
   obtain ⟨W2,hW2⟩:∃ W2,Wa.putObj (w.heap.size + 1) (.loop { rec .ready none with state:=.busy })=W2:=⟨_,rfl⟩
   rw [hW2]
   have k2:Kps (G.own s) W W2:=by rw [← hW2];exact Kps.trans (Kps.of_below _ bA) (Kps.put (o:=G.own s) _ (.inr (.inr rfl))) (fun _ _ e=>e)
   have z2:W2.heap.size=Wa.heap.size:=by rw [← hW2];simp
   have l2:W2.heap[w.heap.size + 1]?=some (.loop { rec .ready none with state:=.busy }):=by rw [← hW2];exact World.putObj_heap_same (by omega)
   have d2:W2.heap[w.heap.size]?=some (.deferred (some [])):=by rw [← hW2];exact (World.putObj_heap_other (by omega)).trans hka
   have i2:I s pre W2:=hI s pre W W2 hi (by omega) (fun k ho=>by
    rw [← hW2]
    rcases ho with ho | ho
    ·exact (World.putObj_heap_other (hap k ho).2).trans (bA.block k (hlv s pre W hi k ho))
    ·have:=hln k ho
     exact (World.putObj_heap_other (by omega)).trans (bA.block k (by omega)))
   have a2:Ax s x a' W2:=hAx s x a' Wa W2 hax (by omega) (fun k hk _=>by rw [← hW2];exact World.putObj_heap_other (by omega))
   refine wpIn_mono (hbody _ s pre x a' W2 i2 a2 hlen (by omega)) ?_
   -- the round's end,whichever it is
   have fin:∀ (jump:Option Code) (s':σ) (W3:World),Kps (own s) W2 W3→Newer own s s' W2 →
     ∃ W4,(Instr.endRound (w.heap.size + 1) jump).run P W3=.ok (.bool jump.isNone) W4∧W4.heap[w.heap.size + 1]?=some (.loop (rec (if jump.isNone then .ready else .done) jump))∧W4.heap[w.heap.size]?=some (.deferred (some [])) ∧
       W3.heap.size≤W4.heap.size∧w.heap.size + 2≤W4.heap.size∧(∀ k,own s' k→k≠w.heap.size∧k≠w.heap.size + 1)∧(∀ k,own s' k∨lean k→W4.heap[k]?=W3.heap[k]?)∧Kps (G.own s) W W4∧Newer G.own s s' W:=fun jump s' W3 k3 n3=>by
    have l3:W3.heap[w.heap.size + 1]?=some (.loop { rec .ready none with state:=.busy }):=(k3.same _ (by omega) (fun e=>(hap _ e).2 rfl)).trans l2
    have d3:W3.heap[w.heap.size]?=some (.deferred (some [])):=(k3.same _ (by omega) (fun e=>(hap _ e).1 rfl)).trans d2
    have z3:=k3.size
    have hap':∀ k,own s' k→k≠w.heap.size∧k≠w.heap.size + 1:=fun k ho=>by
     rcases n3 k ho with h | h
     ·exact hap k h
     ·omega
    have hr:=run_endRound (P:=P) jump l3
    refine ⟨_,hr,?_,?_,by simp,by simp;omega,hap',fun k ho=>World.putObj_heap_other (ho.elim (fun o=>(hap' k o).2) (fun q=>by have:=hln k q;omega)),?_,?_⟩
    ·rw [hrec];exact World.putObj_heap_same (by omega)
    ·exact (World.putObj_heap_other (by omega)).trans d3
    ·refine Kps.trans (Kps.trans k2 k3 (fun i _ e=>.inl e)) (Kps.put (o:=G.own s) _ (.inr (.inr rfl))) (fun i _ e=>e)
    ·intro k ho
     rcases ho with ho | ho | ho
     ·rcases n3 k ho with h | h
      ·exact .inl (.inl h)
      ·exact .inr (by omega)
     ·exact .inl (.inr (.inl ho))
     ·exact .inl (.inr (.inr ho))
   rintro e a3 W3 hp
   cases e with
   | normal =>
     obtain ⟨s',hi3,k3,n3⟩:=hp
     obtain ⟨W4,hr,q1,q2,q3,q4,q5,q6,q7,q8⟩:=fin none s' W3 k3 n3
     exact ⟨_,_,hr,.inl ⟨rfl,s',⟨hI s' _ W3 W4 hi3 q3 q6,q5,q1,q2,q4⟩,q7,q8⟩⟩
   | ret =>
     obtain ⟨s',hi3,k3,n3⟩:=hp
     obtain ⟨W4,hr,q1,q2,q3,q4,q5,q6,q7,q8⟩:=fin (some .ret) s' W3 k3 n3
     exact ⟨_,_,hr,.inr ⟨rfl,s',⟨_,hIx _ s' _ W3 W4 hi3 q3 q6,q5,q1,q2,q4⟩,q7,q8⟩⟩
   | exit id =>
     obtain ⟨s',hi3,k3,n3⟩:=hp
     obtain ⟨W4,hr,q1,q2,q3,q4,q5,q6,q7,q8⟩:=fin (some (.exit id)) s' W3 k3 n3
     exact ⟨_,_,hr,.inr ⟨rfl,s',⟨_,hIx _ s' _ W3 W4 hi3 q3 q6,q5,q1,q2,q4⟩,q7,q8⟩⟩
   | goto t =>
     obtain ⟨s',hi3,k3,n3⟩:=hp
     obtain ⟨W4,hr,q1,q2,q3,q4,q5,q6,q7,q8⟩:=fin (some (.goto t)) s' W3 k3 n3
     exact ⟨_,_,hr,.inr ⟨rfl,s',⟨_,hIx _ s' _ W3 W4 hi3 q3 q6,q5,q1,q2,q4⟩,q7,q8⟩⟩
   | panic ch=>exact hp.elim
   | outgrown=>exact hp.elim
  ·exact ⟨hI s0 [] w W1 h0 (by omega) (fun k ho=>bW.block k (ho.elim (ap0 k) (hln k))),fun k ho=>by have:=ap0 k ho;omega,hL1,hD1,by omega⟩
  ·-- behind the iterator
   rintro e W2 ⟨⟨v,rfl⟩,s',kW,nW,hend⟩
   have kw:∀ W3,Kps (G.own s0) W1 W3→Kps (own s0) w W3:=fun W3 k=>⟨k.os.trans bW.os,k.tape.trans bW.tape,k.output.trans bW.output,by have:=k.size;omega,fun i hi ho=>(k.same i (by omega) (by rintro (h | h | h);exact ho h;omega;omega)).trans (bW.block i hi)⟩
   have nw:(∀ k,own s' k→k≠w.heap.size∧k≠w.heap.size + 1)→Newer own s0 s' w:=fun hap k ho=>by
    rcases nW k (.inl ho) with (h | h | h) | h
    ·exact .inl h
    ·exact absurd h (hap k ho).1
    ·exact absurd h (hap k ho).2
    ·exact .inr (by omega)
   rcases hend with ⟨xs,hS,hi,hap,hl,hd,hz⟩ | ⟨pre,hSp,c,hi,hap,hl,hd,hz⟩
   ·have hr:=run_endLoop (P:=P) hl (by rw [hrec];simp)
    have hr':(Instr.endLoop (w.heap.size + 1)).run P W2=.ok none (W2.putObj (w.heap.size + 1) (.loop { rec .ready none with state:=.exhausted })):=by rw [hr,hrec]
    refine ⟨none,_,hr',hdone s' xs _ (kw _ (Kps.trans kW (Kps.put (o:=G.own s0) _ (.inr (.inr rfl))) (fun i _ e=>e))) (nw hap) hS (hI s' xs W2 _ hi (by simp) (fun k ho=>World.putObj_heap_other (ho.elim (fun o=>(hap k o).2) (fun q=>by have:=hln k q;omega)))) ((World.putObj_heap_other (by omega)).trans hd) (fun h=>(hap _ h).1 rfl)⟩
   ·have hr:=run_endLoop (P:=P) hl (by rw [hrec];simp)
    have hr':(Instr.endLoop (w.heap.size + 1)).run P W2=.ok (some c) (W2.putObj (w.heap.size + 1) (.loop { rec .done (some c) with state:=.exhausted })):=by rw [hr,hrec]
    refine ⟨some c,_,hr',hstop c s' pre _ (kw _ (Kps.trans kW (Kps.put (o:=G.own s0) _ (.inr (.inr rfl))) (fun i _ e=>e))) (nw hap) hSp (hIx c s' pre W2 _ hi (by simp) (fun k ho=>World.putObj_heap_other (ho.elim (fun o=>(hap k o).2) (fun q=>by have:=hln k q;omega)))) ((World.putObj_heap_other (by omega)).trans hd) (fun h=>(hap _ h).1 rfl)⟩
end Go.Proofs.YtjomfbegghgbdaaGreat.P

namespace Go.Proofs.YtjomfbegghgbdaaGreat.Cx
def isSc (a:Int):Bool:=(decide (0≤a) && decide (a < 55296)) || (decide (57343 < a) && decide (a≤1114111))
def fits (enc a:Int):Bool :=
 if enc=1 then isSc a || (decide (a≤-129) && decide (-256≤a))
 else if enc=2∨enc=3 then decide (-256≤a) && decide (a≤1114111)
 else if enc=4 then decide (0≤a) && decide (a≤255)
 else false
def put8 (a:Int):List Int :=
 if a < 128 then [a] else if a < 2048 then [192 + a / 64,128 + a % 64]
 else if a < 65536 then [224 + a / 4096,128 + a / 64 % 64,128 + a % 64]
 else [240 + a / 262144,128 + a / 4096 % 64,128 + a / 64 % 64,128 + a % 64]
def unit (enc u:Int):List Int:=if enc=2 then [u % 256,u / 256] else [u / 256,u % 256]
def put (enc a:Int):List Int :=
 if a < 0 then [-1 - a] else if enc=1 then put8 a else if enc=4 then [a]
 else if 65536≤a then unit enc (55296 + (a - 65536) / 1024) ++ unit enc (56320 + a % 1024)
 else unit enc a
def size (enc a:Int):Int:=if fits enc a=true then (put enc a).length else 0
def nsize (a:Int):Int :=
 if a < -256 then 0 else if a≤-129 then 1 else if a < 0 then 0 else if a < 128 then 1 else if a < 2048 then 2
 else if a < 55296 then 3 else if a≤57343 then 0 else if a < 65536 then 3 else if a≤1114111 then 4 else 0
def wsize (a:Int):Int :=
 if a < -256 then 0 else if a < 0 then 1 else if a < 65536 then 2 else if a≤1114111 then 4 else 0
def lsize (a:Int):Int:=if a < 0 then 0 else if a≤255 then 1 else 0
theorem size1 (a:Int):size 1 a=nsize a:=by
 unfold size nsize fits isSc put put8
 simp
 repeat' split
 all_goals first | omega | (simp;omega) | simp
theorem sizeW (enc a:Int) (h:enc=2∨enc=3):size enc a=wsize a:=by
 rcases h with rfl | rfl
 all_goals
  unfold size wsize fits put unit
  simp
  repeat' split
  all_goals first | omega | (simp;omega) | simp
theorem size4 (a:Int):size 4 a=lsize a:=by
 unfold size lsize fits put
 simp
 repeat' split
 all_goals first | omega | (simp;omega) | simp
end Go.Proofs.YtjomfbegghgbdaaGreat.Cx

namespace Go.Proofs.YtjomfbegghgbdaaGreat
open Go.RowKit
def Cx.cv (enc:Int):Value :=
 if enc=1 then .iface 185 (.agg #[]) else if enc=2 then .iface 187 (.agg #[.int .i64 0])
 else if enc=3 then .iface 187 (.agg #[.int .i64 1]) else if enc=4 then .iface 188 (.agg #[]) else .nilIface
def Cx.known (enc:Int):Bool:=decide (1≤enc) && decide (enc≤4)
theorem m_size1 (w : World) : (method 321 185 (.agg #[]) "copyist/codec.size").run Tryz.prog w = .ok (170, .agg #[]) w := by kernel_rfl
theorem m_size2 (k : Int) (w : World) : (method 321 187 (.agg #[.int .i64 k]) "copyist/codec.size").run Tryz.prog w = .ok (185, .agg #[.int .i64 k]) w := by kernel_rfl
theorem m_size4 (w : World) : (method 321 188 (.agg #[]) "copyist/codec.size").run Tryz.prog w = .ok (197, .agg #[]) w := by kernel_rfl
theorem ret_int {k:IntKind} {a b:Int} (h:a=b):Ending.returned (.int k a)=.returned (.int k b):=by rw [h]
theorem ret_bool {a b:Bool} (h:a=b):Ending.returned (.bool a)=.returned (.bool b):=by rw [h]
theorem coderOf_any (enc:Int) (w:World):Calls Tryz.prog 109 #[.int .i64 enc] w fun e w'=>e=.returned (.tuple #[Cx.cv enc,.bool (Cx.known enc)])∧w'=w:=by
 by_cases h1:enc=1
 ·subst h1;go_enter Tryz.func109,Tryz.ntmps109;go_wp2;go_ret2;exact ⟨rfl,rfl⟩
 by_cases h2:enc=2
 ·subst h2;go_enter Tryz.func109,Tryz.ntmps109;go_wp2;go_ret2;exact ⟨rfl,rfl⟩
 by_cases h3:enc=3
 ·subst h3;go_enter Tryz.func109,Tryz.ntmps109;go_wp2;go_ret2;exact ⟨rfl,rfl⟩
 by_cases h4:enc=4
 ·subst h4;go_enter Tryz.func109,Tryz.ntmps109;go_wp2;go_ret2;exact ⟨rfl,rfl⟩
 ·have e1:Cx.cv enc=.nilIface:=by simp [Cx.cv,h1,h2,h3,h4]
  have e2:Cx.known enc=false:=by simp [Cx.known];omega
  rw [e1,e2]
  have b1:(enc == 1)=false:=by simp [h1]
  have b2:(enc == 2)=false:=by simp [h2]
  have b3:(enc == 3)=false:=by simp [h3]
  have b4:(enc == 4)=false:=by simp [h4]
  clear h1 h2 h3 h4 e1 e2
  go_enter Tryz.func109,Tryz.ntmps109
  go_wp2
  go_ret2
  exact ⟨rfl,rfl⟩
theorem coderOf_1 (w:World):Calls Tryz.prog 109 #[.int .i64 1] w fun e w'=>e=.returned (.tuple #[.iface 185 (.agg #[]),.bool true])∧w'=w:=coderOf_any 1 w
theorem coderOf_2 (w:World):Calls Tryz.prog 109 #[.int .i64 2] w fun e w'=>e=.returned (.tuple #[.iface 187 (.agg #[.int .i64 0]),.bool true])∧w'=w:=coderOf_any 2 w
theorem coderOf_3 (w:World):Calls Tryz.prog 109 #[.int .i64 3] w fun e w'=>e=.returned (.tuple #[.iface 187 (.agg #[.int .i64 1]),.bool true])∧w'=w:=coderOf_any 3 w
theorem coderOf_4 (w:World):Calls Tryz.prog 109 #[.int .i64 4] w fun e w'=>e=.returned (.tuple #[.iface 188 (.agg #[]),.bool true])∧w'=w:=coderOf_any 4 w
theorem coderOf_no (enc:Int) (h1:enc≠1) (h2:enc≠2) (h3:enc≠3) (h4:enc≠4) (w:World):Calls Tryz.prog 109 #[.int .i64 enc] w fun e w'=>e=.returned (.tuple #[.nilIface,.bool false])∧w'=w:=by
 have e1:Cx.cv enc=.nilIface:=by simp [Cx.cv,h1,h2,h3,h4]
 have e2:Cx.known enc=false:=by simp [Cx.known];omega
 have:=coderOf_any enc w
 rwa [e1,e2] at this
set_option maxHeartbeats 1000000 in
theorem nsize_any (a:Int) (w:World):Calls Tryz.prog 170 #[.agg #[],.int .i64 a] w fun e w'=>e=.returned (.int .i64 (Cx.nsize a))∧Below w.heap.size w w':=by
 rcases (show a < -256∨(-256≤a∧a≤-129)∨(-128≤a∧a≤-1)∨(0≤a∧a < 128)∨(128≤a∧a < 2048)∨(2048≤a∧a < 55296)∨(55296≤a∧a≤57343)∨(57344≤a∧a < 65536)∨(65536≤a∧a≤1114111)∨1114111 < a from by omega) with h | ⟨h,h'⟩ | ⟨h,h'⟩ | ⟨h,h'⟩ | ⟨h,h'⟩ | ⟨h,h'⟩ | ⟨h,h'⟩ | ⟨h,h'⟩ | ⟨h,h'⟩ | h
 all_goals
  go_enter Tryz.func170,Tryz.ntmps170
  go_wp2
  go_ret
  refine ⟨ret_int ?_,(Below.refl _ _).alloc (Nat.le_refl _) _⟩
  unfold Cx.nsize
  repeat' split
  all_goals omega
set_option maxHeartbeats 1000000 in
theorem wsize_any (k a:Int) (w:World):Calls Tryz.prog 185 #[.agg #[.int .i64 k],.int .i64 a] w fun e w'=>e=.returned (.int .i64 (Cx.wsize a))∧Below w.heap.size w w':=by
 rcases (show a < -256∨(-256≤a∧a≤-1)∨(0≤a∧a < 55296)∨(55296≤a∧a≤57343)∨(57344≤a∧a < 65536)∨(65536≤a∧a≤1114111)∨1114111 < a from by omega) with h | ⟨h,h'⟩ | ⟨h,h'⟩ | ⟨h,h'⟩ | ⟨h,h'⟩ | ⟨h,h'⟩ | h
 all_goals
  first | have hd:decide (a≤57343)=false:=by simp;omega
        | skip
  go_enter Tryz.func185,Tryz.ntmps185
  go_wp2
  go_ret
  refine ⟨ret_int ?_,(Below.refl _ _).alloc (Nat.le_refl _) _⟩
  unfold Cx.wsize
  repeat' split
  all_goals omega
theorem lsize_any (a:Int) (w:World):Calls Tryz.prog 197 #[.agg #[],.int .i64 a] w fun e w'=>e=.returned (.int .i64 (Cx.lsize a))∧Below w.heap.size w w':=by
 rcases (show a < 0∨(0≤a∧a≤255)∨255 < a from by omega) with h | ⟨h,h'⟩ | h
 all_goals
  go_enter Tryz.func197,Tryz.ntmps197
  go_wp2
  go_ret
  refine ⟨ret_int ?_,(Below.refl _ _).alloc (Nat.le_refl _) _⟩
  unfold Cx.lsize
  repeat' split
  all_goals omega
theorem Cx.size_other (enc a:Int) (h1:enc≠1) (h2:enc≠2) (h3:enc≠3) (h4:enc≠4):Cx.size enc a=0:=by
 simp [Cx.size,Cx.fits,h1,h2,h3,h4]
theorem Size_any (enc a:Int) (w:World):Calls Tryz.prog 112 #[.int .i64 enc,.int .i64 a] w fun e w'=>e=.returned (.int .i64 (Cx.size enc a))∧Below w.heap.size w w':=by
 by_cases h1:enc=1
 ·subst h1
  rw [Cx.size1]
  have hm:=m_size1
  go_enter Tryz.func112,Tryz.ntmps112
  go_wp2_with (first | (go_at_call 109;refine (coderOf_1 _).mono ?_;rintro e w' ⟨rfl,rfl⟩) | (go_at_call 170;refine (nsize_any _ _).mono ?_;rintro e w' ⟨rfl,hb⟩))
  go_ret
  exact ⟨rfl,by assumption⟩
 by_cases h2:enc=2
 ·subst h2
  rw [Cx.sizeW _ _ (by decide)]
  have hm:=m_size2
  go_enter Tryz.func112,Tryz.ntmps112
  go_wp2_with (first | (go_at_call 109;refine (coderOf_2 _).mono ?_;rintro e w' ⟨rfl,rfl⟩) | (go_at_call 185;refine (wsize_any _ _ _).mono ?_;rintro e w' ⟨rfl,hb⟩))
  go_ret
  exact ⟨rfl,by assumption⟩
 by_cases h3:enc=3
 ·subst h3
  rw [Cx.sizeW _ _ (by decide)]
  have hm:=m_size2
  go_enter Tryz.func112,Tryz.ntmps112
  go_wp2_with (first | (go_at_call 109;refine (coderOf_3 _).mono ?_;rintro e w' ⟨rfl,rfl⟩) | (go_at_call 185;refine (wsize_any _ _ _).mono ?_;rintro e w' ⟨rfl,hb⟩))
  go_ret
  exact ⟨rfl,by assumption⟩
 by_cases h4:enc=4
 ·subst h4
  rw [Cx.size4]
  have hm:=m_size4
  go_enter Tryz.func112,Tryz.ntmps112
  go_wp2_with (first | (go_at_call 109;refine (coderOf_4 _).mono ?_;rintro e w' ⟨rfl,rfl⟩) | (go_at_call 197;refine (lsize_any _ _).mono ?_;rintro e w' ⟨rfl,hb⟩))
  go_ret
  exact ⟨rfl,by assumption⟩
 ·rw [Cx.size_other _ _ h1 h2 h3 h4]
  go_enter Tryz.func112,Tryz.ntmps112
  go_wp2_with (go_at_call 109;refine (coderOf_no _ h1 h2 h3 h4 _).mono ?_;rintro e w' ⟨rfl,rfl⟩)
  go_ret
  exact ⟨rfl,Below.refl _ _⟩
end Go.Proofs.YtjomfbegghgbdaaGreat

namespace Go.Proofs.YtjomfbegghgbdaaGreat
open Go.RowKit
theorem Scalar_any (a:Int) (w:World):Calls Tryz.prog 133 #[.int .i64 a] w fun e w'=>e=.returned (.bool (Cx.isSc a))∧w'=w:=by
 rcases (show a < 0∨(0≤a∧a < 55296)∨(55296≤a∧a≤57343)∨(57344≤a∧a≤1114111)∨1114111 < a from by omega) with h | ⟨h,h'⟩ | ⟨h,h'⟩ | ⟨h,h'⟩ | h
 all_goals
  go_enter Tryz.func133,Tryz.ntmps133
  go_wp2
  all_goals
   go_ret
   refine ⟨ret_bool ?_,rfl⟩
   first | (simp [Cx.isSc];done) | (rw [Bool.eq_iff_iff];simp [Cx.isSc];omega)
def Cx.Lit (w w':World) (v:Value) (bs:List Int):Prop :=
 ∃ g,v=.slice (some ⟨g,0,none⟩) bs.length bs.length∧w.heap.size≤g∧w'.heap[g]?=some (.cells (bs.map (Value.int .u8)).toArray 5 (0,0))∧Below w.heap.size w w'
theorem Cx.lit_new (w:World) (bs:List Int):Cx.Lit w (w.alloc (.cells (bs.map (Value.int .u8)).toArray 5)) (.slice (some ⟨w.heap.size,0,none⟩) bs.length bs.length) bs :=
 ⟨w.heap.size,rfl,Nat.le_refl _,heap_alloc_new w _,(Below.refl _ _).alloc (Nat.le_refl _) _⟩
theorem eight_any (a:Int) (w:World) (h0:0≤a) (hx:a≤1114111):Calls Tryz.prog 134 #[.int .i64 a] w fun e w'=>∃ v,e=.returned v∧Cx.Lit w w' v (Cx.put8 a):=by
 rcases (show a < 128∨(128≤a∧a < 2048)∨(2048≤a∧a < 65536)∨65536≤a from by omega) with h | ⟨h,h'⟩ | ⟨h,h'⟩ | h
 ·have e1:Cx.put8 a=[a]:=by unfold Cx.put8;rw [if_pos h]
  go_enter Tryz.func134,Tryz.ntmps134
  go_wp2
  go_ret
  exact ⟨_,rfl,by rw [e1];exact Cx.lit_new w [a]⟩
 ·have e1:Cx.put8 a=[192 + a / 64,128 + a % 64]:=by unfold Cx.put8;rw [if_neg (by omega),if_pos h']
  go_enter Tryz.func134,Tryz.ntmps134
  go_wp2
  go_ret
  exact ⟨_,rfl,by rw [e1];exact Cx.lit_new w [192 + a / 64,128 + a % 64]⟩
 ·have e1:Cx.put8 a=[224 + a / 4096,128 + a / 64 % 64,128 + a % 64]:=by unfold Cx.put8;rw [if_neg (by omega),if_neg (by omega),if_pos h']
  go_enter Tryz.func134,Tryz.ntmps134
  go_wp2
  go_ret
  exact ⟨_,rfl,by rw [e1];exact Cx.lit_new w [224 + a / 4096,128 + a / 64 % 64,128 + a % 64]⟩
 ·have e1:Cx.put8 a=[240 + a / 262144,128 + a / 4096 % 64,128 + a / 64 % 64,128 + a % 64]:=by unfold Cx.put8;rw [if_neg (by omega),if_neg (by omega),if_neg (by omega)]
  go_enter Tryz.func134,Tryz.ntmps134
  go_wp2
  go_ret
  exact ⟨_,rfl,by rw [e1];exact Cx.lit_new w [240 + a / 262144,128 + a / 4096 % 64,128 + a / 64 % 64,128 + a % 64]⟩
theorem Cx.Lit.head {w w':World} {v:Value} {bs:List Int} (h:Cx.Lit w w' v bs):∃ g,v=.slice (some ⟨g,0,none⟩) bs.length bs.length∧w.heap.size≤g∧(∀ i,i < bs.length→w'.cell? ⟨g,i,none⟩=some (.int .u8 (bs.getD i 0)))∧Below w.heap.size w w':=by
 obtain ⟨g,hv,hg,hh,hb⟩:=h
 refine ⟨g,hv,hg,fun i hi=>?_,hb⟩
 rw [cell_of_row w' g i _ _ _ hh]
 simp [List.getD,hi]
theorem Cx.put_len (enc a:Int):1≤(Cx.put enc a).length∧(Cx.put enc a).length≤4:=by
 unfold Cx.put Cx.put8 Cx.unit
 repeat' split
 all_goals simp
def Cx.u0 (enc u:Int):Int:=if enc=2 then u % 256 else u / 256
def Cx.u1 (enc u:Int):Int:=if enc=2 then u / 256 else u % 256
theorem Cx.unit_eq (enc u:Int):Cx.unit enc u=[Cx.u0 enc u,Cx.u1 enc u]:=by unfold Cx.unit Cx.u0 Cx.u1;split <;> rfl
end Go.Proofs.YtjomfbegghgbdaaGreat

namespace Go.Proofs.YtjomfbegghgbdaaGreat.Cx
def rowN (c:Int):Int:=if c≤127 then 1 else if c < 194 then 0 else if c≤223 then 2 else if c≤239 then 3 else if c≤244 then 4 else 0
def rowLo (c:Int):Int:=if c < 194 then 0 else if c=224 then 160 else if c=240 then 144 else if c≤244 then 128 else 0
def rowHi (c:Int):Int:=if c < 194 then 0 else if c=237 then 159 else if c=244 then 143 else if c≤244 then 191 else 0
def loJ (c:Int) (k:Nat):Int:=if k=1 then rowLo c else 128
def hiJ (c:Int) (k:Nat):Int:=if k=1 then rowHi c else 191
def c0 (b:List Int):Int:=b[0]?.getD 0
def okAt (b:List Int) (j:Nat):Bool:=decide (b.length≤j) || (decide (loJ (c0 b) j≤b[j]?.getD 0) && decide (b[j]?.getD 0≤hiJ (c0 b) j))
def okAll (b:List Int):Bool :=
 (decide (rowN (c0 b) < 2) || okAt b 1) && (decide (rowN (c0 b) < 3) || okAt b 2) && (decide (rowN (c0 b) < 4) || okAt b 3)
def mtch (b:List Int):Int:=if okAll b=true then rowN (c0 b) else 0
theorem rowN_bd (c:Int):0≤rowN c∧rowN c≤4:=by unfold rowN;repeat' split <;> omega
theorem mtch_yes (b:List Int) (k:Nat) (hn:∀ j,1≤j→j < k→okAt b j=true) (he:rowN (c0 b)≤k∨b.length≤k):mtch b=rowN (c0 b):=by
 have hb:=rowN_bd (c0 b)
 have ok:∀ j:Nat,1≤j→(j:Int) < rowN (c0 b)→okAt b j=true:=by
  intro j hj hr
  by_cases hjk:j < k
  ·exact hn j hj hjk
  ·rcases he with he | he
   ·omega
   ·unfold okAt;rw [decide_eq_true (show b.length≤j by omega),Bool.true_or]
 unfold mtch
 rw [if_pos]
 unfold okAll
 have q:∀ j:Nat,1≤j→∀ m:Int,m=(j:Int) + 1→(decide (rowN (c0 b) < m) || okAt b j)=true:=by
  intro j hj m hm
  by_cases h:rowN (c0 b) < m
  ·rw [decide_eq_true h,Bool.true_or]
  ·rw [ok j hj (by omega),Bool.or_true]
 rw [q 1 (by omega) 2 rfl,q 2 (by omega) 3 rfl,q 3 (by omega) 4 rfl];rfl
theorem mtch_no (b:List Int) (k:Nat) (h1:1≤k) (hr:(k:Int) < rowN (c0 b)) (hl:k < b.length) (hx:¬ (loJ (c0 b) k≤b[k]?.getD 0∧b[k]?.getD 0≤hiJ (c0 b) k)):mtch b=0:=by
 have hb:=rowN_bd (c0 b)
 have ho:okAt b k=false:=by
  unfold okAt
  rw [decide_eq_false (show ¬ b.length≤k by omega),Bool.false_or]
  simp only [Bool.and_eq_false_iff,decide_eq_false_iff_not]
  rcases Classical.em (loJ (c0 b) k≤b[k]?.getD 0) with h | h
  ·exact .inr fun h'=>hx ⟨h,h'⟩
  ·exact .inl h
 unfold mtch
 rw [if_neg]
 intro h
 unfold okAll at h
 simp only [Bool.and_eq_true,Bool.or_eq_true,decide_eq_true_eq] at h
 obtain ⟨⟨h2,h3⟩,h4⟩:=h
 have e:k=1∨k=2∨k=3:=by omega
 rcases e with rfl | rfl | rfl
 ·rcases h2 with h | h
  ·omega
  ·rw [h] at ho;cases ho
 ·rcases h3 with h | h
  ·omega
  ·rw [h] at ho;cases ho
 ·rcases h4 with h | h
  ·omega
  ·rw [h] at ho;cases ho
theorem okAt_of (b:List Int) (k:Nat) (h:loJ (c0 b) k≤b[k]?.getD 0∧b[k]?.getD 0≤hiJ (c0 b) k):okAt b k=true:=by
 unfold okAt
 rw [decide_eq_true h.1,decide_eq_true h.2];simp
theorem mtch_bd (b:List Int):0≤mtch b∧mtch b≤4:=by
 have:=rowN_bd (c0 b)
 unfold mtch;split <;> omega
def val:List Int→Int
 | [a]=>a
 | [a,b]=>(a - 192) * 64 + (b - 128)
 | [a,b,c]=>((a - 224) * 64 + (b - 128)) * 64 + (c - 128)
 | [a,b,c,d]=>(((a - 240) * 64 + (b - 128)) * 64 + (c - 128)) * 64 + (d - 128)
 | _=>0
def first8 (b:List Int):Int × Int:=if 0 < mtch b∧mtch b≤b.length then (val (b.take (mtch b).toNat),mtch b) else (-1 - c0 b,1)
theorem row_bytes (b:List Int) (hb:∀ z ∈ b,0≤z∧z≤255) (h0:0 < mtch b) (hl:mtch b≤b.length) :
  (∃ x,b.take (mtch b).toNat=[x]∧mtch b=1∧0≤x∧x≤127) ∨
  (∃ x y,b.take (mtch b).toNat=[x,y]∧mtch b=2∧194≤x∧x≤223∧128≤y∧y≤191) ∨
  (∃ x y z,b.take (mtch b).toNat=[x,y,z]∧mtch b=3∧224≤x∧x≤239∧rowLo x≤y∧y≤rowHi x∧128≤z∧z≤191) ∨
  (∃ x y z u,b.take (mtch b).toNat=[x,y,z,u]∧mtch b=4∧240≤x∧x≤244∧rowLo x≤y∧y≤rowHi x∧128≤z∧z≤191∧128≤u∧u≤191):=by
 have hm:okAll b=true∧mtch b=rowN (c0 b):=by
  unfold mtch at h0 ⊢
  split at h0
  ·rename_i h;exact ⟨h,by rw [if_pos h]⟩
  ·omega
 obtain ⟨hok,he⟩:=hm
 rw [he] at h0 hl ⊢
 unfold okAll at hok
 simp only [Bool.and_eq_true,Bool.or_eq_true,decide_eq_true_eq] at hok
 obtain ⟨⟨h2,h3⟩,h4⟩:=hok
 match b,hb,hl,h0,h2,h3,h4 with
 | [],_,hl,h0,_,_,_=>simp only [List.length_nil] at hl;omega
 | [x],hb,hl,h0,h2,h3,h4 =>
   have hx:=hb x (by simp)
   simp only [c0,List.getElem?_cons_zero,Option.getD_some,List.length_cons,List.length_nil] at *
   have e1:rowN x=1:=by omega
   refine .inl ⟨x,by rw [e1];rfl,e1,hx.1,?_⟩
   unfold rowN at e1;repeat' split at e1
   all_goals omega
 | x :: y :: l,hb,hl,h0,h2,h3,h4 =>
   have hx:=hb x (by simp)
   have hy:=hb y (by simp)
   simp only [c0,List.getElem?_cons_zero,Option.getD_some,List.length_cons] at *
   have hcase:(rowN x=1∧x≤127)∨(rowN x=2∧194≤x∧x≤223)∨(rowN x=3∧224≤x∧x≤239)∨(rowN x=4∧240≤x∧x≤244):=by
    unfold rowN at h0 ⊢;repeat' split at h0
    all_goals first | omega | (simp [*];omega)
   have k1:2≤rowN x→rowLo x≤y∧y≤rowHi x:=by
    intro h
    rcases h2 with h2 | h2
    ·omega
    ·simpa [okAt,c0,loJ,hiJ] using h2
   rcases hcase with ⟨e,r⟩ | ⟨e,r⟩ | ⟨e,r⟩ | ⟨e,r⟩
   ·exact .inl ⟨x,by rw [e];rfl,e,hx.1,r⟩
   ·refine .inr (.inl ⟨x,y,by rw [e];rfl,e,r.1,r.2,?_⟩)
    have:=k1 (by omega)
    unfold rowLo rowHi at this
    repeat' split at this
    all_goals omega
   ·match l,hb,hl,h3 with
    | [],_,hl,_=>simp at hl;omega
    | z :: l,hb,hl,h3 =>
      have k2:128≤z∧z≤191:=by
       rcases h3 with h3 | h3
       ·omega
       ·simpa [okAt,loJ,hiJ] using h3
      exact .inr (.inr (.inl ⟨x,y,z,by rw [e];rfl,e,r.1,r.2,(k1 (by omega)).1,(k1 (by omega)).2,k2.1,k2.2⟩))
   ·match l,hb,hl,h3,h4 with
    | [],_,hl,_,_=>simp at hl;omega
    | [z],_,hl,_,_=>simp at hl;omega
    | z :: u :: l,hb,hl,h3,h4 =>
      have k2:128≤z∧z≤191:=by
       rcases h3 with h3 | h3
       ·omega
       ·simpa [okAt,loJ,hiJ] using h3
      have k3:128≤u∧u≤191:=by
       rcases h4 with h4 | h4
       ·omega
       ·simpa [okAt,loJ,hiJ] using h4
      exact .inr (.inr (.inr ⟨x,y,z,u,by rw [e];rfl,e,r.1,r.2,(k1 (by omega)).1,(k1 (by omega)).2,k2.1,k2.2,k3.1,k3.2⟩))
end Go.Proofs.YtjomfbegghgbdaaGreat.Cx

namespace Go.Proofs.YtjomfbegghgbdaaGreat
open Go.RowKit
theorem Tryz.info_u8:(Tryz.prog.info? 5).map (fun i=>(i.zero,i.size,i.bytes))=some (some (.int .u8 0),1,1):=by kernel_rfl
theorem Tryz.info_i64:(Tryz.prog.info? 3).map (fun i=>(i.zero,i.size,i.bytes))=some (some (.int .i64 0),1,8):=by kernel_rfl
def Rd (k:IntKind) (w:World) (v:Value) (zs:List Int):Prop :=
 ∃ ao cap,v=.slice ao zs.length cap∧zs.length≤cap∧cap≤maxLen ∧
   (zs≠[]→∃ b off,ao=some ⟨b,off,none⟩∧b < w.heap.size∧∀ i,i < zs.length→w.cell? ⟨b,off + i,none⟩=some (.int k (zs[i]?.getD 0)))
theorem Rd.ext {k:IntKind} {w w':World} {v:Value} {zs:List Int} (h:Rd k w v zs) (hb:Below w.heap.size w w'):Rd k w' v zs:=by
 obtain ⟨ao,cap,hv,h1,h2,h3⟩:=h
 refine ⟨ao,cap,hv,h1,h2,fun hn=>?_⟩
 obtain ⟨b,off,ha,hlt,hc⟩:=h3 hn
 exact ⟨b,off,ha,Nat.lt_of_lt_of_le hlt hb.size,fun i hi=>(hb.cell (p:=⟨b,off + i,none⟩) hlt).trans (hc i hi)⟩
theorem Rd.grown {k:IntKind} {w w':World} {v:Value} {zs:List Int} {B:Nat} (h:Rd k w v zs) (hB:zs≠[]→∀ b off n c,v=.slice (some ⟨b,off,none⟩) n c→b < B) (hb:Below B w w'):Rd k w' v zs:=by
 obtain ⟨ao,cap,hv,h1,h2,h3⟩:=h
 refine ⟨ao,cap,hv,h1,h2,fun hn=>?_⟩
 obtain ⟨b,off,ha,hlt,hc⟩:=h3 hn
 have hlt':=hB hn b off zs.length cap (by rw [hv,ha])
 exact ⟨b,off,ha,Nat.lt_of_lt_of_le hlt hb.size,fun i hi=>(hb.cell (p:=⟨b,off + i,none⟩) hlt').trans (hc i hi)⟩
theorem Rd.of_own {k:IntKind} {w:World} {base:Nat} {e:TypeId} {v:Value} {n:Nat} {zs:List Int} (h:w.ownsRow base e 1 v n (zs.map (Value.int k))):Rd k w v zs:=by
 obtain ⟨h1,h2⟩:=h
 simp at h1
 subst h1
 rcases h2 with ⟨rfl,hn⟩ | ⟨g,cap,cur,rfl,hb,hg,hn,hc,hs,ht⟩
 ·exact ⟨none,0,by rw [hn],by omega,by simp [maxLen],fun h=>absurd (List.length_eq_zero_iff.1 hn) h⟩
 ·refine ⟨_,cap,rfl,hn,hc,fun _=>⟨g,0,rfl,(Array.getElem?_eq_some_iff.1 hg).1,fun i hi=>?_⟩⟩
  rw [cell_of_row w g (0 + i) cur e (0,0) hg]
  simp only [Nat.mul_one] at ht
  have:(cur.toList.take zs.length)[i]?=some (Value.int k (zs[i]?.getD 0)):=by rw [ht];simp [hi]
  rw [List.getElem?_take,if_pos hi] at this
  simpa using this
theorem Rd.len {k:IntKind} {w:World} {v:Value} {zs:List Int} (h:Rd k w v zs):zs.length≤9223372036854775807:=by
 obtain ⟨ao,cap,hv,h1,h2,h3⟩:=h
 unfold maxLen at h2
 omega
theorem own_ext {w w':World} {base:Nat} {e:TypeId} {size:Nat} {v:Value} {n:Nat} {xs:List Value} (h:w.ownsRow base e size v n xs) (hb:Below w.heap.size w w'):w'.ownsRow base e size v n xs :=
 h.kept (row:=none) ⟨hb.os,hb.tape,hb.output,hb.size,fun k hk _=>hb.block k hk⟩ (by cases v.ownBlock <;> simp)
theorem ext_trans {a b c:World} (h:Below a.heap.size a b) (k:Below b.heap.size b c):Below a.heap.size a c:=h.trans (k.mono h.size)
theorem below_push {w wr w':World} {o:Obj} {e:TypeId} {size n:Nat} {v:Value} {xs:List Value} (hb:Below w.heap.size w wr) (hown:wr.ownsRow w.heap.size e size v n xs) (hg:(wr.alloc o).grownBy w' v.ownBlock):Below w.heap.size w w' :=
 (hb.alloc hb.size o).grown hg (by have:=hb.size;simp;omega) (fun k hk=>(hown.lt k hk).1)
theorem one_i64 (x:Int):∀ u ∈ [Value.int .i64 x],u.oneCell'=true:=by intro u hu;simp at hu;subst hu;rfl
end Go.Proofs.YtjomfbegghgbdaaGreat

namespace Go.Proofs.YtjomfbegghgbdaaGreat
open Go.RowKit
def fillB (i:Nat):Int:=wrap64 (167 + (i:Int)) % 256
def fill (a m:Nat):List Int:=(List.range' a m).map fillB
def Lent (w:World) (base g cap:Nat) (zs:List Int):Prop :=
 zs.length + 40≤cap∧cap≤maxLen∧base≤g∧g < w.heap.size∧w.ownsRow base 5 1 (.slice (some ⟨g,0,none⟩) cap cap) cap ((zs ++ fill zs.length (cap - zs.length)).map (Value.int .u8))
end Go.Proofs.YtjomfbegghgbdaaGreat

namespace Go.Proofs.YtjomfbegghgbdaaGreat
open Go.RowKit
theorem Rd.drewN {k:IntKind} {w:World} {v:Value} {zs:List Int} (h:Rd k w v zs) (n:Nat):Rd k (w.drewN n) v zs:=h.ext (below_drewN (Below.refl _ _) n)
def tw (k:Nat) (x:Int):Int:=bits .xor .u8 x (1 + (k:Int) % 3)
def turn (zs:List Int):List Int:=zs.mapIdx tw
theorem Lent.rd {w:World} {base g cap:Nat} {zs:List Int} (h:Lent w base g cap zs):Rd .u8 w (.slice (some ⟨g,0,none⟩) zs.length cap) zs:=by
 obtain ⟨hl1,hl2,hl3,hl4,hown⟩:=h
 refine ⟨_,cap,rfl,by omega,hl2,fun _=>⟨g,0,rfl,hl4,fun i hi=>?_⟩⟩
 rw [Nat.zero_add,hown.cellAt i (by omega),List.getElem?_map,List.getElem?_append_left hi]
 simp [hi]
theorem Lent.ext {w w':World} {base g cap:Nat} {zs:List Int} (h:Lent w base g cap zs) (hb:Below w.heap.size w w'):Lent w' base g cap zs :=
 ⟨h.1,h.2.1,h.2.2.1,Nat.lt_of_lt_of_le h.2.2.2.1 hb.size,own_ext h.2.2.2.2 hb⟩
end Go.Proofs.YtjomfbegghgbdaaGreat
