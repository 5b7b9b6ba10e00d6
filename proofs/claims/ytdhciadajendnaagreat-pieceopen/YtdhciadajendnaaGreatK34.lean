import Derived.Test.YtdhciadajendnaaGreatK33
import Derived.Deep.CutRange
import Derived.Laws.CopyOwn
import Derived.OwnWalk
import Derived.Deep.LoopGhost
set_option maxRecDepth 100000
namespace Go.Proofs.YtdhciadajendnaaGreat.P
open Go.RowKit
def mkA (k:Nat):Int:=bits .xor .u8 (IntKind.u8.wrap (k:Int)) 165
def BgR (enc lim:Int) (zs:List Int) (w:World) (p r:Value):Prop :=
 (opE enc lim zs.length≠0∧p=.pointer none∧r=.pointer none)∨(opE enc lim zs.length=0∧∃ (t q B:Nat) (ps:List PG) (va vt:Value),p=.pointer (some ⟨t,0,none⟩)∧r=.pointer (some ⟨q,0,none⟩)∧Tx enc lim zs w t ps∧sh enc ps=ctn enc 0 (Cx.dec enc zs)∧DTr w q B enc lim va vt (.slice none 0 0) ((sh enc ps).map Prod.fst) ((sh enc ps).map Prod.snd))
theorem BgR.ext {enc lim:Int} {zs:List Int} {w w':World} {p r:Value} (h:BgR enc lim zs w p r) (hb:Below w.heap.size w w'):BgR enc lim zs w' p r:=by
 rcases h with h | ⟨h0,t,q,B,ps,va,vt,h1,h2,h3,h4,h5⟩
 ·exact .inl h
 ·exact .inr ⟨h0,t,q,B,ps,va,vt,h1,h2,h3.ext hb,h4,h5.ext hb⟩
theorem BgR.turn {enc lim:Int} {zs:List Int} {w w':World} {p r:Value} {g:Nat} {T:TypeId} (h:BgR enc lim zs w p r) (hg:w.grownBy w' (some g)) (ht:Typ T w g) (n1:T≠5) (n2:T≠163) (n3:T≠92) (n4:T≠105) (n5:T≠3):BgR enc lim zs w' p r:=by
 have ne:∀ {U:TypeId} (b:Nat),U≠T→Typ U w b→w'.heap[b]?=w.heap[b]?:=fun b hU hb=>hg.block b hb.lt (fun e=>hU (by cases e;exact hb.uniq ht))
 rcases h with h | ⟨h0,t,q,B,ps,va,vt,h1,h2,h3,h4,h5⟩
 ·exact .inl h
 ·refine .inr ⟨h0,t,q,B,ps,va,vt,h1,h2,h3.same (fun b hb=>ne b (Ne.symm n1) hb) (fun b hb=>ne b (Ne.symm n2) hb) (fun b hb=>ne b (Ne.symm n3) hb),h4,⟨(ne q (Ne.symm n4) ⟨_,h5.x⟩).trans h5.x,own_turn h5.a (fun b e=>ne b (Ne.symm n5) (h5.a.typ e)),own_turn h5.t (fun b e=>ne b (Ne.symm n5) (h5.t.typ e)),h5.d⟩⟩
def BgL (enc lim:Int) (zs:List Int) (B:Nat) (w:World) (p r:Option Addr):Prop :=
 (opE enc lim zs.length≠0∧p=none∧r=none)∨(opE enc lim zs.length=0∧∃ (t q Bq:Nat) (ps:List PG) (va vt:Value),p=some ⟨t,0,none⟩∧r=some ⟨q,0,none⟩∧(∀ w'':World,(∀ b,B≤b→Typ 5 w b→w''.heap[b]?=w.heap[b]?)→(∀ b,Typ 163 w b→w''.heap[b]?=w.heap[b]?)→(∀ b,Typ 92 w b→w''.heap[b]?=w.heap[b]?)→Tx enc lim zs w'' t ps)∧sh enc ps=ctn enc 0 (Cx.dec enc zs)∧DTr w q Bq enc lim va vt (.slice none 0 0) ((sh enc ps).map Prod.fst) ((sh enc ps).map Prod.snd))
theorem typ_back {T:TypeId} {w w':World} {b:Nat} (hb:Below w.heap.size w w') (h:Typ T w b):Typ T w' b∧w'.heap[b]?=w.heap[b]?:=by
 have e:=hb.block b h.lt
 obtain ⟨cs,hc⟩:=h
 exact ⟨⟨cs,e.trans hc⟩,e⟩
theorem BgL.ext {enc lim:Int} {zs:List Int} {B:Nat} {w w':World} {p r:Option Addr} (h:BgL enc lim zs B w p r) (hb:Below w.heap.size w w'):BgL enc lim zs B w' p r:=by
 rcases h with h | ⟨h0,t,q,Bq,ps,va,vt,h1,h2,h3,h4,h5⟩
 ·exact .inl h
 ·refine .inr ⟨h0,t,q,Bq,ps,va,vt,h1,h2,fun w'' f1 f2 f3=>h3 w'' (fun b hB ht=>?_) (fun b ht=>?_) (fun b ht=>?_),h4,h5.ext hb⟩
  ·have:=typ_back hb ht;exact (f1 b hB this.1).trans this.2
  ·have:=typ_back hb ht;exact (f2 b this.1).trans this.2
  ·have:=typ_back hb ht;exact (f3 b this.1).trans this.2
theorem BgL.spoil {enc lim:Int} {zs:List Int} {B g:Nat} {w w':World} {p r:Option Addr} (h:BgL enc lim zs B w p r) (hg:w.grownBy w' (some g)) (ht:Typ 5 w g) (hB:g < B):BgR enc lim zs w' (.pointer p) (.pointer r):=by
 have ne:∀ {U:TypeId} (b:Nat),U≠5→Typ U w b→w'.heap[b]?=w.heap[b]?:=fun b hU hb=>hg.block b hb.lt (fun e=>hU (by cases e;exact hb.uniq ht))
 rcases h with ⟨h,rfl,rfl⟩ | ⟨h0,t,q,Bq,ps,va,vt,rfl,rfl,h3,h4,h5⟩
 ·exact .inl ⟨h,rfl,rfl⟩
 ·exact .inr ⟨h0,t,q,Bq,ps,va,vt,rfl,rfl,h3 w' (fun b hb hT=>hg.block b hT.lt (fun e=>by cases e;omega)) (fun b hb=>ne b (by decide) hb) (fun b hb=>ne b (by decide) hb),h4,⟨(ne q (by decide) ⟨_,h5.x⟩).trans h5.x,own_turn h5.a (fun b e=>ne b (by decide) (h5.a.typ e)),own_turn h5.t (fun b e=>ne b (by decide) (h5.t.typ e)),h5.d⟩⟩
def RowM (w:World) (lb:Nat) (zs:List Int) (j:Nat):Prop:=∃ X:Array Value,w.heap[lb]?=some (.cells X 5 (0,0))∧X.size=zs.length + 100∧(∀ t,t < zs.length→X[t]?=some (.int .u8 (zs[t]?.getD 0)))∧(∀ t,zs.length≤t→t < j→X[t]?=some (.int .u8 (mkA t)))
theorem RowM.ext {w w':World} {lb j:Nat} {zs:List Int} (h:RowM w lb zs j) (hb:Below w.heap.size w w'):RowM w' lb zs j:=by
 obtain ⟨X,h1,h2⟩:=h
 exact ⟨X,(hb.block lb (Array.getElem?_eq_some_iff.1 h1).1).trans h1,h2⟩
theorem RowM.typ {w:World} {lb j:Nat} {zs:List Int} (h:RowM w lb zs j):Typ 5 w lb:=by obtain ⟨X,h1,_⟩:=h;exact ⟨X,h1⟩
theorem RowM.rd {w:World} {lb j:Nat} {zs:List Int} (h:RowM w lb zs j) (hz:zs.length≤140737488355328):Rd .u8 w (.slice (some ⟨lb,0,none⟩) zs.length (zs.length + 100)) zs:=by
 obtain ⟨X,h1,h2,h3,_⟩:=h
 refine ⟨some ⟨lb,0,none⟩,zs.length + 100,rfl,by omega,by unfold maxLen;omega,fun _=>⟨lb,0,rfl,(Array.getElem?_eq_some_iff.1 h1).1,fun i hi=>?_⟩⟩
 rw [cell_of_row _ _ _ _ _ _ h1,Nat.zero_add]
 exact h3 i hi
theorem RowM.step {w:World} {lb j:Nat} {zs:List Int} (h:RowM w lb zs j) (hj:zs.length≤j) (hj2:j < zs.length + 100):RowM (w.setCell ⟨lb,j,none⟩ (.int .u8 (mkA j))) lb zs (j + 1)∧w.grownBy (w.setCell ⟨lb,j,none⟩ (.int .u8 (mkA j))) (some lb):=by
 obtain ⟨X,h1,h2,h3,h4⟩:=h
 obtain ⟨s1,s2⟩:=set1 h1 j (.int .u8 (mkA j))
 refine ⟨⟨_,s1,by simp [h2],fun t ht=>?_,fun t ht hjt=>?_⟩,s2⟩
 ·rw [Array.getElem?_setIfInBounds_ne (by omega)];exact h3 t ht
 ·by_cases e:t=j
  ·subst e;rw [Array.getElem?_setIfInBounds_self_of_lt (by omega)]
  ·rw [Array.getElem?_setIfInBounds_ne (by omega)];exact h4 t ht (by omega)
theorem RowM.cell {w:World} {lb j:Nat} {zs:List Int} (h:RowM w lb zs j) (t:Nat) (ht:t < zs.length + 100):(∃ v,w.cell? ⟨lb,t,none⟩=some v)∧w.frozen? ⟨lb,t,none⟩=false:=by
 obtain ⟨X,h1,h2,_⟩:=h
 refine ⟨⟨X[t]'(by omega),?_⟩,by simp [World.frozen?,h1]⟩
 rw [cell_of_row _ _ _ _ _ _ h1]
 exact Array.getElem?_eq_getElem (by omega)
theorem RowM.mark {w:World} {lb j:Nat} {zs:List Int} (h:RowM w lb zs j) (t:Nat) (h1:zs.length≤t) (h2:t < j):w.cell? ⟨lb,t,none⟩=some (.int .u8 (mkA t)):=by
 obtain ⟨X,k1,_,_,k4⟩:=h
 rw [cell_of_row _ _ _ _ _ _ k1]
 exact k4 t h1 h2
structure In2 where
 e:Nat→Int
 l:Nat→Int
 z:Nat→List Int
 a:Nat→Option Addr
 c:Nat→Nat
def P1 (enc lim:Int) (zs:List Int) (B:Nat) (w:World) (p:Option Addr):Prop :=
 (opE enc lim zs.length≠0∧p=none)∨(opE enc lim zs.length=0∧∃ (t:Nat) (ps:List PG),p=some ⟨t,0,none⟩∧(∀ w'':World,(∀ b,B≤b→Typ 5 w b→w''.heap[b]?=w.heap[b]?)→(∀ b,Typ 163 w b→w''.heap[b]?=w.heap[b]?)→(∀ b,Typ 92 w b→w''.heap[b]?=w.heap[b]?)→Tx enc lim zs w'' t ps)∧sh enc ps=ctn enc 0 (Cx.dec enc zs))
theorem P1.ext {enc lim:Int} {zs:List Int} {B:Nat} {w w':World} {p:Option Addr} (h:P1 enc lim zs B w p) (hb:Below w.heap.size w w'):P1 enc lim zs B w' p:=by
 rcases h with h | ⟨h0,t,ps,h1,h3,h4⟩
 ·exact .inl h
 ·refine .inr ⟨h0,t,ps,h1,fun w'' f1 f2 f3=>h3 w'' (fun b hB ht=>?_) (fun b ht=>?_) (fun b ht=>?_),h4⟩
  ·have:=typ_back hb ht;exact (f1 b hB this.1).trans this.2
  ·have:=typ_back hb ht;exact (f2 b this.1).trans this.2
  ·have:=typ_back hb ht;exact (f3 b this.1).trans this.2
theorem opx_good {enc lim:Int} {zs:List Int} {w:World} {e:Ending} {w':World} (hE:opE enc lim zs.length=0) (h:Hid (OpX enc lim zs w e w')):∃ q,e=.returned (.tuple #[.pointer (some ⟨q,0,none⟩),.int .i64 0])∧DT w' q w.heap.size enc lim (ctn enc 0 (Cx.dec enc zs)) (.slice none 0 0)∧Below w.heap.size w w':=by
 rcases h.out with ⟨h,_⟩ | ⟨_,q,h1,h2,_,h4⟩
 ·exact absurd hE h
 ·exact ⟨q,h1,h2,h4⟩
theorem opx_bad {enc lim:Int} {zs:List Int} {w:World} {e:Ending} {w':World} (hE:opE enc lim zs.length≠0) (h:Hid (OpX enc lim zs w e w')):e=.returned (.tuple #[.pointer none,.int .i64 (opE enc lim zs.length)])∧Below w.heap.size w w':=by
 rcases h.out with ⟨_,h⟩ | ⟨h,_⟩
 ·exact h
 ·exact absurd h hE
def up {α:Type} (f:Nat→α) (k:Nat) (v:α):Nat→α:=fun j=>if j=k then v else f j
def WbX (w:World) (wb:Nat) (p r:Nat→Option Addr) (vs vo vn:Value):Prop:=w.heap[wb]?=some (.cells #[.pointer (p 0),.pointer (p 1),.pointer (r 0),.pointer (r 1),vs,vo,vn,.pointer none] 47 (0,0))
theorem WbX.cells {w:World} {wb:Nat} {p r:Nat→Option Addr} {vs vo vn:Value} (h:WbX w wb p r vs vo vn) (k:Nat) (hk:k < 2):w.cell? ⟨wb,k,none⟩=some (.pointer (p k))∧w.cell? ⟨wb,2 + k,none⟩=some (.pointer (r k))∧∀ i,w.frozen? ⟨wb,i,none⟩=false:=by
 have h':w.heap[wb]?=some (.cells #[.pointer (p 0),.pointer (p 1),.pointer (r 0),.pointer (r 1),vs,vo,vn,.pointer none] 47 (0,0)):=h
 obtain rfl | rfl:k=0∨k=1:=by omega
 ·exact ⟨(cell_of_row _ _ _ _ _ _ h').trans rfl,(cell_of_row _ _ _ _ _ _ h').trans rfl,fun i=>by simp [World.frozen?,h']⟩
 ·exact ⟨(cell_of_row _ _ _ _ _ _ h').trans rfl,(cell_of_row _ _ _ _ _ _ h').trans rfl,fun i=>by simp [World.frozen?,h']⟩
theorem WbX.setP {w:World} {wb:Nat} {p r:Nat→Option Addr} {vs vo vn:Value} (h:WbX w wb p r vs vo vn) (k:Nat) (hk:k < 2) (a:Option Addr):WbX (w.setCell ⟨wb,k,none⟩ (.pointer a)) wb (up p k a) r vs vo vn∧w.grownBy (w.setCell ⟨wb,k,none⟩ (.pointer a)) (some wb):=by
 obtain ⟨s1,s2⟩:=set1 h k (.pointer a)
 refine ⟨?_,s2⟩
 obtain rfl | rfl:k=0∨k=1:=by omega
 ·exact s1
 ·exact s1
theorem WbX.setR {w:World} {wb:Nat} {p r:Nat→Option Addr} {vs vo vn:Value} (h:WbX w wb p r vs vo vn) (k:Nat) (hk:k < 2) (a:Option Addr):WbX (w.setCell ⟨wb,2 + k,none⟩ (.pointer a)) wb p (up r k a) vs vo vn∧w.grownBy (w.setCell ⟨wb,2 + k,none⟩ (.pointer a)) (some wb):=by
 obtain ⟨s1,s2⟩:=set1 h (2 + k) (.pointer a)
 refine ⟨?_,s2⟩
 obtain rfl | rfl:k=0∨k=1:=by omega
 ·exact s1
 ·exact s1
theorem WbX.typ {w:World} {wb:Nat} {p r:Nat→Option Addr} {vs vo vn:Value} (h:WbX w wb p r vs vo vn):Typ 47 w wb:=⟨_,h⟩
theorem rd_kps {k:IntKind} {w w':World} {ao:Option Addr} {n c:Nat} {zs:List Int} {wb:Nat} (h:Rd k w (.slice ao n c) zs) (hk:Kps (fun q=>q=wb) w w') (ho:zs≠[]→∀ b o,ao=some ⟨b,o,none⟩→b≠wb):Rd k w' (.slice ao n c) zs:=by
 obtain ⟨ao',cap,e,h1,h2,h3⟩:=h
 cases e
 refine ⟨ao,c,rfl,h1,h2,fun hn=>?_⟩
 obtain ⟨b,o,rfl,hb,hc⟩:=h3 hn
 refine ⟨b,o,rfl,Nat.lt_of_lt_of_le hb hk.size,fun i hi=>?_⟩
 rw [← hc i hi]
 unfold World.cell?
 simp only [hk.same b hb (ho hn b o rfl)]
def BeR (I:In2) (W w:World) (wb:Nat) (vs vo vn:Value) (k:Nat):Prop:=Kps (fun q=>q=wb) W w∧∃ p r:Nat→Option Addr,WbX w wb p r vs vo vn∧∀ j,j < k→BgR (I.e j) (I.l j) (I.z j) w (.pointer (p j)) (.pointer (r j))
set_option maxHeartbeats 8000000 in
theorem begin_any (I:In2) (W:World) (wb:Nat) (st:Value) (vs vo vn:Value) (hwb:WbX W wb (fun _=>none) (fun _=>none) vs vo vn)
  (hr:∀ k,k < 2→Rd .u8 W (.slice (I.a k) (I.z k).length (I.c k)) (I.z k)∧Byt (I.z k)∧(I.z k).length≤140737488355328∧(I.z k≠[]→∀ b o,I.a k=some ⟨b,o,none⟩→b≠wb)) :
  Calls Tryz.prog 20 #[.pointer (some ⟨wb,0,none⟩),.agg #[.int .i64 (I.e 0),.int .i64 (I.e 1),.int .i64 (I.l 0),.int .i64 (I.l 1),.slice (I.a 0) (I.z 0).length (I.c 0),.slice (I.a 1) (I.z 1).length (I.c 1),st]] W fun e w'=>e=.returned (.bool true)∧Hid (BeR I W w' wb vs vo vn 2):=by
 obtain ⟨i0,hi,hz0,hz1,hz2⟩:=info_parts Tryz.info_u8
 obtain ⟨w1,hw1,k0,hb1⟩:∃ w1,w1=W.alloc (.cells #[.int .i64 (I.e 0),.int .i64 (I.e 1),.int .i64 (I.l 0),.int .i64 (I.l 1),.slice (I.a 0) (I.z 0).length (I.c 0),.slice (I.a 1) (I.z 1).length (I.c 1),st] 53)∧w1.heap[W.heap.size]?=some (.cells #[.int .i64 (I.e 0),.int .i64 (I.e 1),.int .i64 (I.l 0),.int .i64 (I.l 1),.slice (I.a 0) (I.z 0).length (I.c 0),.slice (I.a 1) (I.z 1).length (I.c 1),st] 53 (0,0))∧Below W.heap.size W w1:=⟨_,rfl,heap_alloc_new _ _,zxa (Below.refl _ _) _⟩
 have HCI:Hid (∀ k,k < 2→w1.cell? ⟨W.heap.size,k,none⟩=some (.int .i64 (I.e k))∧w1.cell? ⟨W.heap.size,2 + k,none⟩=some (.int .i64 (I.l k))∧w1.cell? ⟨W.heap.size,4 + k,none⟩=some (.slice (I.a k) (I.z k).length (I.c k))):=fun k hk=>by
  obtain rfl | rfl:k=0∨k=1:=by omega
  ·exact ⟨(cell_of_row _ _ _ _ _ _ k0).trans rfl,(cell_of_row _ _ _ _ _ _ k0).trans rfl,(cell_of_row _ _ _ _ _ _ k0).trans rfl⟩
  ·exact ⟨(cell_of_row _ _ _ _ _ _ k0).trans rfl,(cell_of_row _ _ _ _ _ _ k0).trans rfl,(cell_of_row _ _ _ _ _ _ k0).trans rfl⟩
 have HIL:Hid (W.heap.size < w1.heap.size):=(Array.getElem?_eq_some_iff.1 k0).1
 have HR:=zh hr
 have HWX:Hid (WbX w1 wb (fun _=>none) (fun _=>none) vs vo vn):=(hb1.block wb hwb.typ.lt).trans hwb
 have HWL:Hid (wb < W.heap.size):=hwb.typ.lt
 clear k0 hr hwb
 go_enter Tryz.func20,Tryz.ntmps20
 go_upto_region 1 with fail
 rw [← hw1]
 clear hw1
 have HB1:=zh hb1
 clear hb1
 go_wp2_with fail
 go_loopw [5] (fun i wr=>∃ k:Nat,k≤2∧i=.int .i64 (k:Nat)∧Hid (BeR I w1 wr wb vs vo vn k)) (fun i _=>2 - (intOf i).toNat)
 case atStart=>exact ⟨0,by omega,rfl,Kps.refl _ _,_,_,HWX.out,fun j hj=>absurd hj (by omega)⟩
 case round =>
  obtain ⟨k,hk,rfl,HB⟩:=hrel
  generalize wr=wa at *
  by_cases hlt:k < 2
  ·have hlt2:(k:Int) < 2:=by omega
   obtain ⟨hrz,hby,hzl,hab⟩:=HR.out k hlt
   have HCW:Hid (∀ w',Below wa.heap.size wa w'→w'.cell? ⟨W.heap.size,k,none⟩=some (.int .i64 (I.e k))∧w'.cell? ⟨W.heap.size,2 + k,none⟩=some (.int .i64 (I.l k))∧w'.cell? ⟨W.heap.size,4 + k,none⟩=some (.slice (I.a k) (I.z k).length (I.c k))):=fun w' hb=>by
    obtain ⟨h1,h2,h3⟩:=HCI.out k hlt
    have hne:=HWL.out
    have e:=(hb.block W.heap.size (Nat.lt_of_lt_of_le HIL.out HB.out.1.size)).trans (HB.out.1.same W.heap.size HIL.out (by omega))
    have ec:∀ i,w'.cell? ⟨W.heap.size,i,none⟩=w1.cell? ⟨W.heap.size,i,none⟩:=fun i=>by unfold World.cell?;simp only [e]
    exact ⟨(ec _).trans h1,(ec _).trans h2,(ec _).trans h3⟩
   have HRZ:=zh (rd_kps (hrz.ext HB1.out) HB.out.1 hab)
   have HBY:=zh hby
   have HZL:=zh hzl
   clear hrz hby hab
   generalize hqe:I.e k=e at *
   have HQe:=zh hqe
   clear hqe
   generalize hql:I.l k=lm at *
   have HQl:=zh hql
   clear hql
   generalize hqz:I.z k=zs at *
   have HQz:=zh hqz
   clear hqz
   generalize hqa:I.a k=ao at *
   have HQa:=zh hqa
   clear hqa
   generalize hqc:I.c k=cz at *
   have HQc:=zh hqc
   clear hqc
   obtain ⟨c0,c2,c4⟩:=HCW.out wa (Below.refl _ _)
   obtain ⟨n,hn⟩:∃ n:Nat,n=zs.length + 100:=⟨_,rfl⟩
   have hwn:IntKind.i64.wrap ((zs.length:Int) + 100)=(n:Int):=by rw [IntKind.wrap_i64];omega
   have HN:=zh hn
   clear hn
   go_upto_region 6 with (at_make;refine wpList_make_full _ rfl _ _ 22 rfl wa.heap.size 5 i0 (.int .u8 0) 1 Tryz.underlying22 hi hz0 hz1 _ _ _ _ n rfl rfl rfl rfl (by have:=HN.out;have:=HZL.out;rw [hz2];omega) (by have:=HN.out;have:=HZL.out;unfold maxLen;omega) (Nat.le_refl _) ?_;intro w2 hrow2 hg2)
   have HB2:=zh (show Below wa.heap.size wa w2 from ⟨hg2.os,hg2.tape,hg2.output,hg2.size,fun k hk=>hg2.block k hk (by simp)⟩)
   obtain ⟨lb,hlb⟩:∃ lb,lb=wa.heap.size:=⟨_,rfl⟩
   rw [← hlb] at hrow2 ⊢
   have HR2:Hid (∃ cur:List Value,w2.heap[lb]?=some (.cells cur.toArray 5 (0,0))∧cur.length=n):=by
    rcases hrow2.2 with ⟨h,_⟩ | ⟨g',cap,cur,h,_,hb,_,_,hs,_⟩
    ·cases h
    ·cases h
     exact ⟨cur.toList,by simpa using hb,by simp;omega⟩
   have HLB:=zh hlb
   clear hrow2 hg2 hlb c0 c2 c4
   obtain ⟨c0,c2,c4⟩:=HCW.out w2 HB2.out
   obtain ⟨cur,hcur,hcl⟩:=HR2.out
   have HCUR:=zh hcur
   have HCL:=zh hcl
   obtain ⟨cs,hcs⟩:∃ cs,cs=zs.map (Value.int .u8):=⟨_,rfl⟩
   have HCS:=zh hcs
   have HLC:=zh (show cs.length=zs.length by rw [hcs];simp)
   have HSRC:=zh (show 0 < cs.length→some (⟨lb,0,none⟩:Addr)=some ⟨lb,0,none⟩∧∃ ad,ao=some ad∧∀ j v,cs[j]?=some v→w2.cell? (ad.add j)=some v by
    intro hp
    obtain ⟨ao',cap',e1,_,_,h4⟩:=HRZ.out.ext HB2.out
    cases e1
    obtain ⟨b,o,rfl,_,hc⟩:=h4 (by intro e;subst e;subst hcs;simp at hp)
    refine ⟨rfl,⟨b,o,none⟩,rfl,fun j v hj=>?_⟩
    subst hcs
    rw [List.getElem?_map] at hj
    obtain ⟨z,hz,rfl⟩:=Option.map_eq_some_iff.1 hj
    have hjl:=(List.getElem?_eq_some_iff.1 hz).1
    rw [Addr.add_lit]
    have:=hc j hjl
    rw [hz] at this
    exact this)
   clear hcur hcl hcs
   go_upto_region 7 with (refine wpList_copy_splice rfl _ _ 22 22 rfl 5 Tryz.underlying22 (by rw [hi];simp [hz1]) _ _ _ _ _ _ rfl rfl lb 0 cur 5 HCUR.out cs (show cs.length=Nat.min zs.length n by rw [HLC.out];exact (Nat.min_eq_left (by have:=HN.out;omega)).symm) HSRC.out (by have:=HCL.out;have:=HLC.out;have:=HN.out;omega) (by rw [HCS.out];intro v hv;obtain ⟨z,_,rfl⟩:=List.mem_map.1 hv;rfl) lb wa (by rw [HLB.out];exact HB2.out) (Nat.le_refl _) ?_;intro w3 hE hb3)
   have HRM:Hid (RowM w3 lb zs zs.length):=by
    have hE':=hE.out
    refine ⟨_,hE',?_,fun t ht=>?_,fun t h1 h2=>by omega⟩
    ·have h1:=length_splice cur 0 cs (by have:=HCL.out;have:=HLC.out;have:=HN.out;omega)
     rw [List.size_toArray,h1,HCL.out,HN.out]
    ·rw [List.getElem?_toArray]
     unfold splice
     rw [List.take_zero,List.nil_append,List.getElem?_append_left (by rw [HLC.out];exact ht),HCS.out,List.getElem?_map,List.getElem?_eq_getElem ht]
     rfl
   have HB3:=zh hb3
   have HB23:Hid (Below lb wa w3):=hb3
   clear hE hb3 HSRC HCUR HCS HLC HCL HR2 HB2 c0 c2 c4
   have hnb:(n:Int)≤140737488355500:=by have:=HN.out;omega
   have hnz:(zs.length:Int)≤(n:Int):=by have:=HN.out;omega
   clear hwn
   go_wp2_with fail
   go_loopg [8] 100 (fun gi i wz=>∃ j:Nat,j + gi=n∧zs.length≤j∧i=.int .i64 (j:Nat)∧Hid (RowM wz lb zs j∧Below lb wa wz))
   case atStart=>exact ⟨zs.length,HN.out.symm,Nat.le_refl _,rfl,HRM.out,HB23.out⟩
   case round =>
    obtain ⟨j,hj,hzj,rfl,HJ⟩:=hrel
    have HJE:=zh hj
    by_cases hjn:(j:Int) < (n:Int)
    ·obtain ⟨⟨v,cj⟩,fj⟩:=HJ.out.1.cell j (by have:=HN.out;omega)
     have ST:=zh (HJ.out.1.step hzj (by have:=HN.out;omega))
     clear hj
     go_wp2_with fail
     go_roundg (n - (j + 1))
     case measure=>have:=HJE.out;omega
     exact ⟨j + 1,by omega,by omega,by go_num,ST.out.1,HJ.out.2.grown ST.out.2 (by have:=HLB.out;have:=HJ.out.2.size;omega) (fun q e=>by cases e;exact Nat.le_refl _)⟩
    ·obtain rfl:n=j:=by omega
     have hwj:=HJ.out
     clear hj hjn
     obtain ⟨HRMN,HBN⟩:=hwj
     have HRM2:=zh HRMN
     have HB4:=zh HBN
     have HB14:Hid (Below wa.heap.size wa wr):=by have h:=HBN;rw [HLB.out] at h;exact h
     clear HRMN HBN HJ HRM HB3 HB23
     generalize wr=wb4 at *
     have RB:=zh (HRM2.out.rd (by have:=HZL.out;exact this))
     rw [← HN.out] at RB
     go_upto_region 12 with fail
     obtain ⟨c0,c2,c4⟩:=HCW.out wb4 HB14.out
     have HCX:Hid (∀ w',Below wb4.heap.size wb4 w'→w'.cell? ⟨W.heap.size,k,none⟩=some (.int .i64 e)∧w'.cell? ⟨W.heap.size,2 + k,none⟩=some (.int .i64 lm)∧w'.cell? ⟨W.heap.size,4 + k,none⟩=some (.slice ao zs.length cz)):=fun w' hb=>HCW.out w' (zxt HB14.out hb)
     have HRL:Hid (∀ w',Below wb4.heap.size wb4 w'→Rd .u8 w' (.slice ao zs.length cz) zs):=fun w' hb=>HRZ.out.ext (zxt HB14.out hb)
     have HRO:Hid (∀ w',Below wb4.heap.size wb4 w'→Calls Tryz.prog 41 #[.int .i64 e,.slice ao zs.length cz,.int .i64 lm] w' fun x w''=>Hid (OpX e lm zs w' x w'')):=fun w' hb=>rOpen_any e lm _ zs w' (HRL.out w' hb) HBY.out
     have HSB:Hid (∀ w',Below wb4.heap.size wb4 w'→Calls Tryz.prog 19 #[.slice (some ⟨lb,0,none⟩) zs.length n,.slice ao zs.length cz] w' fun x w''=>x=.returned (.bool true)∧Below w'.heap.size w' w''):=fun w' hb=>sameBytes_eq _ _ zs w' (RB.out.ext hb) (HRL.out w' hb)
     have ks:wb4.cell? ⟨W.heap.size,k,none⟩=some (.int .i64 e)∧wb4.cell? ⟨W.heap.size,2 + k,none⟩=some (.int .i64 lm)∧wb4.cell? ⟨W.heap.size,4 + k,none⟩=some (.slice ao zs.length cz):=⟨c0,c2,c4⟩
     clear c0 c2 c4
     obtain ⟨eo,heo⟩:∃ eo,eo=opE e lm zs.length:=⟨_,rfl⟩
     have HEO:=zh heo
     have OPN:Hid (∀ w',Below wb4.heap.size wb4 w'→Calls Tryz.prog 22 #[.int .i64 e,.slice (some ⟨lb,0,none⟩) zs.length n,.int .i64 lm] w' fun x w''=>∃ pa,x=.returned (.tuple #[.pointer pa,.int .i64 eo])∧Hid (P1 e lm zs wb4.heap.size w'' pa)∧Below w'.heap.size w' w''):=fun w' hb=>by
      by_cases hE:opE e lm zs.length=0
      ·refine (Open_low e lm _ zs w' (RB.out.ext hb) HBY.out hE).mono ?_
       rintro x w'' ⟨t,ps,rfl,h1,h2,h3⟩
       exact ⟨_,by rw [HEO.out,hE],.inr ⟨hE,t,ps,rfl,fun w3 f1 f2 f3=>h3 w3 (fun b hB=>f1 b (Nat.le_trans hb.size hB)) f2 f3,h1.2.1⟩,h2⟩
      ·refine (Open_bad e lm _ zs w' (RB.out.ext hb) hE).mono ?_
       rintro x w'' ⟨rfl,h2⟩
       exact ⟨_,by rw [HEO.out],.inl ⟨hE,rfl⟩,h2⟩
     have HRP:Hid (∀ w' pa,Below wb4.heap.size wb4 w'→P1 e lm zs wb4.heap.size w' pa→Calls Tryz.prog 41 #[.int .i64 e,.slice ao zs.length cz,.int .i64 lm] w' fun x w''=>∃ ra,x=.returned (.tuple #[.pointer ra,.int .i64 eo])∧Hid (BgL e lm zs wb4.heap.size w'' pa ra)∧Below w'.heap.size w' w''):=fun w' pa hb hp=>by
      refine (HRO.out w' hb).mono ?_
      intro x w'' hx
      rcases hp with ⟨hE,rfl⟩ | ⟨hE,t,ps,rfl,h3,h4⟩
      ·obtain ⟨rfl,h2⟩:=opx_bad hE hx
       exact ⟨_,by rw [HEO.out],.inl ⟨hE,rfl,rfl⟩,h2⟩
      ·obtain ⟨q,rfl,⟨va,vt,d1,d2,d3,d4⟩,h2⟩:=opx_good hE hx
       refine ⟨_,by rw [HEO.out,hE],.inr ⟨hE,t,q,w'.heap.size,ps,va,vt,rfl,rfl,fun w3 f1 f2 f3=>h3 w3 (fun b hB ht=>?_) (fun b ht=>?_) (fun b ht=>?_),h4,⟨d1,by rw [h4];exact d2,by rw [h4];exact d3,d4⟩⟩,h2⟩
       ·have:=typ_back h2 ht;exact (f1 b hB this.1).trans this.2
       ·have:=typ_back h2 ht;exact (f2 b this.1).trans this.2
       ·have:=typ_back h2 ht;exact (f3 b this.1).trans this.2
     clear heo HRO
     go_cut [10,11] from 50 to 62 (fun v10 v11 wF=>∃ pa:Option Addr,v10=.pointer pa∧v11=.int .i64 eo∧Hid (P1 e lm zs wb4.heap.size wF pa∧Below wb4.heap.size wb4 wF))
     case first =>
      refine wp_region_held_drew (S:=fun w'=>w'.cell? ⟨W.heap.size,k,none⟩=some (.int .i64 e)∧w'.cell? ⟨W.heap.size,2 + k,none⟩=some (.int .i64 lm)∧w'.cell? ⟨W.heap.size,4 + k,none⟩=some (.slice ao zs.length cz)) (by kernel_rfl) (ks) (fun _=>?_)
      refine tkH 0 rfl ?_
      refine tkH 1 rfl ?_
      refine tkH 2 rfl ?_
      refine tkH 3 rfl ?_
      refine tkH 4 rfl ?_
      refine tkH 5 rfl ?_
      refine tkH 6 rfl ?_
      refine tkH 7 rfl ?_
      refine tkH 8 rfl ?_
      refine rdH 9 rfl fun K hK=>?_
      go_simp
      refine (OPN.out _ (Below.drew (Below.refl _ _))).mono ?_;rintro x w5 ⟨pa,rfl,hP,hb⟩;have HP:=zh hP.out;have HB5:=zh (zxt (Below.drew (Below.refl wb4.heap.size wb4)) hb);clear hP hb ks;have ks:=HCX.out w5 HB5.out;try dsimp only
      refine hK.out _ _ ?_ (fun _=>?_)
      ·(try simp only [World.cell?_drew]);exact ks
      clear hK K
      try simp only [Act.put,tS]
      refine tkH 10 rfl ?_
      refine tkH 11 rfl ?_
      refine tkH 12 rfl ?_
      refine tkH 13 rfl ?_
      refine tkH 14 rfl ?_
      refine dnH ?_
      go_wp2_with fail
      go_meet
      case rel=>exact ⟨pa,rfl,rfl,HP.out,HB5.out⟩
     obtain ⟨pa,rfl,rfl,HP1⟩:=hcut
     clear ks
     generalize wc=w5 at *
     have ks:=HCX.out w5 HP1.out.2
     go_upto_region 13 with fail
     go_cut [12,13] from 63 to 78 (fun v12 v13 wF=>∃ ra:Option Addr,v12=.pointer ra∧v13=.int .i64 eo∧Hid (BgL e lm zs wb4.heap.size wF pa ra∧Below wb4.heap.size wb4 wF))
     case first =>
      refine wp_region_held_drew (S:=fun w'=>w'.cell? ⟨W.heap.size,k,none⟩=some (.int .i64 e)∧w'.cell? ⟨W.heap.size,2 + k,none⟩=some (.int .i64 lm)∧w'.cell? ⟨W.heap.size,4 + k,none⟩=some (.slice ao zs.length cz)) (by kernel_rfl) (ks) (fun _=>?_)
      refine tkH 0 rfl ?_
      refine tkH 1 rfl ?_
      refine tkH 2 rfl ?_
      refine tkH 3 rfl ?_
      refine tkH 4 rfl ?_
      refine tkH 5 rfl ?_
      refine tkH 6 rfl ?_
      refine tkH 7 rfl ?_
      refine tkH 8 rfl ?_
      refine tkH 9 rfl ?_
      refine tkH 10 rfl ?_
      refine tkH 11 rfl ?_
      refine rdH 12 rfl fun K hK=>?_
      go_simp
      refine (HRP.out _ pa (HP1.out.2.drew) (HP1.out.1.ext (Below.drew (Below.refl _ _)))).mono ?_;rintro x w6 ⟨ra,rfl,hP,hb⟩;have HP:=zh hP.out;have HB56:=zh (zxt (Below.drew (Below.refl w5.heap.size w5)) hb);have HB6:=zh (zxt HP1.out.2 HB56.out);clear hP hb ks;have ks:=HCX.out w6 HB6.out;try dsimp only
      refine hK.out _ _ ?_ (fun _=>?_)
      ·(try simp only [World.cell?_drew]);exact ks
      clear hK K
      try simp only [Act.put,tS]
      refine tkH 13 rfl ?_
      refine tkH 14 rfl ?_
      refine tkH 15 rfl ?_
      refine tkH 16 rfl ?_
      refine tkH 17 rfl ?_
      refine dnH ?_
      go_wp2_with fail
      go_meet
      case rel=>exact ⟨ra,rfl,rfl,HP.out,HB6.out⟩
     obtain ⟨ra,rfl,rfl,HBG⟩:=hcut
     clear ks HRP OPN HP1
     generalize wc=w6 at *
     obtain ⟨c0,c2,c4⟩:=HCX.out w6 HBG.out.2
     go_upto_region 14 with fail
     go_cut [97] from 79 to 96 (fun v97 wF=>v97=.bool false∧Hid (BgL e lm zs wb4.heap.size wF pa ra∧Below wb4.heap.size wb4 wF))
     case first =>
      obtain ⟨pg,hpg⟩:∃ pg:Prop,pg=True:=⟨_,rfl⟩
      rcases HBG.out.1 with ⟨hE,rfl,rfl⟩ | ⟨hE,t,q,Bq,ps,va,vt,rfl,rfl,h3⟩
      ·clear hE hpg
       go_wp2_with (go_at_call 19;refine (HSB.out _ HBG.out.2).mono ?_;rintro x w7 ⟨rfl,hb⟩;have HB7:=zh hb;clear hb;(try dsimp only))
       go_meet
       case rel=>exact ⟨rfl,HBG.out.1.ext HB7.out,zxt HBG.out.2 HB7.out⟩
      ·clear hE h3 hpg
       go_wp2_with (go_at_call 19;refine (HSB.out _ HBG.out.2).mono ?_;rintro x w7 ⟨rfl,hb⟩;have HB7:=zh hb;clear hb;(try dsimp only))
       go_meet
       case rel=>exact ⟨rfl,HBG.out.1.ext HB7.out,zxt HBG.out.2 HB7.out⟩
     obtain ⟨rfl,HBG2⟩:=hcut
     clear c0 c2 c4 HBG
     generalize wc=w7 at *
     have HRM7:=zh (HRM2.out.ext HBG2.out.2)
     have hnb2:(n:Int)≤140737488355500:=hnb
     have HLT:Hid (lb < wb4.heap.size):=HRM2.out.typ.lt
     clear HRM2
     go_wp2_with fail
     go_loopg [14] 100 (fun gi i wz=>∃ j:Nat,j + gi=n∧zs.length≤j∧i=.int .i64 (j:Nat)∧Hid (wz=w7))
     case atStart=>exact ⟨zs.length,HN.out.symm,Nat.le_refl _,rfl,rfl⟩
     case round =>
      obtain ⟨j,hj,hzj,rfl,HJ⟩:=hrel
      have hw7:=HJ.out
      subst hw7
      have HJE:=zh hj
      by_cases hjn:(j:Int) < (n:Int)
      ·have cj:wr.cell? ⟨lb,j,none⟩=some (.int .u8 (bits .xor .u8 (IntKind.u8.wrap (j:Int)) 165)):=HRM7.out.mark j hzj (by omega)
       clear hj
       go_wp2_with fail
       go_roundg (n - (j + 1))
       case measure=>have:=HJE.out;omega
       exact ⟨j + 1,by omega,by omega,by go_num,rfl⟩
      ·obtain rfl:n=j:=by omega
       clear hj hjn
       generalize wr=w8 at *
       have HT8:=zh HRM7.out.typ
       have HX8:Hid (∃ X:Array Value,w8.heap[lb]?=some (.cells X 5 (0,0))∧X.size=zs.length + 100):=by obtain ⟨X,h1,h2,_⟩:=HRM7.out;exact ⟨X,h1,h2⟩
       have hzn:zs.length≤n:=hzj
       go_wp2_with fail
       go_loopg [15] zs.length (fun gi i wz=>∃ j:Nat,j + gi=zs.length∧i=.int .i64 (j:Nat)∧Hid ((∃ X:Array Value,wz.heap[lb]?=some (.cells X 5 (0,0))∧X.size=zs.length + 100)∧w8.grownBy wz (some lb)))
       case atStart=>exact ⟨0,by omega,rfl,HX8.out,⟨rfl,rfl,rfl,Nat.le_refl _,fun _ _ _=>rfl⟩⟩
       case round =>
        obtain ⟨j,hj,rfl,HJ2⟩:=hrel
        have HJE2:=zh hj
        by_cases hjn:(j:Int) < (zs.length:Int)
        ·obtain ⟨X,h1,h2⟩:=HJ2.out.1
         have cj:wr.cell? ⟨lb,j,none⟩=some (X[j]'(by omega)):=(cell_of_row _ _ _ _ _ _ h1).trans (Array.getElem?_eq_getElem (by omega))
         have fj:wr.frozen? ⟨lb,j,none⟩=false:=by simp [World.frozen?,h1]
         have ST:=zh (set1 h1 j (.int .u8 (bits .xor .u8 (IntKind.u8.wrap (j:Int)) 85)))
         have HXS:=zh h2
         have hjn2:(j:Int) < (n:Int):=by omega
         generalize X[j]'(by omega)=xv at cj
         clear hj h1 h2
         go_wp2_with fail
         go_roundg (zs.length - (j + 1))
         case measure=>have:=HJE2.out;omega
         exact ⟨j + 1,by omega,by go_num,⟨_,ST.out.1,by simp [HXS.out]⟩,zgt HJ2.out.2 ST.out.2⟩
        ·have hg9:=HJ2.out.2
         have HG9:=zh hg9
         clear hg9 hj HJ2
         generalize wr=w9 at *
         have HBG9:=zh (HBG2.out.1.spoil HG9.out HT8.out HLT.out)
         have HB89:Hid (Below wa.heap.size wa w9):=zbp (zxt HB14.out HBG2.out.2) (zxt HB14.out HBG2.out.2).size HG9.out (by rw [HLB.out];exact Nat.le_refl _)
         obtain ⟨hk1,p,r,hwx,hbg⟩:=HB.out
         have HX9:Hid (WbX w9 wb p r vs vo vn):=(HB89.out.block wb hwx.typ.lt).trans hwx
         have HK1:=zh hk1
         have HBJ:=zh hbg
         clear hk1 hwx hbg HB HX8 HG9 HBG2 HRM7
         have hk1w:IntKind.i64.wrap ((k:Int) + 1)=(k:Int) + 1:=by rw [IntKind.wrap_i64];omega
         have S1:=zh (HX9.out.setP k hlt pa)
         obtain ⟨d0,d2,df⟩:=HX9.out.cells k hlt
         go_upto_region 26 with fail
         generalize World.setCell _ _ _=w10 at *
         clear d0 d2 df
         obtain ⟨d0,d2,df⟩:=S1.out.1.cells k hlt
         have S2:=zh (S1.out.1.setR k hlt ra)
         have TY9:=zh HX9.out.typ
         have TY10:=zh S1.out.1.typ
         clear d0
         go_wp2_with fail
         go_roundw
         case rel =>
          refine ⟨k + 1,by omega,by go_num,(HK1.out.trans (Kps.of_below _ HB89.out) (fun _ _ e=>e)).trans ((Kps.grown S1.out.2 (fun q e _=>(Option.some.inj e).symm)).trans (Kps.grown S2.out.2 (fun q e _=>(Option.some.inj e).symm)) (fun _ _ e=>e)) (fun _ _ e=>e),_,_,S2.out.1,fun j hj=>?_⟩
          have tn:∀ {e lm:Int} {zs:List Int} {p r:Value},BgR e lm zs w9 p r→BgR e lm zs _ p r:=fun h=>(h.turn S1.out.2 TY9.out (by decide) (by decide) (by decide) (by decide) (by decide)).turn S2.out.2 TY10.out (by decide) (by decide) (by decide) (by decide) (by decide)
          by_cases e:j=k
          ·subst e
           rw [HQe.out,HQl.out,HQz.out]
           unfold up
           rw [if_pos rfl,if_pos rfl]
           exact tn HBG9.out
          ·unfold up
           rw [if_neg e,if_neg e]
           exact tn ((HBJ.out j (by omega)).ext HB89.out)
         case measure=>simp [intOf];omega
  ·obtain rfl:k=2:=by omega
   go_wp2_with fail
   go_ret
   exact ⟨rfl,(Kps.of_below _ HB1.out).trans HB.out.1 (fun _ _ e=>e),HB.out.2⟩
end Go.Proofs.YtdhciadajendnaaGreat.P
