import Derived.Test.YtgfdfajblidleaaGreatK22
import Derived.Deep.LoopGhost
import Derived.Deep.CutBlock
import Derived.Deep.CutRange
import Derived.Deep.RegionHeld3
import Derived.OrdersHeld
set_option maxRecDepth 100000
namespace Go.Proofs.YtgfdfajblidleaaGreat.P
open Go.RowKit
theorem OwnI.ext {w w':World} {base:Nat} {v:Value} {zs:List Int} (h:OwnI w base v zs) (hb:Below w.heap.size w w'):OwnI w' base v zs:=World.ownsRow.kept (row:=none) h ⟨hb.os,hb.tape,hb.output,hb.size,fun k hk _=>hb.block k hk⟩ (by cases v.ownBlock <;> simp)
theorem Tx.typ {enc lim:Int} {L:List Int} {w:World} {t:Nat} {ps:List PG} (h:Tx enc lim L w t ps):Typ 115 w t:=by
 obtain ⟨_,_,h1,_⟩:=h.ex
 exact ⟨_,h1⟩
section
variable {P:Program} {W:World} {ops:Array Oper} {rest:List Oper} {o:Oper} {a:Act} {Q:Exit→Act→World→Prop}
theorem wpl_ints (hgd:o.guard=none) (s x:Operand) (t:TypeId) (ho:o.op=.call { callee:=.builtin .append,args:=#[s,x],argTypes:=#[t,t] })
  (base:Nat) (hinf:(P.info? 3).map (fun i=>(i.zero,i.size,i.bytes))=some (some (.int .i64 0),1,8)) (ht:P.underlying t=some (.slice 3))
  (v:Value) (zs:List Int) (hs:a.eval s=v) (hown:OwnI W base v zs) (ys:List Int) (ao:Option Addr) (m c:Nat) (hx:a.eval x=.slice ao m c) (hm:m=ys.length)
  (hys:(ao=none∧c=0∧ys=[])∨∃ ad,ao=some ad∧∀ j u,(ys.map (Value.int .i64))[j]?=some u→W.cell? (ad.add j)=some u) (hl:(zs.length + ys.length) * 8≤140737488355328) (hbase:base≤W.heap.size)
  (h:∀ v' w',OwnI w' base v' (zs ++ ys)→Below base W w'→wpList P ops Q rest (a.put o.dst v') w'):wpList P ops Q (o :: rest) a W:=by
 obtain ⟨i0,hi,hz0,hz1,hz2⟩:=info_parts hinf
 subst hm
 rcases hys with ⟨rfl,rfl,rfl⟩ | ⟨ad,rfl,hc⟩
 ·refine wpList_append_own_none hgd s x t ho base 3 i0 1 ht hi v zs.length (zs.map (Value.int .i64)) hs hown hx ?_
  exact h v W (by rw [List.append_nil];exact hown) (Below.refl _ _)
 ·refine wpList_append_own W hgd s x t ho base 3 i0 (.int .i64 0) 1 8 ht hi hz0 hz1 hz2 rfl (by decide) v zs.length (zs.map (Value.int .i64)) hs hown ad ys.length c (ys.map (Value.int .i64)) hx (by simp) hc (fun u hu=>by rw [List.mem_map] at hu;obtain ⟨_,_,rfl⟩:=hu;rfl) (by unfold maxLen;omega) (by omega) hbase ?_
  intro v' w' h1 h2 _
  refine h v' w' ?_ ((Below.refl _ _).grown h2 hbase (fun k hk=>(World.ownsRow.lt hown k hk).1))
  unfold OwnI
  rw [List.length_append,List.map_append]
  exact h1
end
theorem OwnI.row {w:World} {base:Nat} {v:Value} {zs:List Int} (h:OwnI w base v zs) (hn:zs≠[]):∃ g cap,v=.slice (some ⟨g,0,none⟩) zs.length cap∧g < w.heap.size∧zs.length≤cap∧cap≤9223372036854775807∧∀ j u,(zs.map (Value.int .i64))[j]?=some u→w.cell? ((⟨g,0,none⟩:Addr).add j)=some u:=by
 rcases h.2 with ⟨_,h2⟩ | ⟨g,cap,cur,hv,hb,hg,h3,h4,h5,h6⟩
 ·exact absurd (List.length_eq_zero_iff.1 h2) hn
 ·exact ⟨g,cap,hv,(Array.getElem?_eq_some_iff.1 hg).1,h3,by unfold maxLen at h4;exact h4,World.ownsRow.cells h (by rw [hv];simp [Value.ownBlock])⟩
theorem rdi_new (w:World) (x:Int):∀ j u,([x].map (Value.int .i64))[j]?=some u→(w.alloc (.cells #[.int .i64 x] 3)).cell? ((⟨w.heap.size,0,none⟩:Addr).add j)=some u:=fun j u hj=>by
 cases j with
 | zero =>
   simp only [List.map_cons,List.getElem?_cons_zero,Option.some.injEq] at hj
   subst hj
   rw [show ((⟨w.heap.size,0,none⟩:Addr).add 0)=⟨w.heap.size,0,none⟩ from rfl,cell_of_row _ _ _ _ _ _ (heap_alloc_new _ _)]
   rfl
 | succ j=>simp at hj
open Go.RowKit
def Tz (enc:Int) (w:World) (t:Nat) (A:List Int):Prop:=∃ L ps,Tx enc 65536 L w t ps∧asOf ps=A
theorem Tz.ext {enc:Int} {w w':World} {t:Nat} {A:List Int} (h:Tz enc w t A) (hb:Below w.heap.size w w'):Tz enc w' t A:=by
 obtain ⟨L,ps,h1,h2⟩:=h
 exact ⟨L,ps,h1.ext hb,h2⟩
theorem Tz.len {enc:Int} {w:World} {t:Nat} {A:List Int} (h:Tz enc w t A):A.length≤65536:=by
 obtain ⟨L,ps,h1,rfl⟩:=h
 rw [← sh_len enc]
 exact h1.sum.2.2
theorem Tz.typ {enc:Int} {w:World} {t:Nat} {A:List Int} (h:Tz enc w t A):Typ 115 w t:=by
 obtain ⟨L,ps,h1,rfl⟩:=h
 exact h1.typ
theorem Len_z (enc:Int) (w:World) (t:Nat) (A:List Int) (h:Tz enc w t A):Calls Tryz.prog 32 #[.pointer (some ⟨t,0,none⟩)] w fun e w'=>e=.returned (.int .i64 (A.length:Nat))∧Below w.heap.size w w':=by
 obtain ⟨L,ps,h1,rfl⟩:=h
 have:=Len_any enc 65536 L w t ps h1
 rwa [sh_len] at this
theorem Breaks_z (enc:Int) (w:World) (t:Nat) (A:List Int) (z:Int) (h:Tz enc w t A):Calls Tryz.prog 31 #[.pointer (some ⟨t,0,none⟩),.int .i64 z] w fun e w'=>e=.returned (.int .i64 (brk enc A z))∧Below w.heap.size w w':=by
 obtain ⟨L,ps,h1,rfl⟩:=h
 exact Breaks_any enc 65536 L w t ps z h1
theorem Seek_z (enc:Int) (w:World) (t:Nat) (A:List Int) (k:Int) (h:Tz enc w t A):Calls Tryz.prog 40 #[.pointer (some ⟨t,0,none⟩),.int .i64 k] w fun e w'=>e=.returned (.int .i64 (skA enc A k))∧Below w.heap.size w w':=by
 obtain ⟨L,ps,h1,rfl⟩:=h
 exact Seek_any enc 65536 L w t ps k h1
def sub (A:List Int) (a b:Int):List Int:=(A.drop (clp A.length a b).1).take ((clp A.length a b).2 - (clp A.length a b).1)
theorem Atoms_z (enc:Int) (w:World) (t:Nat) (A:List Int) (a b:Int) (h:Tz enc w t A):Calls Tryz.prog 19 #[.pointer (some ⟨t,0,none⟩),.int .i64 a,.int .i64 b] w fun e w'=>AtR (sub A a b) w e w':=by
 obtain ⟨L,ps,h1,rfl⟩:=h
 have:=Atoms_any enc 65536 L w t ps a b h1
 unfold btw at this
 rwa [List.map_take,List.map_drop,sh_fst,sh_len] at this
open Go.RowKit
def knd (A:List Int) (e:Nat):Int:=if A[e - 1]?=some 13 then 3 else if 2≤e∧A[e - 2]?=some 13 then 2 else 1
def wid (k:Int):Int:=if k=2 then 2 else 1
structure Ln where
 f:Int
 t:Int
 n:Int
 b:Int
def lnK (enc:Int) (A:List Int) (k:Int):Ln :=
 if k=(spn enc A).b then ⟨skA enc A k,A.length,A.length,0⟩
 else ⟨skA enc A k,skA enc A (k + 1) - wid (knd A (skA enc A (k + 1)).toNat),skA enc A (k + 1),knd A (skA enc A (k + 1)).toNat⟩
def lns (enc:Int) (A:List Int) (m:Nat):List Ln:=(List.range m).map fun k=>lnK enc A (k:Nat)
def cnt (enc:Int) (A:List Int):Int:=if A.length=0∨skA enc A (spn enc A).b < A.length then (spn enc A).b + 1 else (spn enc A).b
theorem bAt_le (enc:Int) (A:List Int) (p:Nat):bAt enc A p≤(spn enc A).b:=by
 rw [← bAt_len enc A (max p A.length) (Nat.le_max_right _ _)]
 exact bAt_mono enc A _ _ (Nat.le_max_left _ _)
theorem spn_nn (enc:Int) (A:List Int):0≤(spn enc A).b:=by rw [← bAt_len enc A A.length (Nat.le_refl _)];exact bAt_nn enc A _
theorem bAt_lip (enc:Int) (A:List Int):∀ p:Nat,bAt enc A p≤p:=by
 intro p
 induction p with
 | zero=>rw [bAt_zero];exact Int.le_refl _
 | succ p ih =>
   rcases Nat.lt_or_ge p A.length with h | h
   ·rw [bAt_succ enc A p h];split <;> omega
   ·rw [bAt_len enc A (p + 1) (by omega),← bAt_len enc A p h];omega
theorem spn_len (enc:Int) (A:List Int):(spn enc A).b≤A.length:=by rw [← bAt_len enc A A.length (Nat.le_refl _)];exact bAt_lip enc A _
theorem skA_zero (enc:Int) (A:List Int):skA enc A 0=0:=by unfold skA;rw [if_pos rfl]
theorem skA_in (enc:Int) (A:List Int) (k:Int) (h0:0≤k) (hk:k≤(spn enc A).b):0≤skA enc A k∧skA enc A k≤A.length:=by
 by_cases h:k=0
 ·subst h;rw [skA_zero];omega
 ·obtain ⟨p,e,h1,h2,_⟩:=skA_at enc A k (by omega) hk
  rw [e];omega
section
variable {enc:Int} {A:List Int} {i:Nat}
theorem ln_no {a:Int} (h:A[i]?=some a) (h1:a≠10) (h2:a≠13):bAt enc A (i + 1)=bAt enc A i:=by
 rw [bAt_succ enc A i (List.getElem?_eq_some_iff.1 h).1]
 unfold isE
 rw [h]
 simp [h1,h2]
theorem ln_new (p:Nat) (hp:1≤p) (h1:bAt enc A p=bAt enc A i + 1) (h2:bAt enc A (p - 1)=bAt enc A i):skA enc A (bAt enc A i + 1)=p∧bAt enc A i + 1≤(spn enc A).b ∧
  lnK enc A (bAt enc A i)=⟨skA enc A (bAt enc A i),p - wid (knd A p),p,knd A p⟩:=by
 have h3:=bAt_le enc A p
 have h4:=bAt_nn enc A i
 have e:=skA_uniq enc A (bAt enc A i + 1) (by omega) (by omega) p hp h1 (by omega)
 refine ⟨e,by omega,?_⟩
 unfold lnK
 rw [if_neg (by omega),e]
 rfl
theorem ln_lf (h:A[i]?=some 10) (hok:i=0∨A[i - 1]?≠some 13):bAt enc A (i + 1)=bAt enc A i + 1∧skA enc A (bAt enc A i + 1)=(i + 1:Nat)∧bAt enc A i + 1≤(spn enc A).b ∧
  lnK enc A (bAt enc A i)=⟨skA enc A (bAt enc A i),(i:Nat),(i + 1:Nat),1⟩:=by
 have hl:=(List.getElem?_eq_some_iff.1 h).1
 have e:bAt enc A (i + 1)=bAt enc A i + 1:=by
  rw [bAt_succ enc A i hl]
  unfold isE
  rw [h]
  simp
 obtain ⟨k1,k2,k3⟩:=ln_new (enc:=enc) (A:=A) (i:=i) (i + 1) (by omega) e rfl
 refine ⟨e,k1,k2,?_⟩
 have kd:knd A (i + 1)=1:=by
  unfold knd
  rw [show i + 1 - 1=i by omega,h,if_neg (by simp),if_neg]
  rintro ⟨q1,q2⟩
  rcases hok with rfl | hok
  ·omega
  ·exact hok (by rw [show i - 1=i + 1 - 2 by omega];exact q2)
 rw [k3,kd]
 unfold wid
 simp
theorem ln_crlf (h:A[i]?=some 13) (h':A[i + 1]?=some 10):bAt enc A (i + 2)=bAt enc A i + 1∧skA enc A (bAt enc A i + 1)=(i + 2:Nat)∧bAt enc A i + 1≤(spn enc A).b ∧
  lnK enc A (bAt enc A i)=⟨skA enc A (bAt enc A i),(i:Nat),(i + 2:Nat),2⟩:=by
 have hl:=(List.getElem?_eq_some_iff.1 h').1
 have e1:bAt enc A (i + 1)=bAt enc A i:=by
  rw [bAt_succ enc A i (by omega)]
  unfold isE
  rw [h,h']
  simp
 have e:bAt enc A (i + 2)=bAt enc A i + 1:=by
  rw [bAt_succ enc A (i + 1) hl,e1]
  unfold isE
  rw [h']
  simp
 obtain ⟨k1,k2,k3⟩:=ln_new (enc:=enc) (A:=A) (i:=i) (i + 2) (by omega) e e1
 refine ⟨e,k1,k2,?_⟩
 have kd:knd A (i + 2)=2:=by
  unfold knd
  rw [show i + 2 - 1=i + 1 by omega,h',if_neg (by simp),if_pos ⟨by omega,by rw [show i + 2 - 2=i by omega];exact h⟩]
 rw [k3,kd]
 unfold wid
 simp
theorem ln_cr (h:A[i]?=some 13) (h':A[i + 1]?≠some 10):bAt enc A (i + 1)=bAt enc A i + 1∧skA enc A (bAt enc A i + 1)=(i + 1:Nat)∧bAt enc A i + 1≤(spn enc A).b ∧
  lnK enc A (bAt enc A i)=⟨skA enc A (bAt enc A i),(i:Nat),(i + 1:Nat),3⟩:=by
 have hl:=(List.getElem?_eq_some_iff.1 h).1
 have e:bAt enc A (i + 1)=bAt enc A i + 1:=by
  rw [bAt_succ enc A i hl]
  unfold isE
  rw [h]
  simp [h']
 obtain ⟨k1,k2,k3⟩:=ln_new (enc:=enc) (A:=A) (i:=i) (i + 1) (by omega) e rfl
 refine ⟨e,k1,k2,?_⟩
 have kd:knd A (i + 1)=3:=by
  unfold knd
  rw [show i + 1 - 1=i by omega,h,if_pos rfl]
 rw [k3,kd]
 unfold wid
 simp
end
theorem cnt_tail (enc:Int) (A:List Int):cnt enc A=if 0 < (spn enc A).b∧skA enc A (spn enc A).b=A.length then (spn enc A).b else (spn enc A).b + 1:=by
 have h1:=skA_in enc A (spn enc A).b (spn_nn enc A) (Int.le_refl _)
 have h2:=spn_nn enc A
 have h3:=spn_len enc A
 unfold cnt
 by_cases h0:(spn enc A).b=0
 ·rw [if_neg (show ¬ (0 < (spn enc A).b∧_) by omega),h0,skA_zero,if_pos (by omega)]
 ·by_cases h4:skA enc A (spn enc A).b=A.length
  ·rw [if_neg (show ¬ (A.length=0∨skA enc A (spn enc A).b < A.length) by omega),if_pos ⟨by omega,h4⟩]
  ·rw [if_pos (show A.length=0∨skA enc A (spn enc A).b < A.length by omega),if_neg (fun e=>h4 e.2)]
open Go.RowKit
theorem rd_at {k:IntKind} {w:World} {ao:Option Addr} {n c:Nat} {zs:List Int} (h:Rd k w (.slice ao n c) zs) (i:Nat) (hi:i < zs.length):∃ b o,ao=some ⟨b,o,none⟩∧b < w.heap.size∧w.cell? ⟨b,o + i,none⟩=some (.int k (zs[i]?.getD 0))∧n≤c:=by
 obtain ⟨ao',c',e1,h1,_,h3⟩:=h
 simp only [Value.slice.injEq] at e1
 obtain ⟨rfl,rfl,rfl⟩:=e1
 obtain ⟨b,o,rfl,hb,hc⟩:=h3 (by intro e;subst e;simp at hi)
 exact ⟨b,o,rfl,hb,hc i hi,h1⟩
def lcs (x:Ln):List Value:=[.int .i64 x.f,.int .i64 x.t,.int .i64 x.n,.int .i64 x.b]
def lfl (xs:List Ln):List Value:=xs.flatMap lcs
def OwnL (w:World) (base:Nat) (v:Value) (xs:List Ln):Prop:=w.ownsRow base 69 4 v xs.length (lfl xs)
def RdL (w:World) (v:Value) (xs:List Ln):Prop:=∃ ao cap,v=.slice ao xs.length cap∧xs.length≤cap∧cap≤9223372036854775807∧(xs≠[]→∃ g,ao=some ⟨g,0,none⟩∧g < w.heap.size∧∀ i x,xs[i]?=some x →
 (w.cell? ⟨g,i * 4,none⟩=some (.int .i64 x.f)∧w.cell? ⟨g,i * 4 + 1,none⟩=some (.int .i64 x.t)∧w.cell? ⟨g,i * 4 + 2,none⟩=some (.int .i64 x.n)∧w.cell? ⟨g,i * 4 + 3,none⟩=some (.int .i64 x.b)))
section
variable {P:Program} {W:World} {ops:Array Oper} {rest:List Oper} {o:Oper} {a:Act} {Q:Exit→Act→World→Prop}
end
open Go.RowKit
theorem and_le (x:Int) (m:Nat) (hm:m < 2147483648):0≤bits .and .i64 x m∧bits .and .i64 x m≤m:=by
 have h:((BitVec.ofInt 64 x) &&& (BitVec.ofInt 64 (m:Int))).toNat≤m:=by
  rw [BitVec.toNat_and,BitVec.ofInt_natCast,BitVec.toNat_ofNat]
  exact Nat.le_trans Nat.and_le_right (Nat.mod_le _ _)
 have e:bits .and .i64 x m=IntKind.i64.wrap ((BitVec.ofInt 64 x) &&& (BitVec.ofInt 64 (m:Int))).toNat:=rfl
 rw [e,IntKind.wrap_i64]
 omega
theorem take_snoc {A:List Int} {i:Nat} {x:Int} (h:A[i]?=some x):A.take (i + 1)=A.take i ++ [x]:=by rw [List.take_add_one,h];rfl
set_option maxHeartbeats 4000000 in
theorem within_any (x:Int) (n:Nat) (w:World) (hx:-9223372036854775808≤x∧x≤9223372036854775807) (hn:n≤1099511627776):Calls Tryz.prog 9 #[.int .i64 x,.int .i64 (n:Nat)] w fun e w'=>∃ m:Nat,e=.returned (.int .i64 (m:Nat))∧m≤n∧w'=w:=by
 have hw1:IntKind.i64.wrap ((n:Int) + 1)=((n + 1:Nat):Int):=by rw [IntKind.wrap_i64];omega
 have hn1:¬ (((n + 1:Nat):Int)=0):=by omega
 by_cases h0:x < 0
 ·obtain ⟨y,hy⟩:∃ y:Nat,-(x + 1)=y:=⟨(-(x + 1)).toNat,by omega⟩
  have hw2:IntKind.i64.wrap (x + 1)=x + 1:=by rw [IntKind.wrap_i64];omega
  have hw3:IntKind.i64.wrap (-(x + 1))=(y:Nat):=by rw [hy,IntKind.wrap_i64];omega
  have HY:=zh (show y≤9223372036854775807 by omega)
  clear hy
  go_enter Tryz.func9,Tryz.ntmps9
  go_wp2_with fail
  go_ret
  exact ⟨y % (n + 1),congrArg (fun z=>Ending.returned (.int .i64 z)) (show (y:Int) % ((n:Int) + 1)=((y % (n + 1):Nat):Int) by simp),by have:=Nat.mod_lt y (show 0 < n + 1 by omega);omega,rfl⟩
 ·obtain ⟨y,rfl⟩:∃ y:Nat,x=y:=⟨x.toNat,by omega⟩
  go_enter Tryz.func9,Tryz.ntmps9
  go_wp2_with fail
  go_ret
  exact ⟨y % (n + 1),congrArg (fun z=>Ending.returned (.int .i64 z)) (show (y:Int) % ((n:Int) + 1)=((y % (n + 1):Nat):Int) by simp),by have:=Nat.mod_lt y (show 0 < n + 1 by omega);omega,rfl⟩
set_option maxHeartbeats 4000000 in
theorem copied_any (v:Value) (zs:List Int) (w:World) (h:Rd .i64 w v zs) (hz:zs.length * 8≤140737488351232):Calls Tryz.prog 7 #[v] w fun e w'=>∃ v',e=.returned v'∧Hid (OwnI w' w.heap.size v' zs)∧Below w.heap.size w w':=by
 obtain ⟨aa,ca,rfl,ha1,ha2,_⟩:=id h
 have HA:=zh h
 clear h
 have HI0:Hid (OwnI w w.heap.size (.slice none 0 0) (zs.take 0)∧Below w.heap.size w w):=⟨World.ownsRow_nil _ _ _ _,Below.refl _ _⟩
 go_enter Tryz.func7,Tryz.ntmps7
 go_wp2_with fail
 go_loopg [3,4] zs.length (fun gk lv p wr=>∃ (i:Nat) (ao:Option Addr) (n cap:Nat),i + gk=zs.length∧p=.int .i64 (i:Nat)∧lv=.slice ao n cap∧Hid (n=i∧OwnI wr w.heap.size (.slice ao n cap) (zs.take i)∧Below w.heap.size w wr))
 case atStart=>exact ⟨0,none,0,0,by omega,rfl,rfl,rfl,HI0.out⟩
 case round =>
  obtain ⟨i,ao,n,cap,hig,rfl,rfl,HI⟩:=hrel
  by_cases hlt:i < zs.length
  ·have hltI:(i:Int) < (zs.length:Int):=by omega
   obtain ⟨b,o,rfl,hbl,ci,_⟩:=rd_at (HA.out.ext HI.out.2.2) i hlt
   obtain ⟨x,hx⟩:∃ x,zs[i]?=some x:=⟨_,List.getElem?_eq_getElem hlt⟩
   rw [hx,Option.getD_some] at ci
   have HT:=zh (take_snoc hx)
   have HG:=zh hig
   clear hx hig
   have HOA:Hid (OwnI (wr.alloc (.cells #[.int .i64 x] 3)) w.heap.size (.slice ao n cap) (zs.take i)):=HI.out.2.1.ext (zxa (Below.refl _ _) _)
   have HNW:=zh (rdi_new wr x)
   have HBI:=zh HI.out.2.2
   have HZ:=zh (show w.heap.size≤(wr.alloc (.cells #[.int .i64 x] 3)).heap.size from Nat.le_trans HBI.out.size (size_alloc_le _ _))
   have HLN:=zh (show ((zs.take i).length + [x].length) * 8≤140737488355328 by rw [List.length_take];simp;omega)
   go_wp2_with (at_builtin;refine wpl_ints rfl _ _ 27 rfl w.heap.size Tryz.info_i64 Tryz.underlying27 (.slice ao n cap) (zs.take i) rfl HOA.out [x] (some ⟨wr.heap.size,0,none⟩) 1 1 rfl rfl (.inr ⟨_,rfl,HNW.out⟩) HLN.out HZ.out ?_;intro v8 w8 ho8 hb8;obtain ⟨a8,c8,hv8⟩:=ho8.form;generalize hn8:(zs.take i ++ [x]).length=n8 at hv8;have HN8:=zh hn8.symm;clear hn8;subst hv8;have HO8:=zh ho8;have HB8:=zh (HBI.out.trans ((zxa (Below.refl wr.heap.size wr) _).mono HBI.out.size |>.trans hb8));clear ho8 hb8)
   go_roundg (zs.length - (i + 1))
   case rel=>exact ⟨i + 1,a8,n8,c8,by omega,by go_num,rfl,HN8.out.trans (by rw [List.length_append,List.length_take];simp;omega),by rw [HT.out];exact HO8.out,HB8.out⟩
   case measure=>have:=HG.out;omega
  ·have hnl:¬ (i:Int) < (zs.length:Int):=by omega
   have HE:=zh (show zs.take i=zs from List.take_of_length_le (by omega))
   go_wp2_with fail
   go_ret
   exact ⟨_,rfl,by unfold Hid;have:=HI.out.2.1;rwa [HE.out] at this,HI.out.2.2⟩
open Go.RowKit
open Go.RowKit
theorem Tz.other {enc:Int} {w w':World} {t g:Nat} {A:List Int} {T:TypeId} (h:Tz enc w t A) (hk:Kps (fun k=>k=g) w w') (hg:Typ T w g) (h1:T≠5) (h2:T≠144) (h3:g≠t):Tz enc w' t A:=by
 obtain ⟨L,ps,k1,k2⟩:=h
 have hs:∀ b,b < w.heap.size→b≠g→w'.heap[b]?=w.heap[b]?:=fun b hb hn=>hk.same b hb hn
 obtain ⟨lv,u,q1,q2,q3⟩:=k1.ex
 refine ⟨L,ps,⟨⟨lv,u,(hs t (Array.getElem?_eq_some_iff.1 q1).1 (fun e=>h3 e.symm)).trans q1,q2.same ?_,q3.same ?_⟩,k1.pc.same ?_,k1.en,k1.by',k1.ll,k1.l0,k1.lm,k1.sz⟩,k2⟩
 ·exact fun b hb=>hs b hb.lt (fun e=>by subst e;exact h1 (hg.uniq hb))
 ·exact fun b hb=>hs b hb.lt (fun e=>by subst e;exact h2 (hg.uniq hb))
 ·exact fun b hb=>hs b hb.lt (fun e=>by subst e;exact h1 (hg.uniq hb))
open Go.RowKit
theorem OwnI.le {w:World} {base base':Nat} {v:Value} {zs:List Int} (h:OwnI w base v zs) (hb:base'≤base):OwnI w base' v zs:=by
 obtain ⟨h1,h2⟩:=h
 refine ⟨h1,?_⟩
 rcases h2 with h2 | ⟨g,cap,cur,hv,hg,r⟩
 ·exact .inl h2
 ·exact .inr ⟨g,cap,cur,hv,Nat.le_trans hb hg,r⟩
theorem OwnI.oth {w w':World} {base t:Nat} {v:Value} {zs:List Int} {T:TypeId} (h:OwnI w base v zs) (hk:Kps (fun k=>k=t) w w') (ht:Typ T w t) (hT:T≠3):OwnI w' base v zs:=by
 obtain ⟨h1,h2⟩:=id h
 refine ⟨h1,?_⟩
 rcases h2 with h2 | ⟨k,cap,cur,hv,hb,hgg,r⟩
 ·exact .inl h2
 ·refine .inr ⟨k,cap,cur,hv,hb,(hk.same k (Array.getElem?_eq_some_iff.1 hgg).1 (fun e=>?_)).trans hgg,r⟩
  subst e
  exact hT (Typ.uniq ht ⟨_,hgg⟩)
theorem OwnI.rdi {w:World} {base:Nat} {v:Value} {zs:List Int} (h:OwnI w base v zs):Rd .i64 w v zs:=Rd.of_own h
structure BtW (enc:Int) (w:World) (g t:Nat) (A:List Int) (m:Nat):Prop where
 ex:∃ v,w.heap[g]?=some (.cells #[.pointer (some ⟨t,0,none⟩),v] 29 (0,0))∧OwnI w 0 v A
 tz:Tz enc w t A
 bd:ln enc A≤50000 + 64 * m
 en:Cx.En enc
theorem cells2 {w:World} {b:Nat} {T:TypeId} {v0 v1:Value} (h:w.heap[b]?=some (.cells #[v0,v1] T (0,0))):b < w.heap.size∧w.cell? ⟨b,0,none⟩=some v0∧w.cell? ⟨b,1,none⟩=some v1∧(∀ i,w.frozen? ⟨b,i,none⟩=false):=by
 refine ⟨(Array.getElem?_eq_some_iff.1 h).1,?_,?_,fun i=>by simp [World.frozen?,h]⟩ <;> (rw [cell_of_row _ _ _ _ _ _ h];rfl)
open Go.RowKit
def OwnB (w:World) (base:Nat) (v:Value) (zs:List Int):Prop:=w.ownsRow base 5 1 v zs.length (zs.map (Value.int .u8))
theorem OwnB.form {w:World} {base:Nat} {v:Value} {zs:List Int} (h:OwnB w base v zs):∃ ao cap,v=.slice ao zs.length cap:=by
 rcases h.2 with ⟨rfl,hn⟩ | ⟨g,cap,cur,hv,_⟩
 ·exact ⟨none,0,by rw [hn]⟩
 ·exact ⟨_,cap,hv⟩
theorem OwnB.ext {w w':World} {base:Nat} {v:Value} {zs:List Int} (h:OwnB w base v zs) (hb:Below w.heap.size w w'):OwnB w' base v zs:=World.ownsRow.kept (row:=none) h ⟨hb.os,hb.tape,hb.output,hb.size,fun k hk _=>hb.block k hk⟩ (by cases v.ownBlock <;> simp)
theorem rdb_new (w:World) (x:Int):∀ j u,([x].map (Value.int .u8))[j]?=some u→(w.alloc (.cells #[.int .u8 x] 5)).cell? ((⟨w.heap.size,0,none⟩:Addr).add j)=some u:=fun j u hj=>by
 cases j with
 | zero =>
   simp only [List.map_cons,List.getElem?_cons_zero,Option.some.injEq] at hj
   subst hj
   rw [show ((⟨w.heap.size,0,none⟩:Addr).add 0)=⟨w.heap.size,0,none⟩ from rfl,cell_of_row _ _ _ _ _ _ (heap_alloc_new _ _)]
   rfl
 | succ j=>simp at hj
section
variable {P:Program} {W:World} {ops:Array Oper} {rest:List Oper} {o:Oper} {a:Act} {Q:Exit→Act→World→Prop}
theorem wpl_byte (hgd:o.guard=none) (s x:Operand) (t:TypeId) (ho:o.op=.call { callee:=.builtin .append,args:=#[s,x],argTypes:=#[t,t] })
  (base:Nat) (hinf:(P.info? 5).map (fun i=>(i.zero,i.size,i.bytes))=some (some (.int .u8 0),1,1)) (ht:P.underlying t=some (.slice 5))
  (v:Value) (zs:List Int) (hs:a.eval s=v) (hown:OwnB W base v zs) (y:Int) (g:Nat) (hx:a.eval x=.slice (some ⟨g,0,none⟩) 1 1)
  (hys:∀ j u,([y].map (Value.int .u8))[j]?=some u→W.cell? ((⟨g,0,none⟩:Addr).add j)=some u) (hl:zs.length + 1≤1099511627776) (hbase:base≤W.heap.size)
  (h:∀ v' w',OwnB w' base v' (zs ++ [y])→Below base W w'→wpList P ops Q rest (a.put o.dst v') w'):wpList P ops Q (o :: rest) a W:=by
 obtain ⟨i0,hi,hz0,hz1,hz2⟩:=info_parts hinf
 refine wpList_append_own W hgd s x t ho base 5 i0 (.int .u8 0) 1 1 ht hi hz0 hz1 hz2 rfl (by decide) v zs.length (zs.map (Value.int .u8)) hs hown ⟨g,0,none⟩ 1 1 ([y].map (Value.int .u8)) hx (by simp) hys (fun u hu=>by rw [List.mem_map] at hu;obtain ⟨_,_,rfl⟩:=hu;rfl) (by unfold maxLen;omega) (by omega) hbase ?_
 intro v' w' h1 h2 _
 refine h v' w' ?_ ((Below.refl _ _).grown h2 hbase (fun k hk=>(World.ownsRow.lt hown k hk).1))
 unfold OwnB
 rw [List.length_append,List.map_append]
 exact h1
end
def OpO (w:World) (t:Nat) (v:Value) (w':World):Prop:=∃ enc A,Cx.En enc∧OwnI w' w.heap.size v A∧Tz enc w' t A∧ln enc A≤50000∧w.heap.size≤t
set_option maxHeartbeats 8000000 in
theorem opened_any (e0:Int) (vd:Value) (D:List Int) (w:World) (hD:Rd .u8 w vd D) (hB:Byt D):Calls Tryz.prog 5 #[.agg #[.int .i64 e0,vd]] w fun e w'=>∃ t v,e=.returned (.tuple #[.agg #[.pointer (some ⟨t,0,none⟩),v],.bool true])∧Hid (OpO w t v w')∧Below w.heap.size w w':=by
 obtain ⟨ad,cd,rfl,hd1,hd2,_⟩:=id hD
 have hD9:=hD.len
 obtain ⟨q1,q2⟩:=and_le e0 3 (by decide)
 generalize hq:bits .and .i64 e0 (3:Nat)=q at q1 q2
 have hq':bits .and .i64 e0 3=q:=hq
 obtain ⟨enc,he⟩:∃ enc,enc=1 + q:=⟨_,rfl⟩
 have HEN:Hid (Cx.En enc):=by unfold Hid Cx.En;omega
 have hwe:IntKind.i64.wrap (1 + q)=enc:=by rw [IntKind.wrap_i64];omega
 have HKN:Hid (Cx.known enc=true):=(Cx.known_iff enc).2 HEN.out
 clear hq q1 q2 he
 obtain ⟨w0,hw0⟩:∃ w0,w0=(w.alloc (.cells #[.int .i64 e0,.slice ad D.length cd] 24)).alloc (.cells #[.pointer none,.slice none 0 0] 29):=⟨_,rfl⟩
 have HS0:Hid (w0.heap[w.heap.size]?=some (.cells #[.int .i64 e0,.slice ad D.length cd] 24 (0,0))∧w0.heap[w.heap.size + 1]?=some (.cells #[.pointer none,.slice none 0 0] 29 (0,0))∧Below w.heap.size w w0∧w0.heap.size=w.heap.size + 2):=by
  obtain ⟨v1,hv1⟩:∃ v,v=w.alloc (.cells #[.int .i64 e0,.slice ad D.length cd] 24):=⟨_,rfl⟩
  rw [← hv1] at hw0
  have s1:v1.heap.size=w.heap.size + 1:=by rw [hv1];simp
  have b1:Below w.heap.size w v1:=by rw [hv1];exact zxa (Below.refl _ _) _
  have b2:Below v1.heap.size v1 w0:=by rw [hw0];exact zxa (Below.refl _ _) _
  refine ⟨(b2.block _ (by omega)).trans (by rw [hv1];exact heap_alloc_new _ _),?_,zxt b1 b2,by rw [hw0];simp [s1]⟩
  rw [← s1,hw0];exact heap_alloc_new _ _
 have HC:Hid (∀ w',Below w0.heap.size w0 w'→w'.cell? ⟨w.heap.size,0,none⟩=some (.int .i64 e0)∧w'.cell? ⟨w.heap.size,1,none⟩=some (.slice ad D.length cd)∧w'.heap[w.heap.size + 1]?=some (.cells #[.pointer none,.slice none 0 0] 29 (0,0))):=fun w' hb=>by
  have hs:=HS0.out.2.2.2
  obtain ⟨_,k0,k1,_⟩:=cells2 ((hb.block _ (by omega)).trans HS0.out.1)
  exact ⟨k0,k1,(hb.block _ (by omega)).trans HS0.out.2.1⟩
 have HD:=zh (hD.ext HS0.out.2.2.1)
 have HBY:=zh hB
 have HB0:=zh HS0.out.2.2.1
 clear hD hB
 obtain ⟨c0,c1,_⟩:=HC.out w0 (Below.refl _ _)
 go_enter Tryz.func5,Tryz.ntmps5
 go_upto_region 1 with fail
 rw [← hw0]
 clear hw0
 go_upto_block 0 with fail
 clear hq'
 go_cut [5] from 15 to 33 (fun lv wF=>∃ (ao:Option Addr) (n cap:Nat) (zs:List Int),lv=.slice ao n cap∧Hid (OwnB wF w0.heap.size (.slice ao n cap) zs∧Byt zs∧zs.length≤50000∧Below w0.heap.size w0 wF))
 case first =>
  have HI0:Hid (OwnB w0 w0.heap.size (.slice none 0 0) (D.take 0)∧Below w0.heap.size w0 w0):=⟨World.ownsRow_nil _ _ _ _,Below.refl _ _⟩
  clear c0 c1
  go_wp2_with fail
  go_loopg [5,6] D.length (fun gk lv p wr=>∃ (i:Nat) (ao:Option Addr) (n cap:Nat),i + gk=D.length∧i≤50000∧p=.int .i64 (i:Nat)∧lv=.slice ao n cap∧Hid (OwnB wr w0.heap.size (.slice ao n cap) (D.take i)∧Below w0.heap.size w0 wr))
  case atStart=>exact ⟨0,none,0,0,by omega,by omega,rfl,rfl,HI0.out⟩
  case round =>
   obtain ⟨i,ao,n,cap,hig,hi5,rfl,rfl,HI⟩:=hrel
   have HBT:Hid (Byt (D.take i)):=fun z hz=>HBY.out z (List.mem_of_mem_take hz)
   obtain ⟨c0,c1,_⟩:=HC.out wr HI.out.2
   have HG:=zh hig
   clear hig
   by_cases hlt:i < D.length
   ·have hltI:(i:Int) < (D.length:Int):=by omega
    by_cases hl5:(i:Int) < 50000
    ·obtain ⟨b,o,rfl,hbl,ci,_⟩:=rd_at (HD.out.ext HI.out.2) i hlt
     obtain ⟨x,hx⟩:∃ x,D[i]?=some x:=⟨_,List.getElem?_eq_getElem hlt⟩
     rw [hx,Option.getD_some] at ci
     have HT:=zh (take_snoc hx)
     clear hx
     have HOA:Hid (OwnB (wr.alloc (.cells #[.int .u8 x] 5)) w0.heap.size (.slice ao n cap) (D.take i)):=HI.out.1.ext (zxa (Below.refl _ _) _)
     have HNW:=zh (rdb_new wr x)
     have HBI:=zh HI.out.2
     have HZ:=zh (show w0.heap.size≤(wr.alloc (.cells #[.int .u8 x] 5)).heap.size from Nat.le_trans HBI.out.size (size_alloc_le _ _))
     have HLN:=zh (show (D.take i).length + 1≤1099511627776 by rw [List.length_take];omega)
     go_wp2_with (at_builtin;refine wpl_byte rfl _ _ 22 rfl w0.heap.size Tryz.info_u8 Tryz.underlying22 (.slice ao n cap) (D.take i) rfl HOA.out x wr.heap.size rfl HNW.out HLN.out HZ.out ?_;intro v8 w8 ho8 hb8;obtain ⟨a8,c8,hv8⟩:=ho8.form;generalize hn8:(D.take i ++ [x]).length=n8 at hv8;clear hn8;subst hv8;have HO8:=zh ho8;have HB8:=zh (HBI.out.trans ((zxa (Below.refl wr.heap.size wr) _).mono HBI.out.size |>.trans hb8));clear ho8 hb8)
     go_roundg (D.length - (i + 1))
     case rel=>exact ⟨i + 1,a8,n8,c8,by have:=HG.out;omega,by omega,by go_num,rfl,by rw [HT.out];exact HO8.out,HB8.out⟩
     case measure=>have:=HG.out;omega
    ·go_wp2_with fail
     go_meet
     case rel=>exact ⟨ao,n,cap,D.take i,rfl,HI.out.1,HBT.out,by rw [List.length_take];omega,HI.out.2⟩
   ·have hnl:¬ (i:Int) < (D.length:Int):=by omega
    go_wp2_with fail
    go_meet
    case rel=>exact ⟨ao,n,cap,D.take i,rfl,HI.out.1,HBT.out,by rw [List.length_take];omega,HI.out.2⟩
 obtain ⟨ao,n,cap,zs,rfl,HI⟩:=hcut
 have HRZ:Hid (Rd .u8 wc (.slice ao n cap) zs):=Rd.of_own HI.out.1
 have RD:Hid (Calls Tryz.prog 29 #[.int .i64 enc,.slice ao n cap] wc fun e w'=>∃ v',e=.returned (.tuple #[v',.int .i64 0])∧Hid (OwnI w' wc.heap.size v' (Cx.dec enc zs))∧Below wc.heap.size wc w'):=by
  refine (rDecode_any enc _ zs wc HRZ.out HI.out.2.1 (by have:=HI.out.2.2.1;omega)).mono fun e w' ⟨v',k1,k2,k3⟩=>⟨v',?_,?_,k3⟩
  ·rw [k1];unfold Cx.er;rw [if_pos HKN.out]
  ·rw [Cx.dd_yes enc zs HKN.out] at k2;exact k2
 have OP:Hid (∀ w',Below wc.heap.size wc w'→Calls Tryz.prog 30 #[.int .i64 enc,.slice ao n cap,.int .i64 65536] w' fun e w''=>OpR enc 65536 zs w' e w''):=fun w' hb=>Open_good enc 65536 _ zs w' (HRZ.out.ext hb) HI.out.2.1 (by unfold opE;rw [if_pos HKN.out,if_neg (by omega),if_neg (by have:=HI.out.2.2.1;omega)])
 have HBC:=zh HI.out.2.2.2
 clear c0 c1
 go_upto_region 9 with (first
  | (go_at_call 29;refine RD.out.mono ?_;rintro e w2 ⟨v2,rfl,ho2,hb⟩;obtain ⟨a2,k2,hv2⟩:=ho2.out.form;generalize hn2:(Cx.dec enc zs).length=n2 at hv2;clear hn2;subst hv2;have HO2:=zh ho2.out;have HB2:=zh hb;clear ho2 hb;(try dsimp only))
  | (go_at_call 30;refine (OP.out _ HB2.out).mono ?_;rintro e w3 ⟨t,ps,rfl,hop,hb⟩;have HOP:=zh hop;have HB3:=zh hb;clear hop hb;(try dsimp only)))
 have HW3:=zh (zxt (zxt HBC.out HB2.out) HB3.out)
 have HX:=zh (HC.out w3 HW3.out).2.2
 obtain ⟨_,c0,c1,fz⟩:=cells2 HX.out
 go_wp2_with fail
 refine bodyPost_ret (v:=.tuple #[.agg #[.pointer (some ⟨t,0,none⟩),.slice a2 n2 k2],.bool true]) (by simp [results,Tryz.results5,go_sem,c0,c1]) rfl ⟨t,.slice a2 n2 k2,rfl,?_,?_⟩
 ·obtain ⟨h1,g1⟩:=set1 HX.out 0 (.pointer (some ⟨t,0,none⟩))
  obtain ⟨h2,g2⟩:=set1 h1 1 (.slice a2 n2 k2)
  have hk:Kps (fun k=>k=w.heap.size + 1) w3 ((w3.setCell ⟨w.heap.size + 1,0,none⟩ (.pointer (some ⟨t,0,none⟩))).setCell ⟨w.heap.size + 1,1,none⟩ (.slice a2 n2 k2)):=Kps.grown (zgt g1 g2) fun j e _=>by cases e;rfl
  have hty:Typ 29 w3 (w.heap.size + 1):=⟨_,HX.out⟩
  have htz:Tz enc w3 t (Cx.dec enc zs):=⟨zs,ps,HOP.out.1,by rw [← sh_fst enc,HOP.out.2.1,ctn_fst]⟩
  have hle:w.heap.size≤wc.heap.size:=(zxt HB0.out HBC.out).size
  refine ⟨enc,Cx.dec enc zs,HEN.out,((HO2.out.ext HB3.out).oth hk hty (by decide)).le hle,htz.other hk hty (by decide) (by decide) (fun e=>?_),?_,Nat.le_trans (Nat.le_trans hle HB2.out.size) HOP.out.2.2⟩
  ·rw [e] at hty
   exact absurd (Typ.uniq hty htz.typ) (by decide)
  ·unfold ln
   rw [(Cx.back_all enc HEN.out _ zs (Nat.le_refl _) HI.out.2.1).1]
   exact HI.out.2.2.1
 ·obtain ⟨h1,g1⟩:=set1 HX.out 0 (.pointer (some ⟨t,0,none⟩))
  obtain ⟨h2,g2⟩:=set1 h1 1 (.slice a2 n2 k2)
  exact zbp (zxt HB0.out HW3.out) (zxt HB0.out HW3.out).size (zgt g1 g2) (by omega)
open Go.RowKit
structure AlI (enc:Int) (A:List Int) (w:World) (ao:Option Addr) (n cap:Nat) (i:Nat) (f:Int) (wr:World):Prop where
 n':(n:Int)=bAt enc A i
 f':f=skA enc A (bAt enc A i)
 ok:A[i]?=some 10→i=0∨A[i - 1]?≠some 13
 own:OwnL wr w.heap.size (.slice ao n cap) (lns enc A n)
 bel:Below w.heap.size w wr
open Go.RowKit
theorem cells4 {w:World} {b:Nat} {T:TypeId} {v0 v1 v2 v3:Value} (h:w.heap[b]?=some (.cells #[v0,v1,v2,v3] T (0,0))):b < w.heap.size∧w.cell? ⟨b,0,none⟩=some v0∧w.cell? ⟨b,1,none⟩=some v1∧w.cell? ⟨b,2,none⟩=some v2∧w.cell? ⟨b,3,none⟩=some v3∧(∀ i,w.frozen? ⟨b,i,none⟩=false):=by
 refine ⟨(Array.getElem?_eq_some_iff.1 h).1,?_,?_,?_,?_,fun i=>by simp [World.frozen?,h]⟩ <;> (rw [cell_of_row _ _ _ _ _ _ h];rfl)
theorem below4 {w w0 w1:World} {T:TypeId} {cs:Array Value} (hb0:Below w.heap.size w w0) (hg:w1.heap[w.heap.size]?=some (.cells cs T (0,0))) (hb:Below w0.heap.size w0 w1) (v0 v1 v2 v3:Value):Below w.heap.size w ((((w1.setCell ⟨w.heap.size,0,none⟩ v0).setCell ⟨w.heap.size,1,none⟩ v1).setCell ⟨w.heap.size,2,none⟩ v2).setCell ⟨w.heap.size,3,none⟩ v3):=by
 obtain ⟨h1,g1⟩:=set1 hg 0 v0
 obtain ⟨h2,g2⟩:=set1 h1 1 v1
 obtain ⟨h3,g3⟩:=set1 h2 2 v2
 obtain ⟨_,g4⟩:=set1 h3 3 v3
 exact zbp (zxt hb0 hb) (zxt hb0 hb).size (zgt (zgt (zgt g1 g2) g3) g4) (Nat.le_refl _)
def lnA (enc:Int) (A:List Int) (k:Int):Ln:=if k < 0∨(spn enc A).b < k then ⟨0,0,0,0⟩ else lnK enc A k
def lnE (enc:Int) (A:List Int) (k:Int):Int:=if k < 0∨(spn enc A).b < k then 2 else 0
open Go.RowKit
theorem sub_one (A:List Int) (p:Int):sub A p (p + 1)=if 0≤p then (A[p.toNat]?).toList else []:=by
 unfold sub clp
 by_cases h0:0≤p
 ·rw [if_pos h0]
  by_cases h1:p.toNat < A.length
  ·rw [if_neg (by omega),List.getElem?_eq_getElem h1]
   simp only
   rw [show (max p 0).toNat=p.toNat by omega,show (min (p + 1) (A.length:Int)).toNat - p.toNat=1 by omega,List.drop_eq_getElem_cons h1]
   rfl
  ·rw [if_pos (by omega),List.getElem?_eq_none (by omega)]
   simp
 ·rw [if_neg h0,if_pos (by omega)]
  simp
def isA (A:List Int) (p x:Int):Bool:=decide (0≤p∧A[p.toNat]?=some x)
theorem isAtom_any (enc:Int) (w:World) (t:Nat) (A:List Int) (p x:Int) (h:Tz enc w t A) (h1:-9≤p) (h2:p≤1099511627776):Calls Tryz.prog 37 #[.pointer (some ⟨t,0,none⟩),.int .i64 p,.int .i64 x] w fun e w'=>e=.returned (.bool (isA A p x))∧Below w.heap.size w w':=by
 have hw:IntKind.i64.wrap (p + 1)=p + 1:=by rw [IntKind.wrap_i64];omega
 have AT:=zh (Atoms_z enc w t A p (p + 1) h)
 rw [sub_one] at AT
 clear h
 by_cases hc:0≤p∧p.toNat < A.length
 ·obtain ⟨y,hy⟩:∃ y,A[p.toNat]?=some y:=⟨_,List.getElem?_eq_getElem hc.2⟩
  rw [if_pos hc.1,hy] at AT
  have HA:Hid (isA A p x=decide (y=x)):=by unfold Hid isA;simp [hc.1,hy]
  clear hc
  go_enter Tryz.func37,Tryz.ntmps37
  go_wp2_with (go_at_call 19;refine AT.out.mono ?_;rintro e w1 ⟨v,rfl,ho,hb⟩;obtain ⟨g,cap,rfl,hg,hl,hm,hcc⟩:=OwnI.row ho (by simp);have c0:w1.cell? ⟨g,0,none⟩=some (.int .i64 y):=hcc 0 _ rfl;have HB:=zh hb;clear hb ho hcc;(try dsimp only [Option.toList,List.length_cons,List.length_nil,Nat.zero_add] at *))
  go_ret
  exact ⟨by rw [HA.out];rfl,HB.out⟩
 ·have e:(if 0≤p then (A[p.toNat]?).toList else [])=[]:=by
   split
   ·rw [List.getElem?_eq_none (by omega)];rfl
   ·rfl
  rw [e] at AT
  have HA:Hid (isA A p x=false):=by
   unfold Hid isA
   rw [decide_eq_false_iff_not]
   rintro ⟨q1,q2⟩
   exact hc ⟨q1,(List.getElem?_eq_some_iff.1 q2).1⟩
  clear e hc
  go_enter Tryz.func37,Tryz.ntmps37
  go_wp2_with (go_at_call 19;refine AT.out.mono ?_;rintro e w1 ⟨v,rfl,ho,hb⟩;obtain ⟨ao,cap,rfl⟩:=ho.form;have HB:=zh hb;clear hb ho;(try dsimp only [List.length_nil]))
  go_ret
  exact ⟨by rw [HA.out];rfl,HB.out⟩
end Go.Proofs.YtgfdfajblidleaaGreat.P
