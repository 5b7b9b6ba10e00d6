import Derived.Test.YtgfdfajblidleaaGreatK30
import Derived.Test.YtgfdfajblidleaaGreatK35
import Derived.Deep.LoopGhost
import Derived.Deep.CutBlock
import Derived.Deep.CutRange
set_option maxRecDepth 100000
namespace Go.Proofs.YtgfdfajblidleaaGreat.P
open Go.RowKit
theorem OwnI.ext {w w':World} {base:Nat} {v:Value} {zs:List Int} (h:OwnI w base v zs) (hb:Below w.heap.size w w'):OwnI w' base v zs:=World.ownsRow.kept (row:=none) h ⟨hb.os,hb.tape,hb.output,hb.size,fun k hk _=>hb.block k hk⟩ (by cases v.ownBlock <;> simp)
theorem Tx.typ {enc lim:Int} {L:List Int} {w:World} {t:Nat} {ps:List PG} (h:Tx enc lim L w t ps):Typ 115 w t:=by
 obtain ⟨_,_,h1,_⟩:=h.ex
 exact ⟨_,h1⟩
section
variable {P:Program} {W:World} {ops:Array Oper} {rest:List Oper} {o:Oper} {a:Act} {Q:Exit→Act→World→Prop}
theorem wpl_ints (hgd:o.guard=none) (s x:Operand) (t:TypeId) (ho:o.op=.call { callee:=.builtin .append,args:=#[s,x],argTypes:=#[t,t] })
  (base:Nat) (hinf:(P.info? 3).map (fun i=>(i.zero,i.size,i.bytes))=some (some (.int .i64 0),1,8)) (ht:P.underlying t=some (.slice 3))
  (v:Value) (zs:List Int) (hs:a.eval s=v) (hown:OwnI W base v zs) (ys:List Int) (ao:Option Addr) (m c:Nat) (hx:a.eval x=.slice ao m c) (hm:m=ys.length)
  (hys:(ao=none∧c=0∧ys=[])∨∃ ad,ao=some ad∧∀ j u,(ys.map (Value.int .i64))[j]?=some u→W.cell? (ad.add j)=some u) (hl:(zs.length + ys.length) * 8≤140737488355328) (hbase:base≤W.heap.size)
  (h:∀ v' w',OwnI w' base v' (zs ++ ys)→Below base W w'→wpList P ops Q rest (a.put o.dst v') w'):wpList P ops Q (o :: rest) a W:=by
 obtain ⟨i0,hi,hz0,hz1,hz2⟩:=info_parts hinf
 subst hm
 rcases hys with ⟨rfl,rfl,rfl⟩ | ⟨ad,rfl,hc⟩
 ·refine wpList_append_own_none hgd s x t ho base 3 i0 1 ht hi v zs.length (zs.map (Value.int .i64)) hs hown hx ?_
  exact h v W (by rw [List.append_nil];exact hown) (Below.refl _ _)
 ·refine wpList_append_own W hgd s x t ho base 3 i0 (.int .i64 0) 1 8 ht hi hz0 hz1 hz2 rfl (by decide) v zs.length (zs.map (Value.int .i64)) hs hown ad ys.length c (ys.map (Value.int .i64)) hx (by simp) hc (fun u hu=>by rw [List.mem_map] at hu;obtain ⟨_,_,rfl⟩:=hu;rfl) (by unfold maxLen;omega) (by omega) hbase ?_
  intro v' w' h1 h2 _
  refine h v' w' ?_ ((Below.refl _ _).grown h2 hbase (fun k hk=>(World.ownsRow.lt hown k hk).1))
  unfold OwnI
  rw [List.length_append,List.map_append]
  exact h1
end
theorem OwnI.row {w:World} {base:Nat} {v:Value} {zs:List Int} (h:OwnI w base v zs) (hn:zs≠[]):∃ g cap,v=.slice (some ⟨g,0,none⟩) zs.length cap∧g < w.heap.size∧zs.length≤cap∧cap≤9223372036854775807∧∀ j u,(zs.map (Value.int .i64))[j]?=some u→w.cell? ((⟨g,0,none⟩:Addr).add j)=some u:=by
 rcases h.2 with ⟨_,h2⟩ | ⟨g,cap,cur,hv,hb,hg,h3,h4,h5,h6⟩
 ·exact absurd (List.length_eq_zero_iff.1 h2) hn
 ·exact ⟨g,cap,hv,(Array.getElem?_eq_some_iff.1 hg).1,h3,by unfold maxLen at h4;exact h4,World.ownsRow.cells h (by rw [hv];simp [Value.ownBlock])⟩
theorem edr_lit1 (w:World) (f t:Int) (pv:Value) (put:List Int) (h:Rd .i64 w pv put):EdR (w.alloc (.cells #[.int .i64 f,.int .i64 t,pv] 97)) (.slice (some ⟨w.heap.size,0,none⟩) 1 1) [(f,t,put)]:=by
 refine ⟨some ⟨w.heap.size,0,none⟩,1,rfl,by simp,by omega,fun _=>⟨w.heap.size,0,rfl,by simp,fun i e he=>?_⟩⟩
 cases i with
 | zero =>
   simp only [List.getElem?_cons_zero,Option.some.injEq] at he
   subst he
   have e:=heap_alloc_new w (.cells #[.int .i64 f,.int .i64 t,pv] 97)
   refine ⟨?_,?_,pv,?_,h.ext (zxa (Below.refl _ _) _)⟩ <;> (rw [cell_of_row _ _ _ _ _ _ e];rfl)
 | succ i=>simp at he
theorem rdi_new (w:World) (x:Int):∀ j u,([x].map (Value.int .i64))[j]?=some u→(w.alloc (.cells #[.int .i64 x] 3)).cell? ((⟨w.heap.size,0,none⟩:Addr).add j)=some u:=fun j u hj=>by
 cases j with
 | zero =>
   simp only [List.map_cons,List.getElem?_cons_zero,Option.some.injEq] at hj
   subst hj
   rw [show ((⟨w.heap.size,0,none⟩:Addr).add 0)=⟨w.heap.size,0,none⟩ from rfl,cell_of_row _ _ _ _ _ _ (heap_alloc_new _ _)]
   rfl
 | succ j=>simp at hj
open Go.RowKit
def Tz (enc:Int) (w:World) (t:Nat) (A:List Int):Prop:=∃ L ps,Tx enc 65536 L w t ps∧asOf ps=A
theorem Tz.ext {enc:Int} {w w':World} {t:Nat} {A:List Int} (h:Tz enc w t A) (hb:Below w.heap.size w w'):Tz enc w' t A:=by
 obtain ⟨L,ps,h1,h2⟩:=h
 exact ⟨L,ps,h1.ext hb,h2⟩
theorem Tz.len {enc:Int} {w:World} {t:Nat} {A:List Int} (h:Tz enc w t A):A.length≤65536:=by
 obtain ⟨L,ps,h1,rfl⟩:=h
 rw [← sh_len enc]
 exact h1.sum.2.2
theorem Tz.typ {enc:Int} {w:World} {t:Nat} {A:List Int} (h:Tz enc w t A):Typ 115 w t:=by
 obtain ⟨L,ps,h1,rfl⟩:=h
 exact h1.typ
theorem Len_z (enc:Int) (w:World) (t:Nat) (A:List Int) (h:Tz enc w t A):Calls Tryz.prog 32 #[.pointer (some ⟨t,0,none⟩)] w fun e w'=>e=.returned (.int .i64 (A.length:Nat))∧Below w.heap.size w w':=by
 obtain ⟨L,ps,h1,rfl⟩:=h
 have:=Len_any enc 65536 L w t ps h1
 rwa [sh_len] at this
theorem Breaks_z (enc:Int) (w:World) (t:Nat) (A:List Int) (z:Int) (h:Tz enc w t A):Calls Tryz.prog 31 #[.pointer (some ⟨t,0,none⟩),.int .i64 z] w fun e w'=>e=.returned (.int .i64 (brk enc A z))∧Below w.heap.size w w':=by
 obtain ⟨L,ps,h1,rfl⟩:=h
 exact Breaks_any enc 65536 L w t ps z h1
theorem Seek_z (enc:Int) (w:World) (t:Nat) (A:List Int) (k:Int) (h:Tz enc w t A):Calls Tryz.prog 40 #[.pointer (some ⟨t,0,none⟩),.int .i64 k] w fun e w'=>e=.returned (.int .i64 (skA enc A k))∧Below w.heap.size w w':=by
 obtain ⟨L,ps,h1,rfl⟩:=h
 exact Seek_any enc 65536 L w t ps k h1
def sub (A:List Int) (a b:Int):List Int:=(A.drop (clp A.length a b).1).take ((clp A.length a b).2 - (clp A.length a b).1)
theorem Atoms_z (enc:Int) (w:World) (t:Nat) (A:List Int) (a b:Int) (h:Tz enc w t A):Calls Tryz.prog 19 #[.pointer (some ⟨t,0,none⟩),.int .i64 a,.int .i64 b] w fun e w'=>AtR (sub A a b) w e w':=by
 obtain ⟨L,ps,h1,rfl⟩:=h
 have:=Atoms_any enc 65536 L w t ps a b h1
 unfold btw at this
 rwa [List.map_take,List.map_drop,sh_fst,sh_len] at this
open Go.RowKit
def knd (A:List Int) (e:Nat):Int:=if A[e - 1]?=some 13 then 3 else if 2≤e∧A[e - 2]?=some 13 then 2 else 1
def wid (k:Int):Int:=if k=2 then 2 else 1
structure Ln where
 f:Int
 t:Int
 n:Int
 b:Int
def lnK (enc:Int) (A:List Int) (k:Int):Ln :=
 if k=(spn enc A).b then ⟨skA enc A k,A.length,A.length,0⟩
 else ⟨skA enc A k,skA enc A (k + 1) - wid (knd A (skA enc A (k + 1)).toNat),skA enc A (k + 1),knd A (skA enc A (k + 1)).toNat⟩
def lns (enc:Int) (A:List Int) (m:Nat):List Ln:=(List.range m).map fun k=>lnK enc A (k:Nat)
theorem lns_len (enc:Int) (A:List Int) (m:Nat):(lns enc A m).length=m:=by simp [lns]
theorem lns_at (enc:Int) (A:List Int) (m i:Nat) (h:i < m):(lns enc A m)[i]?=some (lnK enc A (i:Nat)):=by simp [lns,h]
theorem lns_succ (enc:Int) (A:List Int) (m:Nat):lns enc A (m + 1)=lns enc A m ++ [lnK enc A (m:Nat)]:=by simp [lns,List.range_succ]
def cnt (enc:Int) (A:List Int):Int:=if A.length=0∨skA enc A (spn enc A).b < A.length then (spn enc A).b + 1 else (spn enc A).b
theorem bAt_le (enc:Int) (A:List Int) (p:Nat):bAt enc A p≤(spn enc A).b:=by
 rw [← bAt_len enc A (max p A.length) (Nat.le_max_right _ _)]
 exact bAt_mono enc A _ _ (Nat.le_max_left _ _)
theorem spn_nn (enc:Int) (A:List Int):0≤(spn enc A).b:=by rw [← bAt_len enc A A.length (Nat.le_refl _)];exact bAt_nn enc A _
theorem bAt_lip (enc:Int) (A:List Int):∀ p:Nat,bAt enc A p≤p:=by
 intro p
 induction p with
 | zero=>rw [bAt_zero];exact Int.le_refl _
 | succ p ih =>
   rcases Nat.lt_or_ge p A.length with h | h
   ·rw [bAt_succ enc A p h];split <;> omega
   ·rw [bAt_len enc A (p + 1) (by omega),← bAt_len enc A p h];omega
theorem spn_len (enc:Int) (A:List Int):(spn enc A).b≤A.length:=by rw [← bAt_len enc A A.length (Nat.le_refl _)];exact bAt_lip enc A _
theorem skA_zero (enc:Int) (A:List Int):skA enc A 0=0:=by unfold skA;rw [if_pos rfl]
theorem skA_in (enc:Int) (A:List Int) (k:Int) (h0:0≤k) (hk:k≤(spn enc A).b):0≤skA enc A k∧skA enc A k≤A.length:=by
 by_cases h:k=0
 ·subst h;rw [skA_zero];omega
 ·obtain ⟨p,e,h1,h2,_⟩:=skA_at enc A k (by omega) hk
  rw [e];omega
section
variable {enc:Int} {A:List Int} {i:Nat}
theorem ln_no {a:Int} (h:A[i]?=some a) (h1:a≠10) (h2:a≠13):bAt enc A (i + 1)=bAt enc A i:=by
 rw [bAt_succ enc A i (List.getElem?_eq_some_iff.1 h).1]
 unfold isE
 rw [h]
 simp [h1,h2]
theorem ln_new (p:Nat) (hp:1≤p) (h1:bAt enc A p=bAt enc A i + 1) (h2:bAt enc A (p - 1)=bAt enc A i):skA enc A (bAt enc A i + 1)=p∧bAt enc A i + 1≤(spn enc A).b ∧
  lnK enc A (bAt enc A i)=⟨skA enc A (bAt enc A i),p - wid (knd A p),p,knd A p⟩:=by
 have h3:=bAt_le enc A p
 have h4:=bAt_nn enc A i
 have e:=skA_uniq enc A (bAt enc A i + 1) (by omega) (by omega) p hp h1 (by omega)
 refine ⟨e,by omega,?_⟩
 unfold lnK
 rw [if_neg (by omega),e]
 rfl
theorem ln_lf (h:A[i]?=some 10) (hok:i=0∨A[i - 1]?≠some 13):bAt enc A (i + 1)=bAt enc A i + 1∧skA enc A (bAt enc A i + 1)=(i + 1:Nat)∧bAt enc A i + 1≤(spn enc A).b ∧
  lnK enc A (bAt enc A i)=⟨skA enc A (bAt enc A i),(i:Nat),(i + 1:Nat),1⟩:=by
 have hl:=(List.getElem?_eq_some_iff.1 h).1
 have e:bAt enc A (i + 1)=bAt enc A i + 1:=by
  rw [bAt_succ enc A i hl]
  unfold isE
  rw [h]
  simp
 obtain ⟨k1,k2,k3⟩:=ln_new (enc:=enc) (A:=A) (i:=i) (i + 1) (by omega) e rfl
 refine ⟨e,k1,k2,?_⟩
 have kd:knd A (i + 1)=1:=by
  unfold knd
  rw [show i + 1 - 1=i by omega,h,if_neg (by simp),if_neg]
  rintro ⟨q1,q2⟩
  rcases hok with rfl | hok
  ·omega
  ·exact hok (by rw [show i - 1=i + 1 - 2 by omega];exact q2)
 rw [k3,kd]
 unfold wid
 simp
theorem ln_crlf (h:A[i]?=some 13) (h':A[i + 1]?=some 10):bAt enc A (i + 2)=bAt enc A i + 1∧skA enc A (bAt enc A i + 1)=(i + 2:Nat)∧bAt enc A i + 1≤(spn enc A).b ∧
  lnK enc A (bAt enc A i)=⟨skA enc A (bAt enc A i),(i:Nat),(i + 2:Nat),2⟩:=by
 have hl:=(List.getElem?_eq_some_iff.1 h').1
 have e1:bAt enc A (i + 1)=bAt enc A i:=by
  rw [bAt_succ enc A i (by omega)]
  unfold isE
  rw [h,h']
  simp
 have e:bAt enc A (i + 2)=bAt enc A i + 1:=by
  rw [bAt_succ enc A (i + 1) hl,e1]
  unfold isE
  rw [h']
  simp
 obtain ⟨k1,k2,k3⟩:=ln_new (enc:=enc) (A:=A) (i:=i) (i + 2) (by omega) e e1
 refine ⟨e,k1,k2,?_⟩
 have kd:knd A (i + 2)=2:=by
  unfold knd
  rw [show i + 2 - 1=i + 1 by omega,h',if_neg (by simp),if_pos ⟨by omega,by rw [show i + 2 - 2=i by omega];exact h⟩]
 rw [k3,kd]
 unfold wid
 simp
theorem ln_cr (h:A[i]?=some 13) (h':A[i + 1]?≠some 10):bAt enc A (i + 1)=bAt enc A i + 1∧skA enc A (bAt enc A i + 1)=(i + 1:Nat)∧bAt enc A i + 1≤(spn enc A).b ∧
  lnK enc A (bAt enc A i)=⟨skA enc A (bAt enc A i),(i:Nat),(i + 1:Nat),3⟩:=by
 have hl:=(List.getElem?_eq_some_iff.1 h).1
 have e:bAt enc A (i + 1)=bAt enc A i + 1:=by
  rw [bAt_succ enc A i hl]
  unfold isE
  rw [h]
  simp [h']
 obtain ⟨k1,k2,k3⟩:=ln_new (enc:=enc) (A:=A) (i:=i) (i + 1) (by omega) e rfl
 refine ⟨e,k1,k2,?_⟩
 have kd:knd A (i + 1)=3:=by
  unfold knd
  rw [show i + 1 - 1=i by omega,h,if_pos rfl]
 rw [k3,kd]
 unfold wid
 simp
end
theorem cnt_tail (enc:Int) (A:List Int):cnt enc A=if 0 < (spn enc A).b∧skA enc A (spn enc A).b=A.length then (spn enc A).b else (spn enc A).b + 1:=by
 have h1:=skA_in enc A (spn enc A).b (spn_nn enc A) (Int.le_refl _)
 have h2:=spn_nn enc A
 have h3:=spn_len enc A
 unfold cnt
 by_cases h0:(spn enc A).b=0
 ·rw [if_neg (show ¬ (0 < (spn enc A).b∧_) by omega),h0,skA_zero,if_pos (by omega)]
 ·by_cases h4:skA enc A (spn enc A).b=A.length
  ·rw [if_neg (show ¬ (A.length=0∨skA enc A (spn enc A).b < A.length) by omega),if_pos ⟨by omega,h4⟩]
  ·rw [if_pos (show A.length=0∨skA enc A (spn enc A).b < A.length by omega),if_neg (fun e=>h4 e.2)]
open Go.RowKit
theorem rd_at {k:IntKind} {w:World} {ao:Option Addr} {n c:Nat} {zs:List Int} (h:Rd k w (.slice ao n c) zs) (i:Nat) (hi:i < zs.length):∃ b o,ao=some ⟨b,o,none⟩∧b < w.heap.size∧w.cell? ⟨b,o + i,none⟩=some (.int k (zs[i]?.getD 0))∧n≤c:=by
 obtain ⟨ao',c',e1,h1,_,h3⟩:=h
 simp only [Value.slice.injEq] at e1
 obtain ⟨rfl,rfl,rfl⟩:=e1
 obtain ⟨b,o,rfl,hb,hc⟩:=h3 (by intro e;subst e;simp at hi)
 exact ⟨b,o,rfl,hb,hc i hi,h1⟩
def lcs (x:Ln):List Value:=[.int .i64 x.f,.int .i64 x.t,.int .i64 x.n,.int .i64 x.b]
def lfl (xs:List Ln):List Value:=xs.flatMap lcs
theorem lfl_cons (x:Ln) (xs:List Ln):lfl (x :: xs)=lcs x ++ lfl xs:=rfl
theorem lfl_app (xs ys:List Ln):lfl (xs ++ ys)=lfl xs ++ lfl ys:=by simp [lfl]
theorem lfl_at:∀ (xs:List Ln) (i:Nat) (x:Ln),xs[i]?=some x→∀ r,r < 4→(lfl xs)[i * 4 + r]?=(lcs x)[r]?:=by
 intro xs
 induction xs with
 | nil=>intro i x h;simp at h
 | cons y xs ih =>
   intro i x h r hr
   rw [lfl_cons]
   cases i with
   | zero=>rw [List.getElem?_append_left (by show 0 * 4 + r < 4;omega)];simp at h;subst h;simp
   | succ i=>rw [List.getElem?_append_right (by show 4≤_;omega),show (i + 1) * 4 + r - (lcs y).length=i * 4 + r by show _ - 4=_;omega,ih i x (by simpa using h) r hr]
def OwnL (w:World) (base:Nat) (v:Value) (xs:List Ln):Prop:=w.ownsRow base 69 4 v xs.length (lfl xs)
theorem OwnL.nil (w:World) (base:Nat):OwnL w base (.slice none 0 0) []:=World.ownsRow_nil _ _ _ _
theorem OwnL.ext {w w':World} {base:Nat} {v:Value} {xs:List Ln} (h:OwnL w base v xs) (hb:Below w.heap.size w w'):OwnL w' base v xs :=
 World.ownsRow.kept (row:=none) h ⟨hb.os,hb.tape,hb.output,hb.size,fun k hk _=>hb.block k hk⟩ (by cases v.ownBlock <;> simp)
theorem OwnL.form {w:World} {base:Nat} {v:Value} {xs:List Ln} (h:OwnL w base v xs):∃ ao cap,v=.slice ao xs.length cap:=by
 rcases h.2 with ⟨rfl,hn⟩ | ⟨g,cap,cur,hv,_⟩
 ·exact ⟨none,0,by rw [hn]⟩
 ·exact ⟨_,cap,hv⟩
def RdL (w:World) (v:Value) (xs:List Ln):Prop:=∃ ao cap,v=.slice ao xs.length cap∧xs.length≤cap∧cap≤9223372036854775807∧(xs≠[]→∃ g,ao=some ⟨g,0,none⟩∧g < w.heap.size∧∀ i x,xs[i]?=some x →
 (w.cell? ⟨g,i * 4,none⟩=some (.int .i64 x.f)∧w.cell? ⟨g,i * 4 + 1,none⟩=some (.int .i64 x.t)∧w.cell? ⟨g,i * 4 + 2,none⟩=some (.int .i64 x.n)∧w.cell? ⟨g,i * 4 + 3,none⟩=some (.int .i64 x.b)))
theorem OwnL.rd {w:World} {base:Nat} {v:Value} {xs:List Ln} (h:OwnL w base v xs):RdL w v xs:=by
 obtain ⟨_,h2⟩:=h
 rcases h2 with ⟨rfl,hn⟩ | ⟨g,cap,cur,rfl,hb,hg,hn,hc,hs,ht⟩
 ·rw [List.length_eq_zero_iff] at hn;subst hn;exact ⟨none,0,rfl,by simp,by omega,fun h=>absurd rfl h⟩
 ·refine ⟨_,cap,rfl,hn,by unfold maxLen at hc;exact hc,fun _=>⟨g,rfl,(Array.getElem?_eq_some_iff.1 hg).1,fun i x hi=>?_⟩⟩
  have hil:=(List.getElem?_eq_some_iff.1 hi).1
  have h4:∀ r,r < 4→w.cell? ⟨g,i * 4 + r,none⟩=(lcs x)[r]?:=by
   intro r hr
   have h3:=lfl_at xs i x hi r hr
   rw [← ht] at h3
   rw [List.getElem?_take,if_pos (by omega)] at h3
   rw [cell_of_row w g _ cur _ (0,0) hg]
   simpa using h3
  exact ⟨h4 0 (by omega),h4 1 (by omega),h4 2 (by omega),h4 3 (by omega)⟩
theorem lcs_one (x:Ln):∀ u ∈ lcs x,u.oneCell'=true:=by
 intro u hu
 simp only [lcs,List.mem_cons,List.not_mem_nil,or_false] at hu
 rcases hu with rfl | rfl | rfl | rfl <;> rfl
theorem Tryz.info_line:(Tryz.prog.info? 69).map (fun i=>(i.zero,i.size,i.bytes))=some (some (.agg #[.int .i64 0,.int .i64 0,.int .i64 0,.int .i64 0]),4,32):=by kernel_rfl
section
variable {P:Program} {W:World} {ops:Array Oper} {rest:List Oper} {o:Oper} {a:Act} {Q:Exit→Act→World→Prop}
theorem wpl_line (hgd:o.guard=none) (s x:Operand) (t:TypeId) (ho:o.op=.call { callee:=.builtin .append,args:=#[s,x],argTypes:=#[t,t] })
  (base:Nat) (hinf:(P.info? 69).map (fun i=>(i.zero,i.size,i.bytes))=some (some (.agg #[.int .i64 0,.int .i64 0,.int .i64 0,.int .i64 0]),4,32)) (ht:P.underlying t=some (.slice 69))
  (v:Value) (xs:List Ln) (hs:a.eval s=v) (hown:OwnL W base v xs) (y:Ln) (g:Nat) (hx:a.eval x=.slice (some ⟨g,0,none⟩) 1 1) (hnew:∀ j u,(lcs y)[j]?=some u→W.cell? ((⟨g,0,none⟩:Addr).add j)=some u)
  (hl:xs.length + 1≤1099511627776) (hbase:base≤W.heap.size)
  (h:∀ v' w',OwnL w' base v' (xs ++ [y])→Below base W w'→wpList P ops Q rest (a.put o.dst v') w'):wpList P ops Q (o :: rest) a W:=by
 obtain ⟨i0,hi,hz0,hz1,hz2⟩:=info_parts hinf
 refine wpList_append_own W hgd s x t ho base 69 i0 _ 4 32 ht hi hz0 hz1 hz2 rfl (by decide) v xs.length (lfl xs) hs hown ⟨g,0,none⟩ 1 1 (lcs y) hx rfl hnew (lcs_one y) (by unfold maxLen;omega) (by omega) hbase ?_
 intro v' w' h1 h2 _
 refine h v' w' ?_ ((Below.refl _ _).grown h2 hbase (fun k hk=>(World.ownsRow.lt hown k hk).1))
 unfold OwnL
 rw [List.length_append,lfl_app,show lfl [y]=lcs y by simp [lfl]]
 exact h1
end
theorem lit4 (w:World) (T:TypeId) (x:Ln):∀ j u,(lcs x)[j]?=some u→(w.alloc (.cells #[.int .i64 x.f,.int .i64 x.t,.int .i64 x.n,.int .i64 x.b] T)).cell? ((⟨w.heap.size,0,none⟩:Addr).add j)=some u:=by
 intro j u hj
 rw [Addr.add_lit,cell_of_row (w.alloc (.cells #[.int .i64 x.f,.int .i64 x.t,.int .i64 x.n,.int .i64 x.b] T)) w.heap.size (0 + j) _ T (0,0) (heap_alloc_new _ _),Nat.zero_add]
 simpa [lcs] using hj
open Go.RowKit
theorem and_le (x:Int) (m:Nat) (hm:m < 2147483648):0≤bits .and .i64 x m∧bits .and .i64 x m≤m:=by
 have h:((BitVec.ofInt 64 x) &&& (BitVec.ofInt 64 (m:Int))).toNat≤m:=by
  rw [BitVec.toNat_and,BitVec.ofInt_natCast,BitVec.toNat_ofNat]
  exact Nat.le_trans Nat.and_le_right (Nat.mod_le _ _)
 have e:bits .and .i64 x m=IntKind.i64.wrap ((BitVec.ofInt 64 x) &&& (BitVec.ofInt 64 (m:Int))).toNat:=rfl
 rw [e,IntKind.wrap_i64]
 omega
theorem take_snoc {A:List Int} {i:Nat} {x:Int} (h:A[i]?=some x):A.take (i + 1)=A.take i ++ [x]:=by rw [List.take_add_one,h];rfl
set_option maxHeartbeats 4000000 in
theorem within_any (x:Int) (n:Nat) (w:World) (hx:-9223372036854775808≤x∧x≤9223372036854775807) (hn:n≤1099511627776):Calls Tryz.prog 9 #[.int .i64 x,.int .i64 (n:Nat)] w fun e w'=>∃ m:Nat,e=.returned (.int .i64 (m:Nat))∧m≤n∧w'=w:=by
 have hw1:IntKind.i64.wrap ((n:Int) + 1)=((n + 1:Nat):Int):=by rw [IntKind.wrap_i64];omega
 have hn1:¬ (((n + 1:Nat):Int)=0):=by omega
 by_cases h0:x < 0
 ·obtain ⟨y,hy⟩:∃ y:Nat,-(x + 1)=y:=⟨(-(x + 1)).toNat,by omega⟩
  have hw2:IntKind.i64.wrap (x + 1)=x + 1:=by rw [IntKind.wrap_i64];omega
  have hw3:IntKind.i64.wrap (-(x + 1))=(y:Nat):=by rw [hy,IntKind.wrap_i64];omega
  have HY:=zh (show y≤9223372036854775807 by omega)
  clear hy
  go_enter Tryz.func9,Tryz.ntmps9
  go_wp2_with fail
  go_ret
  exact ⟨y % (n + 1),congrArg (fun z=>Ending.returned (.int .i64 z)) (show (y:Int) % ((n:Int) + 1)=((y % (n + 1):Nat):Int) by simp),by have:=Nat.mod_lt y (show 0 < n + 1 by omega);omega,rfl⟩
 ·obtain ⟨y,rfl⟩:∃ y:Nat,x=y:=⟨x.toNat,by omega⟩
  go_enter Tryz.func9,Tryz.ntmps9
  go_wp2_with fail
  go_ret
  exact ⟨y % (n + 1),congrArg (fun z=>Ending.returned (.int .i64 z)) (show (y:Int) % ((n:Int) + 1)=((y % (n + 1):Nat):Int) by simp),by have:=Nat.mod_lt y (show 0 < n + 1 by omega);omega,rfl⟩
set_option maxHeartbeats 4000000 in
theorem copied_any (v:Value) (zs:List Int) (w:World) (h:Rd .i64 w v zs) (hz:zs.length * 8≤140737488351232):Calls Tryz.prog 7 #[v] w fun e w'=>∃ v',e=.returned v'∧Hid (OwnI w' w.heap.size v' zs)∧Below w.heap.size w w':=by
 obtain ⟨aa,ca,rfl,ha1,ha2,_⟩:=id h
 have HA:=zh h
 clear h
 have HI0:Hid (OwnI w w.heap.size (.slice none 0 0) (zs.take 0)∧Below w.heap.size w w):=⟨World.ownsRow_nil _ _ _ _,Below.refl _ _⟩
 go_enter Tryz.func7,Tryz.ntmps7
 go_wp2_with fail
 go_loopg [3,4] zs.length (fun gk lv p wr=>∃ (i:Nat) (ao:Option Addr) (n cap:Nat),i + gk=zs.length∧p=.int .i64 (i:Nat)∧lv=.slice ao n cap∧Hid (n=i∧OwnI wr w.heap.size (.slice ao n cap) (zs.take i)∧Below w.heap.size w wr))
 case atStart=>exact ⟨0,none,0,0,by omega,rfl,rfl,rfl,HI0.out⟩
 case round =>
  obtain ⟨i,ao,n,cap,hig,rfl,rfl,HI⟩:=hrel
  by_cases hlt:i < zs.length
  ·have hltI:(i:Int) < (zs.length:Int):=by omega
   obtain ⟨b,o,rfl,hbl,ci,_⟩:=rd_at (HA.out.ext HI.out.2.2) i hlt
   obtain ⟨x,hx⟩:∃ x,zs[i]?=some x:=⟨_,List.getElem?_eq_getElem hlt⟩
   rw [hx,Option.getD_some] at ci
   have HT:=zh (take_snoc hx)
   have HG:=zh hig
   clear hx hig
   have HOA:Hid (OwnI (wr.alloc (.cells #[.int .i64 x] 3)) w.heap.size (.slice ao n cap) (zs.take i)):=HI.out.2.1.ext (zxa (Below.refl _ _) _)
   have HNW:=zh (rdi_new wr x)
   have HBI:=zh HI.out.2.2
   have HZ:=zh (show w.heap.size≤(wr.alloc (.cells #[.int .i64 x] 3)).heap.size from Nat.le_trans HBI.out.size (size_alloc_le _ _))
   have HLN:=zh (show ((zs.take i).length + [x].length) * 8≤140737488355328 by rw [List.length_take];simp;omega)
   go_wp2_with (at_builtin;refine wpl_ints rfl _ _ 27 rfl w.heap.size Tryz.info_i64 Tryz.underlying27 (.slice ao n cap) (zs.take i) rfl HOA.out [x] (some ⟨wr.heap.size,0,none⟩) 1 1 rfl rfl (.inr ⟨_,rfl,HNW.out⟩) HLN.out HZ.out ?_;intro v8 w8 ho8 hb8;obtain ⟨a8,c8,hv8⟩:=ho8.form;generalize hn8:(zs.take i ++ [x]).length=n8 at hv8;have HN8:=zh hn8.symm;clear hn8;subst hv8;have HO8:=zh ho8;have HB8:=zh (HBI.out.trans ((zxa (Below.refl wr.heap.size wr) _).mono HBI.out.size |>.trans hb8));clear ho8 hb8)
   go_roundg (zs.length - (i + 1))
   case rel=>exact ⟨i + 1,a8,n8,c8,by omega,by go_num,rfl,HN8.out.trans (by rw [List.length_append,List.length_take];simp;omega),by rw [HT.out];exact HO8.out,HB8.out⟩
   case measure=>have:=HG.out;omega
  ·have hnl:¬ (i:Int) < (zs.length:Int):=by omega
   have HE:=zh (show zs.take i=zs from List.take_of_length_le (by omega))
   go_wp2_with fail
   go_ret
   exact ⟨_,rfl,by unfold Hid;have:=HI.out.2.1;rwa [HE.out] at this,HI.out.2.2⟩
def Pln (a:Int):Prop:=a=10∨a=13∨(32≤a∧a≤95)
theorem pln_snoc {ps:List Int} {y:Int} (h:∀ a ∈ ps,Pln a) (hy:Pln y):∀ a ∈ ps ++ [y],Pln a:=fun a ha=>by
 rcases List.mem_append.1 ha with h1 | h1
 ·exact h a h1
 ·rw [List.mem_singleton] at h1;subst h1;exact hy
set_option maxHeartbeats 4000000 in
theorem plain_any (v:Value) (zs:List Int) (w:World) (h:Rd .i64 w v zs):Calls Tryz.prog 45 #[v] w fun e w'=>∃ v',e=.returned v'∧(∃ ps,Hid (OwnI w' w.heap.size v' ps∧ps.length≤16∧∀ a ∈ ps,Pln a))∧Below w.heap.size w w':=by
 obtain ⟨aa,ca,rfl,ha1,ha2,_⟩:=id h
 have HA:=zh h
 have hz9:=h.len
 clear h
 have HI0:Hid (OwnI w w.heap.size (.slice none 0 0) []∧(∀ a ∈ ([]:List Int),Pln a)∧Below w.heap.size w w):=⟨World.ownsRow_nil _ _ _ _,(fun a ha=>by cases ha),Below.refl _ _⟩
 go_enter Tryz.func45,Tryz.ntmps45
 go_wp2_with fail
 go_loopg [3,4] zs.length (fun gk lv p wr=>∃ (i:Nat) (ao:Option Addr) (n cap:Nat) (ps:List Int),i + gk=zs.length∧i≤16∧p=.int .i64 (i:Nat)∧lv=.slice ao n cap∧ps.length=i∧Hid (OwnI wr w.heap.size (.slice ao n cap) ps∧(∀ a ∈ ps,Pln a)∧Below w.heap.size w wr))
 case atStart=>exact ⟨0,none,0,0,[],by omega,by omega,rfl,rfl,rfl,HI0.out⟩
 case round =>
  obtain ⟨i,ao,n,cap,ps,hig,hi16,rfl,rfl,hpl,HI⟩:=hrel
  have HPL:=zh hpl
  have HG:=zh hig
  clear hpl hig
  by_cases hlt:i < zs.length
  ·have hltI:(i:Int) < (zs.length:Int):=by omega
   by_cases hlt16:(i:Int) < 16
   ·obtain ⟨b,o,rfl,hbl,ci,_⟩:=rd_at (HA.out.ext HI.out.2.2) i hlt
    obtain ⟨x,hx⟩:∃ x,zs[i]?=some x:=⟨_,List.getElem?_eq_getElem hlt⟩
    rw [hx,Option.getD_some] at ci
    clear hx
    by_cases h10:x=10
    ·subst h10
     have HOA:Hid (OwnI (wr.alloc (.cells #[.int .i64 (10)] 3)) w.heap.size (.slice ao n cap) (ps)):=HI.out.1.ext (zxa (Below.refl _ _) _)
     have HNW:=zh (rdi_new wr (10))
     have HBI:=zh HI.out.2.2
     have HZ:=zh (show w.heap.size≤(wr.alloc (.cells #[.int .i64 (10)] 3)).heap.size from Nat.le_trans HBI.out.size (size_alloc_le _ _))
     have HLN:=zh (show ((ps).length + [10].length) * 8≤140737488355328 by rw [HPL.out];simp;omega)
     go_wp2_with (at_builtin;refine wpl_ints rfl _ _ 27 rfl w.heap.size Tryz.info_i64 Tryz.underlying27 (.slice ao n cap) (ps) rfl HOA.out [10] (some ⟨wr.heap.size,0,none⟩) 1 1 rfl rfl (.inr ⟨_,rfl,HNW.out⟩) HLN.out HZ.out ?_;intro v8 w8 ho8 hb8;obtain ⟨a8,c8,hv8⟩:=ho8.form;generalize hn8:(ps ++ [10]).length=n8 at hv8;have HN8:=zh hn8.symm;clear hn8;subst hv8;have HO8:=zh ho8;have HB8:=zh (HBI.out.trans ((zxa (Below.refl wr.heap.size wr) _).mono HBI.out.size |>.trans hb8));clear ho8 hb8)
     go_roundg (zs.length - (i + 1))
     case rel=>exact ⟨i + 1,a8,n8,c8,ps ++ [10],by have:=HG.out;omega,by omega,by go_num,rfl,by rw [List.length_append,HPL.out];rfl,HO8.out,pln_snoc HI.out.2.1 (.inl rfl),HB8.out⟩
     case measure=>have:=HG.out;omega
    ·by_cases h13:x=13
     ·subst h13
      have HOA:Hid (OwnI (wr.alloc (.cells #[.int .i64 (13)] 3)) w.heap.size (.slice ao n cap) (ps)):=HI.out.1.ext (zxa (Below.refl _ _) _)
      have HNW:=zh (rdi_new wr (13))
      have HBI:=zh HI.out.2.2
      have HZ:=zh (show w.heap.size≤(wr.alloc (.cells #[.int .i64 (13)] 3)).heap.size from Nat.le_trans HBI.out.size (size_alloc_le _ _))
      have HLN:=zh (show ((ps).length + [13].length) * 8≤140737488355328 by rw [HPL.out];simp;omega)
      go_wp2_with (at_builtin;refine wpl_ints rfl _ _ 27 rfl w.heap.size Tryz.info_i64 Tryz.underlying27 (.slice ao n cap) (ps) rfl HOA.out [13] (some ⟨wr.heap.size,0,none⟩) 1 1 rfl rfl (.inr ⟨_,rfl,HNW.out⟩) HLN.out HZ.out ?_;intro v8 w8 ho8 hb8;obtain ⟨a8,c8,hv8⟩:=ho8.form;generalize hn8:(ps ++ [13]).length=n8 at hv8;have HN8:=zh hn8.symm;clear hn8;subst hv8;have HO8:=zh ho8;have HB8:=zh (HBI.out.trans ((zxa (Below.refl wr.heap.size wr) _).mono HBI.out.size |>.trans hb8));clear ho8 hb8)
      go_roundg (zs.length - (i + 1))
      case rel=>exact ⟨i + 1,a8,n8,c8,ps ++ [13],by have:=HG.out;omega,by omega,by go_num,rfl,by rw [List.length_append,HPL.out];rfl,HO8.out,pln_snoc HI.out.2.1 (.inr (.inl rfl)),HB8.out⟩
      case measure=>have:=HG.out;omega
     ·obtain ⟨q1,q2⟩:=and_le x 63 (by decide)
      generalize hq:bits .and .i64 x (63:Nat)=q at q1 q2
      have hq':bits .and .i64 x 63=q:=hq
      have hw:IntKind.i64.wrap (32 + q)=32 + q:=by rw [IntKind.wrap_i64];omega
      have hb10:(x != 10)=true:=by simp [h10]
      have hb13:(x != 13)=true:=by simp [h13]
      have HP:Hid (Pln (32 + q)):=.inr (.inr ⟨by omega,by omega⟩)
      clear hq
      have HOA:Hid (OwnI (wr.alloc (.cells #[.int .i64 (32 + q)] 3)) w.heap.size (.slice ao n cap) (ps)):=HI.out.1.ext (zxa (Below.refl _ _) _)
      have HNW:=zh (rdi_new wr (32 + q))
      have HBI:=zh HI.out.2.2
      have HZ:=zh (show w.heap.size≤(wr.alloc (.cells #[.int .i64 (32 + q)] 3)).heap.size from Nat.le_trans HBI.out.size (size_alloc_le _ _))
      have HLN:=zh (show ((ps).length + [32 + q].length) * 8≤140737488355328 by rw [HPL.out];simp;omega)
      go_wp2_with (at_builtin;refine wpl_ints rfl _ _ 27 rfl w.heap.size Tryz.info_i64 Tryz.underlying27 (.slice ao n cap) (ps) rfl HOA.out [32 + q] (some ⟨wr.heap.size,0,none⟩) 1 1 rfl rfl (.inr ⟨_,rfl,HNW.out⟩) HLN.out HZ.out ?_;intro v8 w8 ho8 hb8;obtain ⟨a8,c8,hv8⟩:=ho8.form;generalize hn8:(ps ++ [32 + q]).length=n8 at hv8;have HN8:=zh hn8.symm;clear hn8;subst hv8;have HO8:=zh ho8;have HB8:=zh (HBI.out.trans ((zxa (Below.refl wr.heap.size wr) _).mono HBI.out.size |>.trans hb8));clear ho8 hb8)
      go_roundg (zs.length - (i + 1))
      case rel=>exact ⟨i + 1,a8,n8,c8,ps ++ [32 + q],by have:=HG.out;omega,by omega,by go_num,rfl,by rw [List.length_append,HPL.out];rfl,HO8.out,pln_snoc HI.out.2.1 HP.out,HB8.out⟩
      case measure=>have:=HG.out;omega
   ·go_wp2_with fail
    go_ret
    exact ⟨_,rfl,⟨ps,HI.out.1,by rw [HPL.out];omega,HI.out.2.1⟩,HI.out.2.2⟩
  ·have hnl:¬ (i:Int) < (zs.length:Int):=by omega
   go_wp2_with fail
   go_ret
   exact ⟨_,rfl,⟨ps,HI.out.1,by rw [HPL.out];omega,HI.out.2.1⟩,HI.out.2.2⟩
open Go.RowKit
def spl (A:List Int) (f t:Nat) (put:List Int):List Int:=A.take f ++ put ++ A.drop t
theorem drop_take_snoc {A:List Int} {t i:Nat} {x:Int} (ht:t≤i) (h:A[i]?=some x):(A.drop t).take (i + 1 - t)=(A.drop t).take (i - t) ++ [x]:=by
 rw [show i + 1 - t=(i - t) + 1 by omega,List.take_add_one,List.getElem?_drop,show t + (i - t)=i by omega,h];rfl
set_option maxHeartbeats 4000000 in
theorem spliced_any (va vp:Value) (A put:List Int) (f t:Nat) (w:World) (hA:Rd .i64 w va A) (hP:Rd .i64 w vp put) (hf:f≤t) (ht:t≤A.length) (hl:A.length≤65536) (hp:put.length≤65536):Calls Tryz.prog 47 #[va,.int .i64 (f:Nat),.int .i64 (t:Nat),vp] w fun e w'=>∃ v',e=.returned v'∧Hid (OwnI w' w.heap.size v' (spl A f t put))∧Below w.heap.size w w':=by
 obtain ⟨aa,ca,rfl,ha1,ha2,_⟩:=id hA
 obtain ⟨ap,cp,rfl,hp1,hp2,_⟩:=id hP
 have HA:=zh hA
 have HP:=zh hP
 have hfl:f≤A.length:=by omega
 have hfc:f≤ca:=by omega
 have CP:=zh (copied_any (.slice aa f ca) (A.take f) w (hA.take f hfl) (by rw [List.length_take];omega))
 clear hA hP
 go_enter Tryz.func47,Tryz.ntmps47
 go_upto_block 0 with (go_at_call 7;refine CP.out.mono ?_;rintro e w1 ⟨v1,rfl,ho,hb⟩;obtain ⟨a1,c1,hv1⟩:=ho.out.form;generalize hn1:(A.take f).length=n1 at hv1;clear hn1;subst hv1;have HO1:=zh ho.out;have HB1:=zh hb;clear ho hb;(try dsimp only))
 go_cut [9] from 16 to 28 (fun lv wF=>∃ (ao:Option Addr) (n cap:Nat),lv=.slice ao n cap∧Hid (OwnI wF w.heap.size (.slice ao n cap) (A.take f ++ put)∧Below w.heap.size w wF))
 case first =>
  go_wp2_with fail
  go_loopg [9,10] put.length (fun gk lv p wr=>∃ (i:Nat) (ao:Option Addr) (n cap:Nat),i + gk=put.length∧p=.int .i64 (i:Nat)∧lv=.slice ao n cap∧Hid (OwnI wr w.heap.size (.slice ao n cap) (A.take f ++ put.take i)∧Below w.heap.size w wr))
  case atStart=>exact ⟨0,a1,n1,c1,by omega,rfl,rfl,by rw [List.take_zero,List.append_nil];exact HO1.out,HB1.out⟩
  case round =>
   obtain ⟨i,ao,n,cap,hig,rfl,rfl,HI⟩:=hrel
   by_cases hlt:i < put.length
   ·have hltI:(i:Int) < (put.length:Int):=by omega
    obtain ⟨b,o,rfl,hbl,ci,_⟩:=rd_at (HP.out.ext HI.out.2) i hlt
    obtain ⟨x,hx⟩:∃ x,put[i]?=some x:=⟨_,List.getElem?_eq_getElem hlt⟩
    rw [hx,Option.getD_some] at ci
    have HT:Hid (A.take f ++ put.take (i + 1)=A.take f ++ put.take i ++ [x]):=by unfold Hid;rw [take_snoc hx,List.append_assoc]
    have HG:=zh hig
    clear hx hig
    have HOA:Hid (OwnI (wr.alloc (.cells #[.int .i64 (x)] 3)) w.heap.size (.slice ao n cap) (A.take f ++ put.take i)):=HI.out.1.ext (zxa (Below.refl _ _) _)
    have HNW:=zh (rdi_new wr (x))
    have HBI:=zh HI.out.2
    have HZ:=zh (show w.heap.size≤(wr.alloc (.cells #[.int .i64 (x)] 3)).heap.size from Nat.le_trans HBI.out.size (size_alloc_le _ _))
    have HLN:=zh (show ((A.take f ++ put.take i).length + [x].length) * 8≤140737488355328 by rw [List.length_append,List.length_take,List.length_take];simp;omega)
    go_wp2_with (at_builtin;refine wpl_ints rfl _ _ 27 rfl w.heap.size Tryz.info_i64 Tryz.underlying27 (.slice ao n cap) (A.take f ++ put.take i) rfl HOA.out [x] (some ⟨wr.heap.size,0,none⟩) 1 1 rfl rfl (.inr ⟨_,rfl,HNW.out⟩) HLN.out HZ.out ?_;intro v8 w8 ho8 hb8;obtain ⟨a8,c8,hv8⟩:=ho8.form;generalize hn8:(A.take f ++ put.take i ++ [x]).length=n8 at hv8;clear hn8;subst hv8;have HO8:=zh ho8;have HB8:=zh (HBI.out.trans ((zxa (Below.refl wr.heap.size wr) _).mono HBI.out.size |>.trans hb8));clear ho8 hb8)
    go_roundg (put.length - (i + 1))
    case rel=>exact ⟨i + 1,a8,n8,c8,by have:=HG.out;omega,by go_num,rfl,by rw [HT.out];exact HO8.out,HB8.out⟩
    case measure=>have:=HG.out;omega
   ·have hnl:¬ (i:Int) < (put.length:Int):=by omega
    have HE:=zh (show put.take i=put from List.take_of_length_le (by omega))
    go_wp2_with fail
    go_meet
    case rel=>exact ⟨ao,n,cap,rfl,by have:=HI.out.1;rwa [HE.out] at this,HI.out.2⟩
 obtain ⟨a2,n2,c2,rfl,H2⟩:=hcut
 go_wp2_with fail
 go_loopg [9,11] (A.length - t) (fun gk lv p wr=>∃ (i:Nat) (ao:Option Addr) (n cap:Nat),i + gk=A.length∧t≤i∧p=.int .i64 (i:Nat)∧lv=.slice ao n cap∧Hid (OwnI wr w.heap.size (.slice ao n cap) (A.take f ++ put ++ (A.drop t).take (i - t))∧Below w.heap.size w wr))
 case atStart=>exact ⟨t,a2,n2,c2,by omega,Nat.le_refl _,rfl,rfl,by rw [Nat.sub_self,List.take_zero,List.append_nil];exact H2.out.1,H2.out.2⟩
 case round =>
  obtain ⟨i,ao,n,cap,hig,hti,rfl,rfl,HI⟩:=hrel
  by_cases hlt:i < A.length
  ·have hltI:(i:Int) < (A.length:Int):=by omega
   obtain ⟨b,o,rfl,hbl,ci,_⟩:=rd_at (HA.out.ext HI.out.2) i hlt
   obtain ⟨x,hx⟩:∃ x,A[i]?=some x:=⟨_,List.getElem?_eq_getElem hlt⟩
   rw [hx,Option.getD_some] at ci
   have HT:Hid (A.take f ++ put ++ (A.drop t).take (i + 1 - t)=A.take f ++ put ++ (A.drop t).take (i - t) ++ [x]):=by unfold Hid;rw [drop_take_snoc hti hx,List.append_assoc];simp
   have HG:=zh hig
   clear hx hig
   have HOA:Hid (OwnI (wr.alloc (.cells #[.int .i64 (x)] 3)) w.heap.size (.slice ao n cap) (A.take f ++ put ++ (A.drop t).take (i - t))):=HI.out.1.ext (zxa (Below.refl _ _) _)
   have HNW:=zh (rdi_new wr (x))
   have HBI:=zh HI.out.2
   have HZ:=zh (show w.heap.size≤(wr.alloc (.cells #[.int .i64 (x)] 3)).heap.size from Nat.le_trans HBI.out.size (size_alloc_le _ _))
   have HLN:=zh (show ((A.take f ++ put ++ (A.drop t).take (i - t)).length + [x].length) * 8≤140737488355328 by rw [List.length_append,List.length_append,List.length_take,List.length_take,List.length_drop];simp;omega)
   go_wp2_with (at_builtin;refine wpl_ints rfl _ _ 27 rfl w.heap.size Tryz.info_i64 Tryz.underlying27 (.slice ao n cap) (A.take f ++ put ++ (A.drop t).take (i - t)) rfl HOA.out [x] (some ⟨wr.heap.size,0,none⟩) 1 1 rfl rfl (.inr ⟨_,rfl,HNW.out⟩) HLN.out HZ.out ?_;intro v8 w8 ho8 hb8;obtain ⟨a8,c8,hv8⟩:=ho8.form;generalize hn8:(A.take f ++ put ++ (A.drop t).take (i - t) ++ [x]).length=n8 at hv8;clear hn8;subst hv8;have HO8:=zh ho8;have HB8:=zh (HBI.out.trans ((zxa (Below.refl wr.heap.size wr) _).mono HBI.out.size |>.trans hb8));clear ho8 hb8)
   go_roundg (A.length - (i + 1))
   case rel=>exact ⟨i + 1,a8,n8,c8,by have:=HG.out;omega,by omega,by go_num,rfl,by rw [HT.out];exact HO8.out,HB8.out⟩
   case measure=>have:=HG.out;omega
  ·have hnl:¬ (i:Int) < (A.length:Int):=by omega
   have HE:=zh (show (A.drop t).take (i - t)=A.drop t from List.take_of_length_le (by rw [List.length_drop];omega))
   go_wp2_with fail
   go_ret
   exact ⟨_,rfl,by unfold Hid spl;have:=HI.out.1;rwa [HE.out] at this,HI.out.2⟩
end Go.Proofs.YtgfdfajblidleaaGreat.P
