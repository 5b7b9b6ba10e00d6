import Derived.Test.YtgfdfajblidleaaGreatK02
import Derived.RangeFuncCalls
import Derived.RangeFuncLeaves
import Derived.Shelf.Abstract
import Derived.WalkKit
import Derived.OwnWalkIn
import Derived.TacticsInMore
import Derived.LoopNIn
import Derived.LoopIn
import Derived.OrdersHeld
import Derived.ControlIn
set_option maxRecDepth 100000
namespace Go.Proofs.YtgfdfajblidleaaGreat.P
open Go.RowKit Go.Shelf
attribute [local go_sem] Oper.semAt_some
theorem hdd (k:Nat):Fence.wide.depth.isSome=true→1≤k:=fun h=>by cases h
theorem round_any {m m':Nat} {P:Program} {l:Nat} {f:FuncId} {tmps:Array Value} {assign body:Code} {w:World} {R:Ending→World→Prop} (h:RoundIn Fence.wide m P l f tmps assign body w R):RoundIn Fence.wide m' P l f tmps assign body w R:=⟨h.1,fun c cs _=>h.2 c cs (fun d h=>by cases h)⟩
theorem yield_any {m:Nat} (m':Nat) {P:Program} {l:Nat} {args:Array Value} {W:World} {R:Ending→World→Prop} (h:YieldAt Fence.wide m P l args W R):YieldAt Fence.wide m' P l args W R:=by
 obtain ⟨fn,tmps,assign,body,hy,hR⟩:=h
 exact ⟨fn,tmps,assign,body,hy,round_any hR⟩
def OnX {σ:Type} (G:Guest σ It) (s:σ) (pre xs:List It) (W:World) (e:Ending) (W':World):Prop :=
 (e=.returned (.bool true)∧∃ s',G.J s' (pre ++ xs) W'∧Kps (G.own s) W W'∧Newer G.own s s' W)∨(e=.returned (.bool false)∧∃ s' q,q <+: xs∧G.Jx s' (pre ++ q) W'∧Kps (G.own s) W W'∧Newer G.own s s' W)
theorem Newer.trans {σ:Type} {own:σ→Nat→Prop} {s s' s'':σ} {W W':World} (h:Newer own s s' W) (h':Newer own s' s'' W') (hz:W.heap.size≤W'.heap.size):Newer own s s'' W:=fun k hk=>by
 rcases h' k hk with h1 | h1
 ·exact h k h1
 ·exact .inr (by omega)
theorem Kps.next {σ:Type} {own:σ→Nat→Prop} {s s':σ} {A B C:World} (h:Kps (own s) A B) (hn:Newer own s s' A) (k:Kps (own s') B C):Kps (own s) A C :=
 h.trans k (fun i hi hp=>by rcases hn i hp with h1 | h1;exact h1;omega)
theorem OnX.next {σ:Type} {G:Guest σ It} {s s':σ} {pre xs ys:List It} {W W' W'':World} {e:Ending} (k:Kps (G.own s) W W') (hn:Newer G.own s s' W) (h:OnX G s' (pre ++ xs) ys W' e W''):OnX G s pre (xs ++ ys) W e W'':=by
 rcases h with ⟨rfl,t,h1,h2,h3⟩ | ⟨rfl,t,q,h0,h1,h2,h3⟩
 ·exact .inl ⟨rfl,t,by rw [← List.append_assoc];exact h1,k.next hn h2,hn.trans h3 k.size⟩
 ·refine .inr ⟨rfl,t,xs ++ q,?_,by rw [← List.append_assoc];exact h1,k.next hn h2,hn.trans h3 k.size⟩
  obtain ⟨z,hz⟩:=h0
  exact ⟨z,by rw [List.append_assoc,hz]⟩
def RdX {σ α:Type} (G:Guest σ α) (s:σ) (pre:List α) (x:α) (W:World) (e:Ending) (W':World):Prop :=
 (e=.returned (.bool true)∧∃ s',G.J s' (pre ++ [x]) W'∧Kps (G.own s) W W'∧Newer G.own s s' W)∨(e=.returned (.bool false)∧∃ s',G.Jx s' (pre ++ [x]) W'∧Kps (G.own s) W W'∧Newer G.own s s' W)
theorem own_on {σ α:Type} {G:Guest σ α} {s s':σ} {w0 W W':World} (hB:Below w0.heap.size w0 W) (ho:∀ k,G.own s k→w0.heap.size≤k) (k:Kps (G.own s) W W') (hn:Newer G.own s s' W):Below w0.heap.size w0 W'∧∀ k,G.own s' k→w0.heap.size≤k:=by
 have h1:=hB.size
 refine ⟨hB.trans (k.below h1 ho),fun i hi=>?_⟩
 rcases hn i hi with h | h
 ·exact ho i h
 ·omega
set_option maxHeartbeats 4000000 in
theorem walk_in {σ:Type} (G:Guest σ It) (l:Nat) (full:List It) (w0:World)
  (hY:∀ m s pre x W1,G.J s pre W1→pre ++ [x] <+: full→YieldAt Fence.wide m Tryz.prog l #[.agg #[.slice x.p x.n x.c,.int .i64 x.pl,.int .i64 x.sp.a,.int .i64 x.sp.s,.int .i64 x.sp.b,.bool x.sp.lf,.bool x.sp.cr]] W1 (RdX G s pre x W1)) (t:Tr It) :
  ∀ (n:Nat) (u:Option Addr) (fr:Nat) (s:σ) (pre:List It) (W:World),Tin w0 t u→Below w0.heap.size w0 W→(∀ k,G.own s k→w0.heap.size≤k)→t.list.length≤4611686018427387904→fr≤9223372036854775807→G.J s pre W→pre ++ t.list.drop fr <+: full →
    CallsIn Fence.wide n Tryz.prog 82 #[.pointer u,.int .i64 fr,.func (.yield l) #[] #[]] W (OnX G s pre (t.list.drop fr) W):=by
 induction t using Tr.ind with
 | nil =>
   intro n u fr s pre W hT hB ho hl hf hJ hN
   have CN:CallsIn Fence.wide (n - 1) Tryz.prog 79 #[.pointer u] W fun e w'=>e=.returned (.int .i64 0)∧w'=W:=callsIn_wide.2 (count_any .nil u W (hT.ext hB))
   have HE:Hid (OnX G s pre ((Tr.nil:Tr It).list.drop fr) W (.returned (.bool true)) W):=.inl ⟨rfl,s,by simpa [Tr.list] using hJ,Kps.refl _ _,fun k h=>.inl h⟩
   have h00:(0:Int)≤(fr:Int):=by omega
   clear hT hY
   refine callsIn_of_wp Tryz.func82 rfl trivial ?_ rfl
   simp only [Tryz.ntmps82,List.size_toArray,List.length_cons,List.length_nil,Nat.reduceAdd,Nat.reduceSub,Array.replicate_succ,Array.replicate_zero,List.push_toArray,List.append_toArray,List.nil_append,List.cons_append]
   gi_wp2_with (refine ⟨trivial,hdd _,?_⟩;gi_at_call 79;refine CN.mono ?_;clear CN;rintro e W1 ⟨rfl,hw1⟩;obtain rfl:W=W1:=hw1.symm)
   go_ret
   exact HE.out
 | node tl x tr ihl ihr =>
   intro n u fr s pre W hT hB ho hl hf hJ hN
   have CN:=zh (callsIn_wide (n:=n - 1) |>.2 (count_any (.node tl x tr) u W (hT.ext hB)))
   have HLEN:Hid ((Tr.node tl x tr).list.length=tl.list.length + 1 + tr.list.length):=by unfold Hid;simp only [Tr.list,List.length_append,List.length_cons];omega
   by_cases hge:(Tr.node tl x tr).list.length≤fr
   ·have HE:Hid (OnX G s pre ((Tr.node tl x tr).list.drop fr) W (.returned (.bool true)) W):=.inl ⟨rfl,s,by rw [List.drop_of_length_le hge,List.append_nil];exact hJ,Kps.refl _ _,fun k h=>.inl h⟩
    generalize (Tr.node tl x tr).list.length=nn at *
    have hge':(nn:Int)≤(fr:Int):=by omega
    clear hT hY ihl ihr
    refine callsIn_of_wp Tryz.func82 rfl trivial ?_ rfl
    simp only [Tryz.ntmps82,List.size_toArray,List.length_cons,List.length_nil,Nat.reduceAdd,Nat.reduceSub,Array.replicate_succ,Array.replicate_zero,List.push_toArray,List.append_toArray,List.nil_append,List.cons_append]
    gi_wp2_with (refine ⟨trivial,hdd _,?_⟩;gi_at_call 79;refine CN.out.mono ?_;clear CN;rintro e W1 ⟨rfl,hw1⟩;obtain rfl:W=W1:=hw1.symm)
    go_ret
    exact HE.out
   ·obtain ⟨g,lv,rv,rfl,hb,hlt,hrt⟩:=hT
    have hgw:g < w0.heap.size:=(Array.getElem?_eq_some_iff.1 hb).1
    have HN:Hid (∀ W',Below w0.heap.size w0 W'→C7s W' g x∧W'.cell? ⟨g,7,none⟩=some (.pointer lv)∧W'.cell? ⟨g,8,none⟩=some (.pointer rv)∧g < W'.heap.size):=fun W' hB'=>by
     have hb':=hB'.block g hgw
     rw [hb] at hb'
     refine ⟨?_,?_,?_,(Array.getElem?_eq_some_iff.1 hb').1⟩
     ·refine ⟨?_,?_,?_,?_,?_,?_,?_⟩ <;> (rw [cell_of_row W' g _ _ _ _ hb'];rfl)
     ·rw [cell_of_row W' g _ _ _ _ hb'];rfl
     ·rw [cell_of_row W' g _ _ _ _ hb'];rfl
    have CL:=zh (callsIn_wide (n:=n - 1) |>.2 (count_any tl lv W (hlt.ext hB)))
    have e1:(Tr.node tl x tr).list.drop fr=tl.list.drop fr ++ (x :: tr.list).drop (fr - tl.list.length):=by simp only [Tr.list];rw [List.drop_append]
    rw [e1] at hN
    rw [e1]
    have hlen:=HLEN.out
    have WL:=zh (ihl (n - 1) lv fr s pre W hlt hB ho (by omega) hf hJ (by rw [← List.append_assoc] at hN;exact (List.prefix_append _ _).trans hN))
    obtain ⟨c0,c1,c2,hgl⟩:=HN.out W hB
    have hlt':¬ ((Tr.node tl x tr).list.length:Int)≤(fr:Int):=by omega
    have HB:=zh hB
    have HO:=zh ho
    have HRT:=zh hrt
    have HNN:=zh hN
    have HLL:=zh hl
    clear hb e1 hB ho hrt hlt hN hJ ihl hl
    generalize hnn:(Tr.node tl x tr).list.length=nn at *
    refine callsIn_of_wp Tryz.func82 rfl trivial ?_ rfl
    simp only [Tryz.ntmps82,List.size_toArray,List.length_cons,List.length_nil,Nat.reduceAdd,Nat.reduceSub,Array.replicate_succ,Array.replicate_zero,List.push_toArray,List.append_toArray,List.nil_append,List.cons_append]
    gi_wp2_with fail
    refine ⟨trivial,hdd _,?_⟩
    refine CN.out.mono ?_
    rintro e W1 ⟨rfl,hw1⟩
    obtain rfl:W=W1:=hw1.symm
    gi_wp2_with fail
    refine ⟨trivial,hdd _,?_⟩
    refine CL.out.mono ?_
    rintro e W1 ⟨rfl,hw1⟩
    obtain rfl:W=W1:=hw1.symm
    clear CN CL
    gi_wp2_with fail
    refine ⟨trivial,hdd _,?_⟩
    refine WL.out.mono ?_
    clear WL c0 c1 c2 hgl
    rintro e W1 (⟨rfl,s1,hJ1,k1,n1⟩ | ⟨rfl,s1,q,hq,hx1,k1,n1⟩)
    case inr =>
     have HE:Hid (OnX G s pre (tl.list.drop fr ++ (x :: tr.list).drop (fr - tl.list.length)) W (.returned (.bool false)) W1):=.inr ⟨rfl,s1,q,hq.trans (List.prefix_append _ _),hx1,k1,n1⟩
     clear hY ihr
     gi_wp2_with fail
     go_ret
     exact HE.out
    obtain ⟨hB1,ho1⟩:=own_on HB.out HO.out k1 n1
    obtain ⟨c0,c1,c2,hgl⟩:=HN.out W1 hB1
    have K1:=zh k1
    have N1:=zh n1
    by_cases hle:fr≤tl.list.length
    ·have e2:(x :: tr.list).drop (fr - tl.list.length)=[x] ++ tr.list.drop 0:=by rw [show fr - tl.list.length=0 by omega];rfl
     have HNN2:Hid (pre ++ tl.list.drop fr ++ [x] ++ tr.list <+: full):=by have h:=HNN.out;rw [e2,List.drop_zero,← List.append_assoc,← List.append_assoc] at h;exact h
     have E2:=zh e2
     obtain ⟨fn,tmps,assign,body,hy,hR⟩:=hY (n - 1) s1 (pre ++ tl.list.drop fr) x W1 hJ1 ((List.prefix_append _ _).trans HNN2.out)
     have HR:=zh hR
     have hle':(fr:Int)≤(tl.list.length:Int):=by omega
     have hmx:(fr:Int) - tl.list.length - 1 < 0:=by omega
     have hmx':¬ 0≤(fr:Int) - tl.list.length - 1:=by omega
     have HB1:=zh hB1
     have HO1:=zh ho1
     have hl1:tl.list.length≤4611686018427387904:=by have:=HLL.out;have:=HLEN.out;omega
     clear hR e2 hB1 ho1 hJ1 k1 n1
     generalize hnl:tl.list.length=nl at *
     gi_wp2_with fail
     refine ⟨hdd _,?_⟩
     refine HR.out.mono ?_
     clear hy HR c0 c1 c2 hgl
     rintro e W2 (⟨rfl,s2,hJ2,k2,n2⟩ | ⟨rfl,s2,hx2,k2,n2⟩)
     case inr =>
      have HE:Hid (OnX G s pre (tl.list.drop fr ++ (x :: tr.list).drop (fr - nl)) W (.returned (.bool false)) W2):=by rw [E2.out];exact OnX.next K1.out N1.out (.inr ⟨rfl,s2,[x],List.prefix_append _ _,hx2,k2,n2⟩)
      clear ihr hY
      gi_wp2_with fail
      go_ret
      exact HE.out
     obtain ⟨hB2,ho2⟩:=own_on HB1.out HO1.out k2 n2
     obtain ⟨c0,c1,c2,hgl⟩:=HN.out W2 hB2
     have WR:=zh (ihr (n - 1) rv 0 s2 (pre ++ tl.list.drop fr ++ [x]) W2 HRT.out hB2 ho2 (by have:=HLL.out;have:=HLEN.out;omega) (by omega) hJ2 (by rw [List.drop_zero];exact HNN2.out))
     have K2:=zh k2
     have N2:=zh n2
     clear hB2 ho2 hJ2 k2 n2 ihr hY
     gi_wp2_with fail
     refine ⟨trivial,hdd _,?_⟩
     refine WR.out.mono ?_
     clear WR c0 c1 c2 hgl
     intro e W3 h3
     have HE:Hid (OnX G s pre (tl.list.drop fr ++ (x :: tr.list).drop (fr - nl)) W e W3):=by rw [E2.out];exact OnX.next K1.out N1.out (OnX.next K2.out N2.out h3)
     rcases h3 with ⟨rfl,_⟩ | ⟨rfl,_⟩
     ·gi_wp2_with fail
      go_ret
      exact HE.out
     ·gi_wp2_with fail
      go_ret
      exact HE.out
    ·have e2:(x :: tr.list).drop (fr - tl.list.length)=tr.list.drop (fr - tl.list.length - 1):=by
      obtain ⟨m,hm⟩:∃ m,fr - tl.list.length=m + 1:=⟨fr - tl.list.length - 1,by omega⟩
      rw [hm];rfl
     have HNN2:Hid (pre ++ tl.list.drop fr ++ tr.list.drop (fr - tl.list.length - 1) <+: full):=by have h:=HNN.out;rw [e2,← List.append_assoc] at h;exact h
     have E2:=zh e2
     obtain ⟨q,hq⟩:∃ q:Nat,q=fr - tl.list.length - 1:=⟨_,rfl⟩
     rw [← hq] at HNN2 E2
     have hle':¬ (fr:Int)≤(tl.list.length:Int):=by omega
     have hled:decide ((fr:Int)≤(tl.list.length:Int))=false:=by simpa using hle'
     have hsb:(fr:Int) - tl.list.length - 1=(q:Int):=by omega
     have hq0:¬ (q:Int) < 0:=by omega
     have hfr:(fr:Int)≤9223372036854775807:=by omega
     have WR:=zh (ihr (n - 1) rv q s1 (pre ++ tl.list.drop fr) W1 HRT.out hB1 ho1 (by have:=HLL.out;have:=HLEN.out;omega) (by omega) hJ1 HNN2.out)
     have hl1:tl.list.length≤4611686018427387904:=by have:=HLL.out;have:=HLEN.out;omega
     clear e2 hB1 ho1 hJ1 k1 n1 ihr hY hq
     generalize hnl:tl.list.length=nl at *
     gi_wp2_with fail
     refine ⟨fun _ h=>(by cases h),?_⟩
     gi_wp2_with fail
     refine ⟨trivial,hdd _,?_⟩
     refine WR.out.mono ?_
     clear WR c0 c1 c2 hgl
     intro e W3 h3
     have HE:Hid (OnX G s pre (tl.list.drop fr ++ (x :: tr.list).drop (fr - nl)) W e W3):=by rw [E2.out];exact OnX.next K1.out N1.out h3
     rcases h3 with ⟨rfl,_⟩ | ⟨rfl,_⟩
     ·gi_wp2_with fail
      go_ret
      exact HE.out
     ·gi_wp2_with fail
      go_ret
      exact HE.out
theorem Items_any (u:Option Addr) (fr:Int) (m:Nat) (w:World) (hm:(m:Int)=max fr 0) :
  Calls Tryz.prog 62 #[.agg #[.pointer u],.int .i64 fr] w fun e w'=>e=.returned (.func (.func 81) #[] #[.pointer (some ⟨w.heap.size,0,none⟩),.pointer (some ⟨w.heap.size + 1,0,none⟩)]) ∧
   w'=(w.alloc (.cells #[.pointer u] 106)).alloc (.cells #[.int .i64 m] 3):=by
 by_cases h:fr < 0
 ·obtain rfl:m=0:=by omega
  clear hm
  go_enter Tryz.func62,Tryz.ntmps62
  go_wp2_with fail
  go_ret
  exact ⟨rfl,rfl⟩
 ·have hfm:fr=(m:Int):=by omega
  have hnn:¬ (m:Int) < 0:=by omega
  clear hm h
  subst hfm
  go_enter Tryz.func62,Tryz.ntmps62
  go_wp2_with fail
  go_ret
  exact ⟨rfl,rfl⟩
theorem items_stops (n:Nat) (t:Tr It) (u:Option Addr) (m:Nat) (w:World) (a b n₀:Nat) (hn:n₀≤w.heap.size) (ha:a < w.heap.size) (hb:b < w.heap.size) (wT:World) (hwT:wT.heap.size=n₀) (hBT:Below n₀ wT w) (hT:Tin wT t u) (hl:t.list.length≤4611686018427387904) (hm:m≤9223372036854775807)
  (hA:w.heap[a]?=some (.cells #[.pointer u] 106 (0,0))) (hB:w.heap[b]?=some (.cells #[.int .i64 m] 3 (0,0))) :
  SeqX Fence.wide n Tryz.prog 81 #[.pointer (some ⟨a,0,none⟩),.pointer (some ⟨b,0,none⟩)] (fun x:It=>#[.agg #[.slice x.p x.n x.c,.int .i64 x.pl,.int .i64 x.sp.a,.int .i64 x.sp.s,.int .i64 x.sp.b,.bool x.sp.lf,.bool x.sp.cr]]) (fun k=>k < n₀∨k=a∨k=b) (fun xs=>xs=t.list.drop m) (fun pre=>pre <+: t.list.drop m) w:=by
 intro l σ G s W hK hrel _ hY h0
 have hbW:Below wT.heap.size wT W:=by
  rw [hwT]
  exact ⟨hK.os.trans hBT.os,hK.tape.trans hBT.tape,hK.output.trans hBT.output,by have:=hK.size;omega,fun k hk=>(hK.same k (by omega) (fun e=>e (.inl hk))).trans (hBT.block k hk)⟩
 have hA':W.heap[a]?=some (.cells #[.pointer u] 106 (0,0)):=(hK.same a ha (fun e=>e (.inr (.inl rfl)))).trans hA
 have hB':W.heap[b]?=some (.cells #[.int .i64 m] 3 (0,0)):=(hK.same b hb (fun e=>e (.inr (.inr rfl)))).trans hB
 have c0:W.cell? ⟨a,0,none⟩=some (.pointer u):=by rw [cell_of_row W a _ _ _ _ hA'];rfl
 have c1:W.cell? ⟨b,0,none⟩=some (.int .i64 m):=by rw [cell_of_row W b _ _ _ _ hB'];rfl
 have hw:=zh (walk_in G l (t.list.drop m) wT (fun k s pre x W1 hj hlen=>yield_any k (hY s pre x W1 hj hlen)) t (n - 1) u m s [] W hT hbW (fun k ho=>by
  rw [hwT]
  by_cases hk:k < n₀
  ·exact absurd ho (hrel k (.inl hk)).2
  ·omega) hl hm h0 (List.prefix_refl _))
 clear hY hA' hB' hA hB hT hbW
 generalize t.list.drop m=xs at *
 refine callsIn_of_wp Tryz.func81 rfl trivial ?_ rfl
 simp only [Tryz.ntmps81,List.size_toArray,List.length_cons,List.length_nil,Nat.reduceAdd,Nat.reduceSub,Array.replicate_succ,Array.replicate_zero,List.push_toArray,List.append_toArray,List.nil_append,List.cons_append]
 gi_wp2_with fail
 refine ⟨trivial,hdd _,?_⟩
 refine hw.out.mono ?_
 rintro e W1 (⟨rfl,s1,hJ1,k1,n1⟩ | ⟨rfl,s1,q,hq,hx1,k1,n1⟩)
 ·have HE:=zh (show ∃ s',Kps (G.own s) W W1∧Newer G.own s s' W∧((∃ ys,ys=xs∧G.J s' ys W1)∨(∃ pre,pre <+: xs∧G.Jx s' pre W1)) from ⟨s1,k1,n1,.inl ⟨xs,rfl,by simpa using hJ1⟩⟩)
  clear hw hJ1
  gi_wp2_with fail
  go_end0
  exact ⟨⟨_,rfl⟩,HE.out⟩
 ·have HE:=zh (show ∃ s',Kps (G.own s) W W1∧Newer G.own s s' W∧((∃ ys,ys=xs∧G.J s' ys W1)∨(∃ pre,pre <+: xs∧G.Jx s' pre W1)) from ⟨s1,k1,n1,.inr ⟨q,hq,by simpa using hx1⟩⟩)
  clear hw hx1
  gi_wp2_with fail
  go_end0
  exact ⟨⟨_,rfl⟩,HE.out⟩
open Go.RowKit
open Go.RowKit
theorem oper_in {l n:Nat} {P:Program} {o:Oper} {a:Act} {w:World} {next next':Act→World→Prop} {Q:Exit→Act→World→Prop} (hd:∀ c,o.op≠.defer c) (hn:∀ a w,next a w→next' a w) (h:o.wp P a w next Q):o.wpIn (Fence.wide.inRound l) n P a w next' Q:=by
 refine ⟨fun f _=>trivial,?_⟩
 rw [Oper.semAt_plain _ _ _ hd]
 unfold Oper.wp at h
 cases hr:(execOp a.eval o).run P w with
 | ok y w' =>
   rw [hr] at h
   cases y with
   | value v=>exact hn _ _ h
   | skip=>exact hn _ _ h
   | defer d=>exact hn _ _ h
   | enter f args =>
     refine ⟨(fun e=>by cases e),?_⟩
     refine (callsIn_wide (n:=n - 1)).2 (Calls.mono h fun e w'' he=>?_)
     cases e with
     | returned v=>exact hn _ _ he
     | panicked c=>exact he
     | outgrown=>exact he
   | row r args =>
     refine ⟨(fun e=>by cases e),?_⟩
     exact fun c cs _=>let ⟨v,w',r,s⟩:=h c cs;⟨v,w',hn _ _ r,stepsIn_wide.2 s⟩
   | _=>exact h.elim
 | halt k w' =>
   rw [hr] at h
   cases k with
   | panic v=>exact h
   | _=>exact h.elim
theorem ops_inC {l n:Nat} {P:Program} {ops:Array Oper} {Q:Exit→Act→World→Prop} (hq:∀ (i:Nat) (o:Oper),ops[i]?=some o→∀ c,o.op≠.defer c) (hlo:¬ LetsOut Q) :
  ∀ (t:List Nat) (a:Act) (w:World),wpOps P ops Q t a w→wpOpsIn (Fence.wide.inRound l) n P ops Q t a w:=by
 intro t
 induction t with
 | nil=>intro a w h;exact h
 | cons i rest ih =>
   intro a w h
   unfold wpOps at h
   unfold wpOpsIn
   cases ho:ops[i]? with
   | none=>rw [ho] at h;exact ih a w h
   | some o =>
     rw [ho] at h
     simp only at h ⊢
     by_cases hw:Region.wanted o (yielded ops a.tmps)=true
     ·rw [if_pos hw] at h ⊢
      rcases h with h | h
      ·exact oper_in (hq i o ho) (fun a w h=>ih a w h) h
      ·exact absurd h.2 hlo
     ·rw [if_neg hw] at h ⊢
      exact ⟨fun f _=>trivial,ih _ _ h⟩
theorem wpIn_heldC {l n:Nat} {P:Program} {ops:Array Oper} {Q:Exit→Act→World→Prop} {S:World→Prop} {id:Nat} {a:Act} {w:World} (hq:∀ (i:Nat) (o:Oper),ops[i]?=some o→∀ c,o.op≠.defer c) (hlo:¬ LetsOut Q) (hm:P.follows .mixedOrders=true) (hS:S w.drew)
  (h:S w.drew→wpAnyH P .any ops Q S ops.size (Array.replicate ops.size false) a w.drew):(Code.region id ops true).wpIn (Fence.wide.inRound l) n P Q a w :=
 wpIn_region_draw fun t=>by
  simp only [Region.schedule,hm,Bool.true_or,if_true]
  exact ops_inC hq hlo _ _ _ (wpAny_sound ops.size t _ a _ (wpAny_of_held _ _ _ _ (h hS)))
open Go.RowKit
open Go.RowKit
def szAt (w:World):Value→Nat
 | .pointer (some a)=>match w.cell? ⟨a.block,9,none⟩ with
   | some (.int _ n)=>n.toNat
   | _=>0
 | _=>0
theorem szAt_tin {w:World} {t:Tr It} {u:Option Addr} (h:Tin w t u):szAt w (.pointer u)=t.list.length:=by
 cases t using Tr.ind with
 | nil=>simp only [Tin] at h;subst h;rfl
 | node l x r =>
   obtain ⟨g,lv,rv,rfl,hg,hl,hr⟩:=h
   have c4:w.cell? ⟨g,9,none⟩=some (.int .i64 ((l.list ++ x :: r.list).length:Nat)):=by (rw [cell_of_row w g _ _ _ _ hg];rfl)
   simp [szAt,c4,Tr.list]
   omega
def atL (l:List It) (i:Int):Option It:=if i < 0 then none else l[i.toNat]?
theorem atL_nil (i:Int):atL [] i=none:=by unfold atL;split <;> simp
theorem atL_here (l r:List It) (x:It):atL (l ++ x :: r) l.length=some x:=by
 unfold atL;rw [if_neg (by omega)];simp
theorem atL_left (l r:List It) (x:It) (i:Int) (h:i < l.length):atL (l ++ x :: r) i=atL l i:=by
 unfold atL
 split
 ·rfl
 ·rw [List.getElem?_append_left (by omega)]
theorem atL_right (l r:List It) (x:It) (i:Int) (h:l.length < i):atL (l ++ x :: r) i=atL r (i - (l.length + 1)):=by
 unfold atL
 rw [if_neg (by omega),if_neg (by omega),List.getElem?_append_right (by omega),show i.toNat - l.length=(i - (l.length + 1)).toNat + 1 by omega]
 rfl
def AtP (xs:List It) (i:Int) (x:It) (b:Bool):Prop:=(atL xs i=some x∧b=true)∨(atL xs i=none∧b=false∧x=It.zero)
set_option maxHeartbeats 2000000 in
theorem At_any (u:Option Addr) (xs:List It) (i:Int) (w:World) (h:TT w (.agg #[.pointer u]) xs) (hw:wt xs≤4611686018427387904) (hi:i≤9223372036854775807) :
  Calls Tryz.prog 56 #[.agg #[.pointer u],.int .i64 i] w fun e w'=>∃ x b,e=.returned (.tuple #[.agg #[.slice x.p x.n x.c,.int .i64 x.pl,.int .i64 x.sp.a,.int .i64 x.sp.s,.int .i64 x.sp.b,.bool x.sp.lf,.bool x.sp.cr],.bool b])∧AtP xs i x b∧Below w.heap.size w w':=by
 obtain ⟨u',tr,hu,ht,hl,_⟩:=h
 obtain rfl:u=u':=by simpa using hu
 obtain ⟨w0,hw0⟩:∃ w0,w0=(w.alloc (.cells #[.pointer u] 106)).alloc (.cells #[.slice none 0 0,.int .i64 0,.int .i64 0,.int .i64 0,.int .i64 0,.bool false,.bool false] 111):=⟨_,rfl⟩
 have hb0:Below w.heap.size w w0:=by rw [hw0];exact zxa (zxa (Below.refl _ _) _) _
 have hA:BlkI w0 (w.heap.size + 1) It.zero:=by
  have:=heap_alloc_new (w.alloc (.cells #[.pointer u] 106)) (.cells #[.slice none 0 0,.int .i64 0,.int .i64 0,.int .i64 0,.int .i64 0,.bool false,.bool false] 111)
  rw [World.size_alloc] at this
  rw [hw0];exact this
 have hlt:=hA.lt
 have HT:=zh (ht.ext hb0)
 have HL:=zh hl
 have HB0:=zh hb0
 have HW:=zh hw
 clear ht hl hb0 hu hw
 go_enter Tryz.func56,Tryz.ntmps56
 go_wp2_with fail
 rw [← hw0]
 clear hw0
 go_loopw [1,6] (fun i' p wr=>∃ (t:Tr It) (q:Option Addr) (j:Int),i'=.int .i64 j∧p=.pointer q∧Tin wr t q∧Hid (atL xs i=atL t.list j∧wt t.list≤4611686018427387904)∧j≤9223372036854775807∧wr=w0) (fun _ p wr=>szAt wr p)
 case atStart=>exact ⟨tr,u,i,rfl,rfl,HT.out,⟨by rw [HL.out],by rw [HL.out];exact HW.out⟩,hi,rfl⟩
 case round =>
  obtain ⟨t,q,j,rfl,rfl,htq,HA,hj,rfl⟩:=hrel
  obtain ⟨z0,z1,zf⟩:=hA.cells
  cases t using Tr.ind with
  | nil =>
    simp only [Tin] at htq
    subst htq
    go_wp2_with fail
    obtain ⟨p1,p2⟩:=hA.put It.zero
    have HN:atL xs i=none:=by rw [HA.out.1,Tr.list,atL_nil]
    exact bodyPost_ret (v:=.tuple #[.agg #[.slice none 0 0,.int .i64 0,.int .i64 0,.int .i64 0,.int .i64 0,.bool false,.bool false],.bool false]) (by simp [results,Tryz.results56,go_sem,z0,hlt]) rfl ⟨It.zero,false,rfl,.inr ⟨HN,rfl,rfl⟩,zxa (zbp HB0.out (by omega) p2 (by omega)) _⟩
  | node l x r =>
    have hsz:=szAt_tin htq
    have HTQ:=zh htq
    obtain ⟨g,lu,ru,rfl,hgl,h2,h3,c0,c1,c2,c3⟩:=htq.lt
    have hlen:l.list.length≤4611686018427387904:=by
     have:=HA.out.2
     have:=wt_len l.list
     rw [Tr.list,wt_app] at *
     omega
    have HLL:=zh h2
    have HRR:=zh h3
    have K:Hid (Calls Tryz.prog 79 #[.pointer lu] wr fun e w''=>e=.returned (.int .i64 l.list.length)∧w''=wr):=count_any l lu wr h2
    have sl:=szAt_tin h2
    have sr:=szAt_tin h3
    have HS:Hid (szAt wr (.pointer (some ⟨g,0,none⟩))=l.list.length + 1 + r.list.length∧szAt wr (.pointer lu)=l.list.length∧szAt wr (.pointer ru)=r.list.length):=⟨by rw [hsz,Tr.list];simp;omega,sl,sr⟩
    clear htq h2 h3 hsz sl sr
    rcases Int.lt_trichotomy j l.list.length with hj1 | hj1 | hj1
    ·have hne:¬ j=(l.list.length:Int):=by omega
     have HN:Hid (atL xs i=atL l.list j∧wt l.list≤4611686018427387904):=by
      obtain ⟨a1,a2⟩:=HA.out
      rw [Tr.list] at a1 a2
      rw [wt_app] at a2
      exact ⟨by rw [a1,atL_left _ _ _ _ hj1],by omega⟩
     generalize l.list.length=nl at *
     go_wp2_with (go_at_call 79;refine K.out.mono ?_;rintro e w1 ⟨rfl,rfl⟩)
     go_roundw
     case rel=>exact ⟨l,lu,j,rfl,rfl,HLL.out,HN,hj,trivial⟩
     case measure=>rw [HS.out.1,HS.out.2.1];omega
    ·have HN:Hid (atL xs i=some x):=by
      obtain ⟨a1,a2⟩:=HA.out
      rw [Tr.list] at a1
      unfold Hid
      rw [a1,hj1,atL_here]
     generalize l.list.length=nl at *
     subst hj1
     go_wp2_with (go_at_call 79;refine K.out.mono ?_;rintro e w1 ⟨rfl,rfl⟩)
     obtain ⟨p1,p2⟩:=hA.put x
     exact bodyPost_ret (v:=.tuple #[.agg #[.slice x.p x.n x.c,.int .i64 x.pl,.int .i64 x.sp.a,.int .i64 x.sp.s,.int .i64 x.sp.b,.bool x.sp.lf,.bool x.sp.cr],.bool true]) (by simp [results,Tryz.results56,go_sem,z0]) rfl ⟨x,true,rfl,.inl ⟨HN.out,rfl⟩,zbp HB0.out (by omega) p2 (by omega)⟩
    ·have hne:¬ j=(l.list.length:Int):=by omega
     have hge:¬ j < (l.list.length:Int):=by omega
     have HN:Hid (atL xs i=atL r.list (j - (l.list.length + 1))∧wt r.list≤4611686018427387904):=by
      obtain ⟨a1,a2⟩:=HA.out
      rw [Tr.list] at a1 a2
      rw [wt_app,wt_cons] at a2
      exact ⟨by rw [a1,atL_right _ _ _ _ hj1],by omega⟩
     generalize l.list.length=nl at *
     go_wp2_with (go_at_call 79;refine K.out.mono ?_;rintro e w1 ⟨rfl,rfl⟩)
     go_roundw
     case rel=>exact ⟨r,ru,_,rfl,rfl,HRR.out,HN,by omega,trivial⟩
     case measure=>rw [HS.out.1,HS.out.2.2];omega
end Go.Proofs.YtgfdfajblidleaaGreat.P
