import Derived.Test.YtdhciadajendnaaGreatK28
import Derived.Test.YtdhciadajendnaaGreatK30
set_option maxRecDepth 100000
namespace Go.Proofs.YtdhciadajendnaaGreat.P
open Go.RowKit Go.Shelf
attribute [local go_sem] Oper.semAt_some
set_option maxHeartbeats 2000000 in
theorem between_any (t:Nat) (f tz:Int) (w:World):Calls Tryz.prog 71 #[.pointer (some ⟨t,0,none⟩),.int .i64 f,.int .i64 tz] w fun e w'=>e=.returned (.func (.func 105) #[] #[.pointer (some ⟨w.heap.size,0,none⟩),.pointer (some ⟨w.heap.size + 1,0,none⟩),.pointer (some ⟨w.heap.size + 2,0,none⟩)]) ∧
  w'=((w.alloc (.cells #[.pointer (some ⟨t,0,none⟩)] 26)).alloc (.cells #[.int .i64 f] 3)).alloc (.cells #[.int .i64 tz] 3):=by
 go_enter Tryz.func71,Tryz.ntmps71
 go_wp2_with fail
 go_ret
 exact ⟨rfl,rfl⟩
structure BtI {σ:Type} (G:Guest σ (Int × Int)) (enc:Int) (ps:List PG) (f tz i base b6 b7:Nat) (hold:Nat→Prop) (V:World) (s:σ) (pre:List It) (W:World):Prop where
 pr:pre=xsOf ((ps.drop i).take pre.length)
 len:i + pre.length≤ps.length
 le:(sh enc (ps.take (i + pre.length))).length≤tz
 j:G.J s (told enc ps f (i + pre.length) 0) W
 ap:∀ k,G.own s k→k≠b6∧k≠b7∧¬ hold k
 ins:W.heap[b6]?=some (.cells #[.int .i64 ((if pre.length=0 then f - base else 0:Nat):Int)] 3 (0,0))
 lft:W.heap[b7]?=some (.cells #[.int .i64 ((tz - max f (sh enc (ps.take (i + pre.length))).length:Nat):Int)] 3 (0,0))
 hd:∀ k,hold k→W.heap[k]?=V.heap[k]?
def btO {σ:Type} (G:Guest σ (Int × Int)) (b6 b7:Nat) (s:σ) (k:Nat):Prop:=G.own s k∨k=b6∨k=b7
def BtX {σ:Type} (G:Guest σ (Int × Int)) (enc:Int) (ps:List PG) (f tz:Nat) (c:Code) (s:σ) (W:World):Prop:=c=.ret∧(G.J s (btw enc ps f tz) W∨∃ q,q <+: btw enc ps f tz∧G.Jx s q W)
section
variable {σ:Type} {G:Guest σ (Int × Int)} {enc:Int} {ps:List PG} {f tz i base b6 b7:Nat} {hold:Nat→Prop} {V:World}
theorem BtI.same {s:σ} {pre:List It} {W W':World} (h:BtI G enc ps f tz i base b6 b7 hold V s pre W) (hz:W.heap.size≤W'.heap.size) (hk:∀ k,btO G b6 b7 s k∨(G.lean k∨hold k)→W'.heap[k]?=W.heap[k]?):BtI G enc ps f tz i base b6 b7 hold V s pre W' :=
 ⟨h.pr,h.len,h.le,G.stay s _ W W' h.j hz (fun k ho=>hk k (ho.elim (fun o=>.inl (.inl o)) (fun o=>.inr (.inl o)))),h.ap,by rw [hk b6 (.inl (.inr (.inl rfl)))];exact h.ins,by rw [hk b7 (.inl (.inr (.inr rfl)))];exact h.lft,fun k hh=>(hk k (.inr (.inr hh))).trans (h.hd k hh)⟩
theorem BtX.same {c:Code} {s:σ} {W W':World} (h:BtX G enc ps f tz c s W) (hz:W.heap.size≤W'.heap.size) (hk:∀ k,btO G b6 b7 s k∨(G.lean k∨hold k)→W'.heap[k]?=W.heap[k]?):BtX G enc ps f tz c s W':=by
 refine ⟨h.1,h.2.imp (fun j=>G.stay s _ W W' j hz (fun k ho=>hk k (ho.elim (fun o=>.inl (.inl o)) (fun o=>.inr (.inl o))))) ?_⟩
 rintro ⟨q,hq,hj⟩
 exact ⟨q,hq,G.stayx s _ W W' hj hz (fun k ho=>hk k (ho.elim (fun o=>.inl (.inl o)) (fun o=>.inr (.inl o))))⟩
theorem BtI.lives {s:σ} {pre:List It} {W:World} (h:BtI G enc ps f tz i base b6 b7 hold V s pre W) (k:Nat) (hk:btO G b6 b7 s k):k < W.heap.size:=by
 rcases hk with hk | rfl | rfl
 ·exact G.lives s _ W h.j k hk
 ·exact (Array.getElem?_eq_some_iff.1 h.ins).1
 ·exact (Array.getElem?_eq_some_iff.1 h.lft).1
end
def btMu (N:Nat):Value→Nat
 | .int _ z=>N - z.toNat
 | _=>0
structure BtL {σ:Type} (G:Guest σ (Int × Int)) (b6 b7 g5:Nat) (hold:Nat→Prop) (V:World) (x:It) (s0:σ) (W0:World) (T:List (Int × Int)) (iv lf:Nat) (s:σ) (W:World):Prop where
 j:G.J s T W
 ap:∀ k,G.own s k→k≠b6∧k≠b7∧¬ hold k
 og:∀ k,G.own s k→k≠g5
 inb:W.heap[b6]?=some (.cells #[.int .i64 (iv:Nat)] 3 (0,0))
 lft:W.heap[b7]?=some (.cells #[.int .i64 (lf:Nat)] 3 (0,0))
 hd:∀ k,hold k→W.heap[k]?=V.heap[k]?
 bx:BlkI W g5 x
 kp:Kps (btO G b6 b7 s0) W0 W
 nw:Newer (btO G b6 b7) s0 s W0
structure BtS {σ:Type} (G:Guest σ (Int × Int)) (b6 b7 g5:Nat) (hold:Nat→Prop):Prop where
 ne:b6≠b7
 n6:b6≠g5
 n7:b7≠g5
 h6:¬ hold b6
 h7:¬ hold b7
 lb:∀ k,G.lean k→k≠b6∧k≠b7
section
variable {σ:Type} {G:Guest σ (Int × Int)} {b6 b7 g5:Nat} {hold:Nat→Prop} {V:World} {x:It} {s0:σ} {W0:World} {T:List (Int × Int)} {iv lf:Nat} {s:σ} {W:World}
theorem BtL.call {W':World} (h:BtL G b6 b7 g5 hold V x s0 W0 T iv lf s W) (hb:Below W.heap.size W W') (hln:∀ k,G.lean k→k < W0.heap.size) (hhl:∀ k,hold k→k < W0.heap.size):BtL G b6 b7 g5 hold V x s0 W0 T iv lf s W':=by
 have z:=h.kp.size
 refine ⟨G.stay s T W W' h.j hb.size (fun k ho=>hb.block k (ho.elim (G.lives s T W h.j k) (fun o=>by have:=hln k o;omega))),h.ap,h.og,?_,?_,fun k hk=>(hb.block k (by have:=hhl k hk;omega)).trans (h.hd k hk),h.bx.same9 (hb.block g5 h.bx.lt),h.kp.trans (Kps.of_below (btO G b6 b7 s0) hb) (fun _ _ e=>e),h.nw⟩
 ·exact (hb.block b6 (Array.getElem?_eq_some_iff.1 h.inb).1).trans h.inb
 ·exact (hb.block b7 (Array.getElem?_eq_some_iff.1 h.lft).1).trans h.lft
theorem BtL.told {T':List (Int × Int)} {s':σ} {W':World} (h:BtL G b6 b7 g5 hold V x s0 W0 T iv lf s W) (hJ:G.J s' T' W') (hk:Kps (G.own s) W W') (hn:Newer G.own s s' W) (hhl:∀ k,hold k→k < W0.heap.size):BtL G b6 b7 g5 hold V x s0 W0 T' iv lf s' W':=by
 have z:=h.kp.size
 have l6:=(Array.getElem?_eq_some_iff.1 h.inb).1
 have l7:=(Array.getElem?_eq_some_iff.1 h.lft).1
 have l5:=h.bx.lt
 have hn':Newer (btO G b6 b7) s0 s' W0:=fun k ho=>by
  rcases ho with ho | ho | ho
  ·rcases hn k ho with h1 | h1
   ·exact h.nw k (.inl h1)
   ·exact .inr (by omega)
  ·exact .inl (.inr (.inl ho))
  ·exact .inl (.inr (.inr ho))
 refine ⟨hJ,fun k ho=>?_,fun k ho=>?_,?_,?_,fun k hh=>?_,?_,?_,hn'⟩
 ·rcases hn k ho with h1 | h1
  ·exact h.ap k h1
  ·exact ⟨by omega,by omega,fun hh=>by have:=hhl k hh;omega⟩
 ·rcases hn k ho with h1 | h1
  ·exact h.og k h1
  ·omega
 ·exact (hk.same b6 l6 (fun e=>(h.ap b6 e).1 rfl)).trans h.inb
 ·exact (hk.same b7 l7 (fun e=>(h.ap b7 e).2.1 rfl)).trans h.lft
 ·exact (hk.same k (by have:=hhl k hh;omega) (fun e=>(h.ap k e).2.2 hh)).trans (h.hd k hh)
 ·exact h.bx.same9 (hk.same g5 l5 (fun e=>h.og g5 e rfl))
 ·refine h.kp.trans hk (fun k hlt ho=>?_)
  rcases h.nw k (.inl ho) with h1 | h1
  ·exact h1
  ·omega
theorem BtL.kpn {s':σ} {W':World} (h:BtL G b6 b7 g5 hold V x s0 W0 T iv lf s W) (hk:Kps (G.own s) W W') (hn:Newer G.own s s' W) (hhl:∀ k,hold k→k < W0.heap.size):Kps (btO G b6 b7 s0) W0 W'∧Newer (btO G b6 b7) s0 s' W0∧(∀ k,hold k→W'.heap[k]?=V.heap[k]?)∧BlkI W' g5 x:=by
 have z:=h.kp.size
 refine ⟨?_,?_,?_,?_⟩
 ·refine h.kp.trans hk (fun k hlt ho=>?_)
  rcases h.nw k (.inl ho) with h1 | h1
  ·exact h1
  ·omega
 ·intro k ho
  rcases ho with ho | ho | ho
  ·rcases hn k ho with h1 | h1
   ·exact h.nw k (.inl h1)
   ·exact .inr (by omega)
  ·exact .inl (.inr (.inl ho))
  ·exact .inl (.inr (.inr ho))
 ·exact fun k hh=>(hk.same k (by have:=hhl k hh;omega) (fun e=>(h.ap k e).2.2 hh)).trans (h.hd k hh)
 ·exact h.bx.same9 (hk.same g5 h.bx.lt (fun e=>h.og g5 e rfl))
theorem BtL.put7 (h:BtL G b6 b7 g5 hold V x s0 W0 T iv lf s W) (hs:BtS G b6 b7 g5 hold) (lf':Nat):BtL G b6 b7 g5 hold V x s0 W0 T iv lf' s (W.setCell ⟨b7,0,none⟩ (.int .i64 (lf':Nat))):=by
 obtain ⟨p1,p2⟩:=set1 h.lft 0 (.int .i64 (lf':Nat))
 have e:∀ k,k < W.heap.size→k≠b7→(W.setCell ⟨b7,0,none⟩ (.int .i64 (lf':Nat))).heap[k]?=W.heap[k]?:=fun k h1 h2=>p2.block k h1 (by intro e;simp only [Option.some.injEq] at e;exact h2 e)
 have e':∀ k,k≠b7→(W.setCell ⟨b7,0,none⟩ (.int .i64 (lf':Nat))).heap[k]?=W.heap[k]?:=fun k h2=>by
  rcases Nat.lt_or_ge k W.heap.size with h1 | h1
  ·exact e k h1 h2
  ·rw [Array.getElem?_eq_none h1,Array.getElem?_eq_none (by simpa using h1)]
 refine ⟨G.stay s T W _ h.j p2.size (fun k ho=>e' k (ho.elim (fun o=>(h.ap k o).2.1) (fun o=>(hs.lb k o).2))),h.ap,h.og,(e' b6 hs.ne).trans h.inb,p1,fun k hk=>(e' k (fun e=>hs.h7 (e ▸ hk))).trans (h.hd k hk),h.bx.same9 (e' g5 (Ne.symm hs.n7)),h.kp.trans (Kps.grown p2 fun j e _=>?_) (fun _ _ e=>e),h.nw⟩
 simp only [Option.some.injEq] at e
 subst e
 exact .inr (.inr rfl)
theorem BtL.put6 (h:BtL G b6 b7 g5 hold V x s0 W0 T iv lf s W) (hs:BtS G b6 b7 g5 hold) (iv':Nat):BtL G b6 b7 g5 hold V x s0 W0 T iv' lf s (W.setCell ⟨b6,0,none⟩ (.int .i64 (iv':Nat))):=by
 obtain ⟨p1,p2⟩:=set1 h.inb 0 (.int .i64 (iv':Nat))
 have e':∀ k,k≠b6→(W.setCell ⟨b6,0,none⟩ (.int .i64 (iv':Nat))).heap[k]?=W.heap[k]?:=fun k h2=>by
  rcases Nat.lt_or_ge k W.heap.size with h1 | h1
  ·exact p2.block k h1 (by intro e;simp only [Option.some.injEq] at e;exact h2 e)
  ·rw [Array.getElem?_eq_none h1,Array.getElem?_eq_none (by simpa using h1)]
 refine ⟨G.stay s T W _ h.j p2.size (fun k ho=>e' k (ho.elim (fun o=>(h.ap k o).1) (fun o=>(hs.lb k o).1))),h.ap,h.og,p1,(e' b7 (Ne.symm hs.ne)).trans h.lft,fun k hk=>(e' k (fun e=>hs.h6 (e ▸ hk))).trans (h.hd k hk),h.bx.same9 (e' g5 (Ne.symm hs.n6)),h.kp.trans (Kps.grown p2 fun j e _=>?_) (fun _ _ e=>e),h.nw⟩
 simp only [Option.some.injEq] at e
 subst e
 exact .inr (.inl rfl)
end
set_option maxHeartbeats 8000000 in
theorem between_stops (n:Nat) (enc lim:Int) (L:List Int) (t:Nat) (ps:List PG) (f tz:Nat) (hft:f≤tz) (hto:tz≤(sh enc ps).length) (wT:World) (hT:Tx enc lim L wT t ps) (w:World) (hBT:Below wT.heap.size wT w) (ba bf bt:Nat) (la:ba < w.heap.size) (lf:bf < w.heap.size) (lt:bt < w.heap.size)
  (hA:w.heap[ba]?=some (.cells #[.pointer (some ⟨t,0,none⟩)] 26 (0,0))) (hF:w.heap[bf]?=some (.cells #[.int .i64 f] 3 (0,0))) (hTo:w.heap[bt]?=some (.cells #[.int .i64 tz] 3 (0,0))) :
  SeqX Fence.wide n Tryz.prog 105 #[.pointer (some ⟨ba,0,none⟩),.pointer (some ⟨bf,0,none⟩),.pointer (some ⟨bt,0,none⟩)] (fun p:Int × Int=>#[.int .i64 p.1,.int .i64 p.2]) (fun k=>k < wT.heap.size∨k=ba∨k=bf∨k=bt) (fun xs=>xs=btw enc ps f tz) (fun pre=>pre <+: btw enc ps f tz) w:=by
 intro l σ G s W hK hrel hlean hY h0
 have hbW:Below wT.heap.size wT W:=⟨hK.os.trans hBT.os,hK.tape.trans hBT.tape,hK.output.trans hBT.output,by have:=hK.size;have:=hBT.size;omega,fun k hk=>(hK.same k (Nat.lt_of_lt_of_le hk hBT.size) (fun e=>e (.inl hk))).trans (hBT.block k hk)⟩
 have HHE:Hid (W.heap[ba]?=some (.cells #[.pointer (some ⟨t,0,none⟩)] 26 (0,0))∧W.heap[bf]?=some (.cells #[.int .i64 f] 3 (0,0))∧W.heap[bt]?=some (.cells #[.int .i64 tz] 3 (0,0))) :=
  ⟨(hK.same ba la (fun e=>e (.inr (.inl rfl)))).trans hA,(hK.same bf lf (fun e=>e (.inr (.inr (.inl rfl))))).trans hF,(hK.same bt lt (fun e=>e (.inr (.inr (.inr rfl))))).trans hTo⟩
 have HT:=zh hT
 have HTW:=zh (hT.ext hbW)
 have HBW:=zh hbW
 obtain ⟨lv,u,⟨_,_,_,c3⟩,_,htt,htl⟩:=HTW.out.cells
 have htlT:t < wT.heap.size:=by obtain ⟨_,_,_,_,_,h⟩:=hT.cells;exact h
 have HTT:=zh htt
 obtain ⟨i,hfi,hil,hib,hig⟩:=find_from hT.pc f
 obtain ⟨base,hbs⟩:∃ base,base=(sh enc (ps.take i)).length:=⟨_,rfl⟩
 have hbf:base≤f:=by rw [hbs];exact hib
 have hsl:(sh enc ps).length≤65536:=hT.sum.2.2
 have hpl:ps.length≤65536:=by have:=hT.pc.len;have:=ln_ge enc (asOf ps);have:=hT.sz;omega
 have hwt:wt (xsOf ps)≤4611686018427387904:=by have:=hT.pc.wt;have:=hT.sz;omega
 have FD:Hid (∀ w',Below W.heap.size W w'→Calls Tryz.prog 93 #[.agg #[.pointer u],.int .i64 0,.int .i64 ((f:Int) + 1)] w' fun e w''=>e=.returned (.int .i64 ((i + 1:Nat):Int))∧Below w'.heap.size w' w''):=fun w' hb=>by rw [← hfi];exact Find_any u (xsOf ps) 0 ((f:Int) + 1) w' (htt.ext hb) hwt
 have UP:Hid (∀ w',Below W.heap.size W w'→Calls Tryz.prog 95 #[.agg #[.pointer u],.int .i64 (i:Nat)] w' fun e w''=>∃ s,Hid (s=rA.su ((xsOf ps).take i))∧e=.returned (.agg #[.int .i64 s.a,.int .i64 s.s,.int .i64 s.b,.bool s.lf,.bool s.cr])∧Below w'.heap.size w' w''):=fun w' hb=>by have:=Upto_any u (xsOf ps) (i:Nat) w' (htt.ext hb) hwt (by omega);rwa [Int.toNat_natCast] at this
 have HUA:Hid ((rA.su ((xsOf ps).take i)).a=(base:Int)):=by
  unfold Hid
  have h':Pcs enc L wT (ps.take i):=fun q hq=>hT.pc q (List.mem_of_mem_take hq)
  rw [show (xsOf ps).take i=xsOf (ps.take i) by simp [xsOf,List.map_take],h'.su,hbs,sh_len]
  exact (spn_a enc _ h'.fit).1
 have HIG:=zh hig
 have HBS:=zh hbs
 have HJ:=zh h0
 have HYY:=zh hY
 have HRL:=zh hrel
 have HLN:=zh hlean
 have HKW:=zh hK
 have HOW:=zh (fun k (ho:G.own s k)=>G.lives s [] W h0 k ho)
 have HSEP:=zh (show ba < W.heap.size∧bf < W.heap.size∧bt < W.heap.size from ⟨by have:=hK.size;omega,by have:=hK.size;omega,by have:=hK.size;omega⟩)
 have HC:Hid (∀ w',Below W.heap.size W w'→w'.cell? ⟨ba,0,none⟩=some (.pointer (some ⟨t,0,none⟩))∧w'.cell? ⟨bf,0,none⟩=some (.int .i64 f)∧w'.cell? ⟨bt,0,none⟩=some (.int .i64 tz)∧w'.cell? ⟨t,3,none⟩=some (.pointer u)):=fun w' hb=>by
  obtain ⟨q1,q2,q3⟩:=HHE.out
  obtain ⟨z1,z2,z3⟩:=HSEP.out
  refine ⟨?_,?_,?_,(hb.cell (p:=⟨t,3,none⟩) htl).trans c3⟩
  ·rw [cell_of_row w' _ _ _ _ _ ((hb.block _ z1).trans q1)];rfl
  ·rw [cell_of_row w' _ _ _ _ _ ((hb.block _ z2).trans q2)];rfl
  ·rw [cell_of_row w' _ _ _ _ _ ((hb.block _ z3).trans q3)];rfl
 have hwf:IntKind.i64.wrap ((f:Int) + 1)=(f:Int) + 1:=by rw [IntKind.wrap_i64];omega
 have hwi:IntKind.i64.wrap (i:Int)=(i:Int):=by rw [IntKind.wrap_i64];omega
 have hwb:IntKind.i64.wrap ((f:Int) - (base:Int))=((f - base:Nat):Int):=by rw [IntKind.wrap_i64];omega
 have hwl:IntKind.i64.wrap ((tz:Int) - (f:Int))=((tz - f:Nat):Int):=by rw [IntKind.wrap_i64];omega
 have HIB:=zh hib
 clear hK hrel hlean hY h0 hA hF hTo hBT hT hbW htt hfi hbs c3 hig hib
 refine (callsIn_wide (n:=n)).2 ?_
 refine (callsIn_wide (n:=9)).1 ?_
 refine callsIn_of_wp_marks Tryz.func105 rfl trivial ?_ rfl
 simp only [Tryz.ntmps105,List.size_toArray,List.length_cons,List.length_nil,Nat.reduceAdd,Nat.reduceSub,Array.replicate_succ,Array.replicate_zero,List.push_toArray,List.append_toArray,List.nil_append,List.cons_append]
 refine wpIn_mono (Q:=calm _) ?_ (fun _ _ _ h=>calm_imp h)
 refine wpIn_wide.2 ?_
 go_upto_region 1 with fail
 obtain ⟨W0,hW0,k4,hb0⟩:∃ W0,W0=W.alloc (.cells #[.func (.yield l) #[] #[]] 149)∧W0.heap[W.heap.size]?=some (.cells #[.func (.yield l) #[] #[]] 149 (0,0))∧Below W.heap.size W W0:=⟨_,rfl,heap_alloc_new _ _,zxa (Below.refl _ _) _⟩
 rw [← hW0]
 clear hW0
 have HK4:=zh k4
 have HB0:=zh hb0
 have HB0k:=k4
 have HZ0:=zh (Array.getElem?_eq_some_iff.1 k4).1
 clear k4 hb0 HB0k
 obtain ⟨ca,cf,ct,c3⟩:=HC.out W0 HB0.out
 refine wp_region_held_drew (S:=fun w''=>w''.cell? ⟨ba,0,none⟩=some (.pointer (some ⟨t,0,none⟩))∧w''.cell? ⟨bf,0,none⟩=some (.int .i64 f)∧w''.cell? ⟨bt,0,none⟩=some (.int .i64 tz)∧w''.cell? ⟨t,3,none⟩=some (.pointer u)) (by kernel_rfl) (⟨ca,cf,ct,c3⟩) (fun _=>?_)
 refine tkH 0 rfl ?_
 refine tkH 1 rfl ?_
 refine tkH 2 rfl ?_
 refine tkH 3 rfl ?_
 refine tkH 4 rfl ?_
 refine tkH 5 rfl ?_
 refine rdH 6 rfl fun K hK=>?_
 go_simp
 refine (FD.out _ HB0.out.drew).mono ?_;clear ca cf ct c3;rintro e x1 ⟨rfl,hb⟩;have HB1:=zh (zxt HB0.out.drew hb);have HK41:=zh ((zxt (Below.drew (Below.refl W0.heap.size W0)) hb).block _ (Array.getElem?_eq_some_iff.1 HK4.out).1 |>.trans HK4.out);have HS1:=zh (zxt (Below.drew (Below.refl W0.heap.size W0)) hb).size;clear hb;obtain ⟨ca,cf,ct,c3⟩:=HC.out x1 HB1.out;try dsimp only
 refine hK.out _ _ ?_ (fun _=>?_)
 ·(try simp only [World.cell?_drew]);exact ⟨ca,cf,ct,c3⟩
 clear hK K
 try simp only [Act.put,tS]
 refine tkH 7 rfl ?_
 refine tkH 8 rfl ?_
 refine dnH ?_
 skip
 go_upto_region 2 with fail
 go_cut [6,7] from 20 to 31 (fun p q wF=>∃ b6 b7:Nat,p=.pointer (some ⟨b6,0,none⟩)∧q=.pointer (some ⟨b7,0,none⟩)∧Hid (x1.heap.size≤b6∧x1.heap.size≤b7∧b6≠b7∧wF.heap[b6]?=some (.cells #[.int .i64 (f - base:Nat)] 3 (0,0))∧wF.heap[b7]?=some (.cells #[.int .i64 (tz - f:Nat)] 3 (0,0))∧Below x1.heap.size x1 wF))
 ·have HBc:=zh (Below.refl x1.heap.size x1)
  have fa:=field_atoms
  refine wp_region_held_drew (S:=fun w''=>w''.cell? ⟨ba,0,none⟩=some (.pointer (some ⟨t,0,none⟩))∧w''.cell? ⟨bf,0,none⟩=some (.int .i64 f)∧w''.cell? ⟨bt,0,none⟩=some (.int .i64 tz)∧w''.cell? ⟨t,3,none⟩=some (.pointer u)) (by kernel_rfl) (⟨ca,cf,ct,c3⟩) (fun _=>?_)
  refine tkH 0 rfl ?_
  refine tkH 1 rfl ?_
  refine tkH 2 rfl ?_
  refine tkH 3 rfl ?_
  refine tkH 4 rfl ?_
  refine tkH 5 rfl ?_
  refine tkH 9 rfl ?_
  refine tkH 10 rfl ?_
  refine tkH 11 rfl ?_
  refine wpAnyH_ready (rs:=[6,12,13]) (by kernel_rfl) (by simp) ?_
  refine (AllReadyH.cons (o:=_) rfl (fun K hK=>?_) (AllReadyH.cons (o:=_) rfl (fun K hK=>?_) (AllReadyH.cons (o:=_) rfl (fun K hK=>?_) AllReadyH.nil)))
  ·skip
   go_simp
   refine (UP.out _ (zxt HB1.out HBc.out).drew).mono ?_;(try clear z6 zf6);(try clear z7 zf7);rintro e y1 ⟨⟨sa,ss,sb,sf,sc⟩,hs,rfl,hb⟩;obtain rfl:sa=(base:Int):=(congrArg Rs.a hs.out).trans HUA.out;have hst:Below x1.heap.size x1 y1:=zxt (Below.drew (Below.refl _ _)) hb;clear hb hs;have HBn:=zh (zxt HBc.out hst);clear HBc;have HBc:=HBn;clear HBn;clear ca cf ct c3;obtain ⟨ca,cf,ct,c3⟩:=HC.out y1 (zxt HB1.out HBc.out);(try clear z6 zf6);(try clear z7 zf7);have sz1:x1.heap.size≤y1.heap.size:=hst.size;clear hst;try dsimp only
   refine hK.out _ _ ?_ (fun _=>?_)
   ·(try simp only [World.cell?_drew]);exact HC.out y1 (zxt HB1.out HBc.out)
   clear hK K
   try simp only [Act.put,tS]
   refine tkH 7 rfl ?_
   refine tkH 8 rfl ?_
   refine wpAnyH_ready (rs:=[12,13]) (by kernel_rfl) (by simp) ?_
   refine (AllReadyH.cons (o:=_) rfl (fun K hK=>?_) (AllReadyH.cons (o:=_) rfl (fun K hK=>?_) AllReadyH.nil))
   ·skip
    go_simp
    generalize hwN:World.alloc _ _=y2;have hst:Below y1.heap.size y1 y2:=(by rw [← hwN];exact zxa (Below.refl _ _) _);have lb6:x1.heap.size≤y1.heap.size:=HBc.out.size;have HBn:=zh (zxt HBc.out hst);clear HBc;have HBc:=HBn;clear HBn;have H6:Hid (y2.heap[y1.heap.size]?=some (.cells #[.int .i64 0] 3 (0,0))):=(by unfold Hid;rw [← hwN];exact heap_alloc_new _ _);clear hwN hst;clear ca cf ct c3;obtain ⟨ca,cf,ct,c3⟩:=HC.out y2 (zxt HB1.out HBc.out);(try clear z6 zf6);(try clear z7 zf7);have zf6:∀ i,y2.frozen? ⟨y1.heap.size,i,none⟩=false:=(fun i=>by simp [World.frozen?,H6.out]);have z6:y2.cell? ⟨y1.heap.size,0,none⟩=some (.int .i64 0):=(by rw [cell_of_row y2 _ _ _ _ _ H6.out];rfl);have sz2:y1.heap.size < y2.heap.size:=(Array.getElem?_eq_some_iff.1 H6.out).1
    refine hK.out _ _ ?_ (fun _=>?_)
    ·(try simp only [World.cell?_drew]);exact HC.out y2 (zxt HB1.out HBc.out)
    clear hK K
    try simp only [Act.put,tS]
    refine rdH 13 rfl fun K hK=>?_
    go_simp
    generalize hwN:World.alloc _ _=y3;have hst:Below y2.heap.size y2 y3:=(by rw [← hwN];exact zxa (Below.refl _ _) _);have lb7:x1.heap.size≤y2.heap.size:=HBc.out.size;have HBn:=zh (zxt HBc.out hst);clear HBc;have HBc:=HBn;clear HBn;have Hn:=zh ((hst.block _ (Array.getElem?_eq_some_iff.1 H6.out).1).trans H6.out);clear H6;have H6:=Hn;clear Hn;have H7:Hid (y3.heap[y2.heap.size]?=some (.cells #[.int .i64 0] 3 (0,0))):=(by unfold Hid;rw [← hwN];exact heap_alloc_new _ _);clear hwN hst;clear ca cf ct c3;obtain ⟨ca,cf,ct,c3⟩:=HC.out y3 (zxt HB1.out HBc.out);(try clear z6 zf6);(try clear z7 zf7);have zf6:∀ i,y3.frozen? ⟨y1.heap.size,i,none⟩=false:=(fun i=>by simp [World.frozen?,H6.out]);have z6:y3.cell? ⟨y1.heap.size,0,none⟩=some (.int .i64 0):=(by rw [cell_of_row y3 _ _ _ _ _ H6.out];rfl);have zf7:∀ i,y3.frozen? ⟨y2.heap.size,i,none⟩=false:=(fun i=>by simp [World.frozen?,H7.out]);have z7:y3.cell? ⟨y2.heap.size,0,none⟩=some (.int .i64 0):=(by rw [cell_of_row y3 _ _ _ _ _ H7.out];rfl);have sz3:y2.heap.size < y3.heap.size:=(Array.getElem?_eq_some_iff.1 H7.out).1
    refine hK.out _ _ ?_ (fun _=>?_)
    ·(try simp only [World.cell?_drew]);exact HC.out y3 (zxt HB1.out HBc.out)
    clear hK K
    try simp only [Act.put,tS]
    refine rdH 14 rfl fun K hK=>?_
    go_simp
    generalize hwN:World.setCell _ _ _=y4;obtain ⟨p1,p2⟩:=set1 H6.out 0 (.int .i64 (f - base:Nat));rw [hwN] at p1 p2;(try clear z6 zf6);(try clear z7 zf7);have Hn:=zh ((p2.block y2.heap.size (Array.getElem?_eq_some_iff.1 H7.out).1 (by intro e;simp only [Option.some.injEq] at e;omega)).trans H7.out);clear H7;have H7:=Hn;clear Hn;clear H6;have H6:=zh p1;have HBn:=zh (zbp HBc.out HBc.out.size p2 lb6);clear HBc;have HBc:=HBn;clear HBn;clear hwN;have sz4:=p2.size;clear p1 p2;have zf7:∀ i,y4.frozen? ⟨y2.heap.size,i,none⟩=false:=(fun i=>by simp [World.frozen?,H7.out]);have z7:y4.cell? ⟨y2.heap.size,0,none⟩=some (.int .i64 0):=(by rw [cell_of_row y4 _ _ _ _ _ H7.out];rfl)
    refine hK.out _ _ ?_ (fun _=>?_)
    ·(try simp only [World.cell?_drew]);exact HC.out y4 (zxt HB1.out HBc.out)
    clear hK K
    try simp only [Act.put,tS]
    refine rdH 15 rfl fun K hK=>?_
    go_simp
    generalize hwN:World.setCell _ _ _=y5;obtain ⟨p1,p2⟩:=set1 H7.out 0 (.int .i64 (tz - f:Nat));rw [hwN] at p1 p2;(try clear z6 zf6);(try clear z7 zf7);have Hn:=zh ((p2.block y1.heap.size (Array.getElem?_eq_some_iff.1 H6.out).1 (by intro e;simp only [Option.some.injEq] at e;omega)).trans H6.out);clear H6;have H6:=Hn;clear Hn;clear H7;have H7:=zh p1;have HBn:=zh (zbp HBc.out HBc.out.size p2 lb7);clear HBc;have HBc:=HBn;clear HBn;clear hwN;have sz5:=p2.size;clear p1 p2;skip
    refine hK.out _ _ ?_ (fun _=>?_)
    ·(try simp only [World.cell?_drew]);exact HC.out y5 (zxt HB1.out HBc.out)
    clear hK K
    try simp only [Act.put,tS]
    refine dnH ?_
    go_wp2_with fail
    go_meet
    case rel=>exact ⟨y1.heap.size,y2.heap.size,rfl,rfl,lb6,lb7,by omega,H6.out,H7.out,HBc.out⟩
   ·skip
    go_simp
    generalize hwN:World.alloc _ _=y2;have hst:Below y1.heap.size y1 y2:=(by rw [← hwN];exact zxa (Below.refl _ _) _);have lb7:x1.heap.size≤y1.heap.size:=HBc.out.size;have HBn:=zh (zxt HBc.out hst);clear HBc;have HBc:=HBn;clear HBn;have H7:Hid (y2.heap[y1.heap.size]?=some (.cells #[.int .i64 0] 3 (0,0))):=(by unfold Hid;rw [← hwN];exact heap_alloc_new _ _);clear hwN hst;clear ca cf ct c3;obtain ⟨ca,cf,ct,c3⟩:=HC.out y2 (zxt HB1.out HBc.out);(try clear z6 zf6);(try clear z7 zf7);have zf7:∀ i,y2.frozen? ⟨y1.heap.size,i,none⟩=false:=(fun i=>by simp [World.frozen?,H7.out]);have z7:y2.cell? ⟨y1.heap.size,0,none⟩=some (.int .i64 0):=(by rw [cell_of_row y2 _ _ _ _ _ H7.out];rfl);have sz2:y1.heap.size < y2.heap.size:=(Array.getElem?_eq_some_iff.1 H7.out).1
    refine hK.out _ _ ?_ (fun _=>?_)
    ·(try simp only [World.cell?_drew]);exact HC.out y2 (zxt HB1.out HBc.out)
    clear hK K
    try simp only [Act.put,tS]
    refine rdH 12 rfl fun K hK=>?_
    go_simp
    generalize hwN:World.alloc _ _=y3;have hst:Below y2.heap.size y2 y3:=(by rw [← hwN];exact zxa (Below.refl _ _) _);have lb6:x1.heap.size≤y2.heap.size:=HBc.out.size;have HBn:=zh (zxt HBc.out hst);clear HBc;have HBc:=HBn;clear HBn;have Hn:=zh ((hst.block _ (Array.getElem?_eq_some_iff.1 H7.out).1).trans H7.out);clear H7;have H7:=Hn;clear Hn;have H6:Hid (y3.heap[y2.heap.size]?=some (.cells #[.int .i64 0] 3 (0,0))):=(by unfold Hid;rw [← hwN];exact heap_alloc_new _ _);clear hwN hst;clear ca cf ct c3;obtain ⟨ca,cf,ct,c3⟩:=HC.out y3 (zxt HB1.out HBc.out);(try clear z6 zf6);(try clear z7 zf7);have zf6:∀ i,y3.frozen? ⟨y2.heap.size,i,none⟩=false:=(fun i=>by simp [World.frozen?,H6.out]);have z6:y3.cell? ⟨y2.heap.size,0,none⟩=some (.int .i64 0):=(by rw [cell_of_row y3 _ _ _ _ _ H6.out];rfl);have zf7:∀ i,y3.frozen? ⟨y1.heap.size,i,none⟩=false:=(fun i=>by simp [World.frozen?,H7.out]);have z7:y3.cell? ⟨y1.heap.size,0,none⟩=some (.int .i64 0):=(by rw [cell_of_row y3 _ _ _ _ _ H7.out];rfl);have sz3:y2.heap.size < y3.heap.size:=(Array.getElem?_eq_some_iff.1 H6.out).1
    refine hK.out _ _ ?_ (fun _=>?_)
    ·(try simp only [World.cell?_drew]);exact HC.out y3 (zxt HB1.out HBc.out)
    clear hK K
    try simp only [Act.put,tS]
    refine rdH 14 rfl fun K hK=>?_
    go_simp
    generalize hwN:World.setCell _ _ _=y4;obtain ⟨p1,p2⟩:=set1 H6.out 0 (.int .i64 (f - base:Nat));rw [hwN] at p1 p2;(try clear z6 zf6);(try clear z7 zf7);have Hn:=zh ((p2.block y1.heap.size (Array.getElem?_eq_some_iff.1 H7.out).1 (by intro e;simp only [Option.some.injEq] at e;omega)).trans H7.out);clear H7;have H7:=Hn;clear Hn;clear H6;have H6:=zh p1;have HBn:=zh (zbp HBc.out HBc.out.size p2 lb6);clear HBc;have HBc:=HBn;clear HBn;clear hwN;have sz4:=p2.size;clear p1 p2;have zf7:∀ i,y4.frozen? ⟨y1.heap.size,i,none⟩=false:=(fun i=>by simp [World.frozen?,H7.out]);have z7:y4.cell? ⟨y1.heap.size,0,none⟩=some (.int .i64 0):=(by rw [cell_of_row y4 _ _ _ _ _ H7.out];rfl)
    refine hK.out _ _ ?_ (fun _=>?_)
    ·(try simp only [World.cell?_drew]);exact HC.out y4 (zxt HB1.out HBc.out)
    clear hK K
    try simp only [Act.put,tS]
    refine rdH 15 rfl fun K hK=>?_
    go_simp
    generalize hwN:World.setCell _ _ _=y5;obtain ⟨p1,p2⟩:=set1 H7.out 0 (.int .i64 (tz - f:Nat));rw [hwN] at p1 p2;(try clear z6 zf6);(try clear z7 zf7);have Hn:=zh ((p2.block y2.heap.size (Array.getElem?_eq_some_iff.1 H6.out).1 (by intro e;simp only [Option.some.injEq] at e;omega)).trans H6.out);clear H6;have H6:=Hn;clear Hn;clear H7;have H7:=zh p1;have HBn:=zh (zbp HBc.out HBc.out.size p2 lb7);clear HBc;have HBc:=HBn;clear HBn;clear hwN;have sz5:=p2.size;clear p1 p2;skip
    refine hK.out _ _ ?_ (fun _=>?_)
    ·(try simp only [World.cell?_drew]);exact HC.out y5 (zxt HB1.out HBc.out)
    clear hK K
    try simp only [Act.put,tS]
    refine dnH ?_
    go_wp2_with fail
    go_meet
    case rel=>exact ⟨y2.heap.size,y1.heap.size,rfl,rfl,lb6,lb7,by omega,H6.out,H7.out,HBc.out⟩
  ·skip
   go_simp
   generalize hwN:World.alloc _ _=y1;have hst:Below x1.heap.size x1 y1:=(by rw [← hwN];exact zxa (Below.refl _ _) _);have lb6:x1.heap.size≤x1.heap.size:=HBc.out.size;have HBn:=zh (zxt HBc.out hst);clear HBc;have HBc:=HBn;clear HBn;have H6:Hid (y1.heap[x1.heap.size]?=some (.cells #[.int .i64 0] 3 (0,0))):=(by unfold Hid;rw [← hwN];exact heap_alloc_new _ _);clear hwN hst;clear ca cf ct c3;obtain ⟨ca,cf,ct,c3⟩:=HC.out y1 (zxt HB1.out HBc.out);(try clear z6 zf6);(try clear z7 zf7);have zf6:∀ i,y1.frozen? ⟨x1.heap.size,i,none⟩=false:=(fun i=>by simp [World.frozen?,H6.out]);have z6:y1.cell? ⟨x1.heap.size,0,none⟩=some (.int .i64 0):=(by rw [cell_of_row y1 _ _ _ _ _ H6.out];rfl);have sz1:x1.heap.size < y1.heap.size:=(Array.getElem?_eq_some_iff.1 H6.out).1
   refine hK.out _ _ ?_ (fun _=>?_)
   ·(try simp only [World.cell?_drew]);exact HC.out y1 (zxt HB1.out HBc.out)
   clear hK K
   try simp only [Act.put,tS]
   refine wpAnyH_ready (rs:=[6,13]) (by kernel_rfl) (by simp) ?_
   refine (AllReadyH.cons (o:=_) rfl (fun K hK=>?_) (AllReadyH.cons (o:=_) rfl (fun K hK=>?_) AllReadyH.nil))
   ·skip
    go_simp
    refine (UP.out _ (zxt HB1.out HBc.out).drew).mono ?_;(try clear z6 zf6);(try clear z7 zf7);rintro e y2 ⟨⟨sa,ss,sb,sf,sc⟩,hs,rfl,hb⟩;obtain rfl:sa=(base:Int):=(congrArg Rs.a hs.out).trans HUA.out;have hst:Below y1.heap.size y1 y2:=zxt (Below.drew (Below.refl _ _)) hb;clear hb hs;have HBn:=zh (zxt HBc.out hst);clear HBc;have HBc:=HBn;clear HBn;have Hn:=zh ((hst.block _ (Array.getElem?_eq_some_iff.1 H6.out).1).trans H6.out);clear H6;have H6:=Hn;clear Hn;clear ca cf ct c3;obtain ⟨ca,cf,ct,c3⟩:=HC.out y2 (zxt HB1.out HBc.out);(try clear z6 zf6);(try clear z7 zf7);have zf6:∀ i,y2.frozen? ⟨x1.heap.size,i,none⟩=false:=(fun i=>by simp [World.frozen?,H6.out]);have z6:y2.cell? ⟨x1.heap.size,0,none⟩=some (.int .i64 0):=(by rw [cell_of_row y2 _ _ _ _ _ H6.out];rfl);have sz2:y1.heap.size≤y2.heap.size:=hst.size;clear hst;try dsimp only
    refine hK.out _ _ ?_ (fun _=>?_)
    ·(try simp only [World.cell?_drew]);exact HC.out y2 (zxt HB1.out HBc.out)
    clear hK K
    try simp only [Act.put,tS]
    refine tkH 7 rfl ?_
    refine tkH 8 rfl ?_
    refine rdH 13 rfl fun K hK=>?_
    go_simp
    generalize hwN:World.alloc _ _=y3;have hst:Below y2.heap.size y2 y3:=(by rw [← hwN];exact zxa (Below.refl _ _) _);have lb7:x1.heap.size≤y2.heap.size:=HBc.out.size;have HBn:=zh (zxt HBc.out hst);clear HBc;have HBc:=HBn;clear HBn;have Hn:=zh ((hst.block _ (Array.getElem?_eq_some_iff.1 H6.out).1).trans H6.out);clear H6;have H6:=Hn;clear Hn;have H7:Hid (y3.heap[y2.heap.size]?=some (.cells #[.int .i64 0] 3 (0,0))):=(by unfold Hid;rw [← hwN];exact heap_alloc_new _ _);clear hwN hst;clear ca cf ct c3;obtain ⟨ca,cf,ct,c3⟩:=HC.out y3 (zxt HB1.out HBc.out);(try clear z6 zf6);(try clear z7 zf7);have zf6:∀ i,y3.frozen? ⟨x1.heap.size,i,none⟩=false:=(fun i=>by simp [World.frozen?,H6.out]);have z6:y3.cell? ⟨x1.heap.size,0,none⟩=some (.int .i64 0):=(by rw [cell_of_row y3 _ _ _ _ _ H6.out];rfl);have zf7:∀ i,y3.frozen? ⟨y2.heap.size,i,none⟩=false:=(fun i=>by simp [World.frozen?,H7.out]);have z7:y3.cell? ⟨y2.heap.size,0,none⟩=some (.int .i64 0):=(by rw [cell_of_row y3 _ _ _ _ _ H7.out];rfl);have sz3:y2.heap.size < y3.heap.size:=(Array.getElem?_eq_some_iff.1 H7.out).1
    refine hK.out _ _ ?_ (fun _=>?_)
    ·(try simp only [World.cell?_drew]);exact HC.out y3 (zxt HB1.out HBc.out)
    clear hK K
    try simp only [Act.put,tS]
    refine rdH 14 rfl fun K hK=>?_
    go_simp
    generalize hwN:World.setCell _ _ _=y4;obtain ⟨p1,p2⟩:=set1 H6.out 0 (.int .i64 (f - base:Nat));rw [hwN] at p1 p2;(try clear z6 zf6);(try clear z7 zf7);have Hn:=zh ((p2.block y2.heap.size (Array.getElem?_eq_some_iff.1 H7.out).1 (by intro e;simp only [Option.some.injEq] at e;omega)).trans H7.out);clear H7;have H7:=Hn;clear Hn;clear H6;have H6:=zh p1;have HBn:=zh (zbp HBc.out HBc.out.size p2 lb6);clear HBc;have HBc:=HBn;clear HBn;clear hwN;have sz4:=p2.size;clear p1 p2;have zf7:∀ i,y4.frozen? ⟨y2.heap.size,i,none⟩=false:=(fun i=>by simp [World.frozen?,H7.out]);have z7:y4.cell? ⟨y2.heap.size,0,none⟩=some (.int .i64 0):=(by rw [cell_of_row y4 _ _ _ _ _ H7.out];rfl)
    refine hK.out _ _ ?_ (fun _=>?_)
    ·(try simp only [World.cell?_drew]);exact HC.out y4 (zxt HB1.out HBc.out)
    clear hK K
    try simp only [Act.put,tS]
    refine rdH 15 rfl fun K hK=>?_
    go_simp
    generalize hwN:World.setCell _ _ _=y5;obtain ⟨p1,p2⟩:=set1 H7.out 0 (.int .i64 (tz - f:Nat));rw [hwN] at p1 p2;(try clear z6 zf6);(try clear z7 zf7);have Hn:=zh ((p2.block x1.heap.size (Array.getElem?_eq_some_iff.1 H6.out).1 (by intro e;simp only [Option.some.injEq] at e;omega)).trans H6.out);clear H6;have H6:=Hn;clear Hn;clear H7;have H7:=zh p1;have HBn:=zh (zbp HBc.out HBc.out.size p2 lb7);clear HBc;have HBc:=HBn;clear HBn;clear hwN;have sz5:=p2.size;clear p1 p2;skip
    refine hK.out _ _ ?_ (fun _=>?_)
    ·(try simp only [World.cell?_drew]);exact HC.out y5 (zxt HB1.out HBc.out)
    clear hK K
    try simp only [Act.put,tS]
    refine dnH ?_
    go_wp2_with fail
    go_meet
    case rel=>exact ⟨x1.heap.size,y2.heap.size,rfl,rfl,lb6,lb7,by omega,H6.out,H7.out,HBc.out⟩
   ·skip
    go_simp
    generalize hwN:World.alloc _ _=y2;have hst:Below y1.heap.size y1 y2:=(by rw [← hwN];exact zxa (Below.refl _ _) _);have lb7:x1.heap.size≤y1.heap.size:=HBc.out.size;have HBn:=zh (zxt HBc.out hst);clear HBc;have HBc:=HBn;clear HBn;have Hn:=zh ((hst.block _ (Array.getElem?_eq_some_iff.1 H6.out).1).trans H6.out);clear H6;have H6:=Hn;clear Hn;have H7:Hid (y2.heap[y1.heap.size]?=some (.cells #[.int .i64 0] 3 (0,0))):=(by unfold Hid;rw [← hwN];exact heap_alloc_new _ _);clear hwN hst;clear ca cf ct c3;obtain ⟨ca,cf,ct,c3⟩:=HC.out y2 (zxt HB1.out HBc.out);(try clear z6 zf6);(try clear z7 zf7);have zf6:∀ i,y2.frozen? ⟨x1.heap.size,i,none⟩=false:=(fun i=>by simp [World.frozen?,H6.out]);have z6:y2.cell? ⟨x1.heap.size,0,none⟩=some (.int .i64 0):=(by rw [cell_of_row y2 _ _ _ _ _ H6.out];rfl);have zf7:∀ i,y2.frozen? ⟨y1.heap.size,i,none⟩=false:=(fun i=>by simp [World.frozen?,H7.out]);have z7:y2.cell? ⟨y1.heap.size,0,none⟩=some (.int .i64 0):=(by rw [cell_of_row y2 _ _ _ _ _ H7.out];rfl);have sz2:y1.heap.size < y2.heap.size:=(Array.getElem?_eq_some_iff.1 H7.out).1
    refine hK.out _ _ ?_ (fun _=>?_)
    ·(try simp only [World.cell?_drew]);exact HC.out y2 (zxt HB1.out HBc.out)
    clear hK K
    try simp only [Act.put,tS]
    refine rdH 6 rfl fun K hK=>?_
    go_simp
    refine (UP.out _ (zxt HB1.out HBc.out).drew).mono ?_;(try clear z6 zf6);(try clear z7 zf7);rintro e y3 ⟨⟨sa,ss,sb,sf,sc⟩,hs,rfl,hb⟩;obtain rfl:sa=(base:Int):=(congrArg Rs.a hs.out).trans HUA.out;have hst:Below y2.heap.size y2 y3:=zxt (Below.drew (Below.refl _ _)) hb;clear hb hs;have HBn:=zh (zxt HBc.out hst);clear HBc;have HBc:=HBn;clear HBn;have Hn:=zh ((hst.block _ (Array.getElem?_eq_some_iff.1 H6.out).1).trans H6.out);clear H6;have H6:=Hn;clear Hn;have Hn:=zh ((hst.block _ (Array.getElem?_eq_some_iff.1 H7.out).1).trans H7.out);clear H7;have H7:=Hn;clear Hn;clear ca cf ct c3;obtain ⟨ca,cf,ct,c3⟩:=HC.out y3 (zxt HB1.out HBc.out);(try clear z6 zf6);(try clear z7 zf7);have zf6:∀ i,y3.frozen? ⟨x1.heap.size,i,none⟩=false:=(fun i=>by simp [World.frozen?,H6.out]);have z6:y3.cell? ⟨x1.heap.size,0,none⟩=some (.int .i64 0):=(by rw [cell_of_row y3 _ _ _ _ _ H6.out];rfl);have zf7:∀ i,y3.frozen? ⟨y1.heap.size,i,none⟩=false:=(fun i=>by simp [World.frozen?,H7.out]);have z7:y3.cell? ⟨y1.heap.size,0,none⟩=some (.int .i64 0):=(by rw [cell_of_row y3 _ _ _ _ _ H7.out];rfl);have sz3:y2.heap.size≤y3.heap.size:=hst.size;clear hst;try dsimp only
    refine hK.out _ _ ?_ (fun _=>?_)
    ·(try simp only [World.cell?_drew]);exact HC.out y3 (zxt HB1.out HBc.out)
    clear hK K
    try simp only [Act.put,tS]
    refine tkH 7 rfl ?_
    refine tkH 8 rfl ?_
    refine rdH 14 rfl fun K hK=>?_
    go_simp
    generalize hwN:World.setCell _ _ _=y4;obtain ⟨p1,p2⟩:=set1 H6.out 0 (.int .i64 (f - base:Nat));rw [hwN] at p1 p2;(try clear z6 zf6);(try clear z7 zf7);have Hn:=zh ((p2.block y1.heap.size (Array.getElem?_eq_some_iff.1 H7.out).1 (by intro e;simp only [Option.some.injEq] at e;omega)).trans H7.out);clear H7;have H7:=Hn;clear Hn;clear H6;have H6:=zh p1;have HBn:=zh (zbp HBc.out HBc.out.size p2 lb6);clear HBc;have HBc:=HBn;clear HBn;clear hwN;have sz4:=p2.size;clear p1 p2;have zf7:∀ i,y4.frozen? ⟨y1.heap.size,i,none⟩=false:=(fun i=>by simp [World.frozen?,H7.out]);have z7:y4.cell? ⟨y1.heap.size,0,none⟩=some (.int .i64 0):=(by rw [cell_of_row y4 _ _ _ _ _ H7.out];rfl)
    refine hK.out _ _ ?_ (fun _=>?_)
    ·(try simp only [World.cell?_drew]);exact HC.out y4 (zxt HB1.out HBc.out)
    clear hK K
    try simp only [Act.put,tS]
    refine rdH 15 rfl fun K hK=>?_
    go_simp
    generalize hwN:World.setCell _ _ _=y5;obtain ⟨p1,p2⟩:=set1 H7.out 0 (.int .i64 (tz - f:Nat));rw [hwN] at p1 p2;(try clear z6 zf6);(try clear z7 zf7);have Hn:=zh ((p2.block x1.heap.size (Array.getElem?_eq_some_iff.1 H6.out).1 (by intro e;simp only [Option.some.injEq] at e;omega)).trans H6.out);clear H6;have H6:=Hn;clear Hn;clear H7;have H7:=zh p1;have HBn:=zh (zbp HBc.out HBc.out.size p2 lb7);clear HBc;have HBc:=HBn;clear HBn;clear hwN;have sz5:=p2.size;clear p1 p2;skip
    refine hK.out _ _ ?_ (fun _=>?_)
    ·(try simp only [World.cell?_drew]);exact HC.out y5 (zxt HB1.out HBc.out)
    clear hK K
    try simp only [Act.put,tS]
    refine dnH ?_
    go_wp2_with fail
    go_meet
    case rel=>exact ⟨x1.heap.size,y1.heap.size,rfl,rfl,lb6,lb7,by omega,H6.out,H7.out,HBc.out⟩
  ·skip
   go_simp
   generalize hwN:World.alloc _ _=y1;have hst:Below x1.heap.size x1 y1:=(by rw [← hwN];exact zxa (Below.refl _ _) _);have lb7:x1.heap.size≤x1.heap.size:=HBc.out.size;have HBn:=zh (zxt HBc.out hst);clear HBc;have HBc:=HBn;clear HBn;have H7:Hid (y1.heap[x1.heap.size]?=some (.cells #[.int .i64 0] 3 (0,0))):=(by unfold Hid;rw [← hwN];exact heap_alloc_new _ _);clear hwN hst;clear ca cf ct c3;obtain ⟨ca,cf,ct,c3⟩:=HC.out y1 (zxt HB1.out HBc.out);(try clear z6 zf6);(try clear z7 zf7);have zf7:∀ i,y1.frozen? ⟨x1.heap.size,i,none⟩=false:=(fun i=>by simp [World.frozen?,H7.out]);have z7:y1.cell? ⟨x1.heap.size,0,none⟩=some (.int .i64 0):=(by rw [cell_of_row y1 _ _ _ _ _ H7.out];rfl);have sz1:x1.heap.size < y1.heap.size:=(Array.getElem?_eq_some_iff.1 H7.out).1
   refine hK.out _ _ ?_ (fun _=>?_)
   ·(try simp only [World.cell?_drew]);exact HC.out y1 (zxt HB1.out HBc.out)
   clear hK K
   try simp only [Act.put,tS]
   refine wpAnyH_ready (rs:=[6,12]) (by kernel_rfl) (by simp) ?_
   refine (AllReadyH.cons (o:=_) rfl (fun K hK=>?_) (AllReadyH.cons (o:=_) rfl (fun K hK=>?_) AllReadyH.nil))
   ·skip
    go_simp
    refine (UP.out _ (zxt HB1.out HBc.out).drew).mono ?_;(try clear z6 zf6);(try clear z7 zf7);rintro e y2 ⟨⟨sa,ss,sb,sf,sc⟩,hs,rfl,hb⟩;obtain rfl:sa=(base:Int):=(congrArg Rs.a hs.out).trans HUA.out;have hst:Below y1.heap.size y1 y2:=zxt (Below.drew (Below.refl _ _)) hb;clear hb hs;have HBn:=zh (zxt HBc.out hst);clear HBc;have HBc:=HBn;clear HBn;have Hn:=zh ((hst.block _ (Array.getElem?_eq_some_iff.1 H7.out).1).trans H7.out);clear H7;have H7:=Hn;clear Hn;clear ca cf ct c3;obtain ⟨ca,cf,ct,c3⟩:=HC.out y2 (zxt HB1.out HBc.out);(try clear z6 zf6);(try clear z7 zf7);have zf7:∀ i,y2.frozen? ⟨x1.heap.size,i,none⟩=false:=(fun i=>by simp [World.frozen?,H7.out]);have z7:y2.cell? ⟨x1.heap.size,0,none⟩=some (.int .i64 0):=(by rw [cell_of_row y2 _ _ _ _ _ H7.out];rfl);have sz2:y1.heap.size≤y2.heap.size:=hst.size;clear hst;try dsimp only
    refine hK.out _ _ ?_ (fun _=>?_)
    ·(try simp only [World.cell?_drew]);exact HC.out y2 (zxt HB1.out HBc.out)
    clear hK K
    try simp only [Act.put,tS]
    refine tkH 7 rfl ?_
    refine tkH 8 rfl ?_
    refine rdH 12 rfl fun K hK=>?_
    go_simp
    generalize hwN:World.alloc _ _=y3;have hst:Below y2.heap.size y2 y3:=(by rw [← hwN];exact zxa (Below.refl _ _) _);have lb6:x1.heap.size≤y2.heap.size:=HBc.out.size;have HBn:=zh (zxt HBc.out hst);clear HBc;have HBc:=HBn;clear HBn;have Hn:=zh ((hst.block _ (Array.getElem?_eq_some_iff.1 H7.out).1).trans H7.out);clear H7;have H7:=Hn;clear Hn;have H6:Hid (y3.heap[y2.heap.size]?=some (.cells #[.int .i64 0] 3 (0,0))):=(by unfold Hid;rw [← hwN];exact heap_alloc_new _ _);clear hwN hst;clear ca cf ct c3;obtain ⟨ca,cf,ct,c3⟩:=HC.out y3 (zxt HB1.out HBc.out);(try clear z6 zf6);(try clear z7 zf7);have zf6:∀ i,y3.frozen? ⟨y2.heap.size,i,none⟩=false:=(fun i=>by simp [World.frozen?,H6.out]);have z6:y3.cell? ⟨y2.heap.size,0,none⟩=some (.int .i64 0):=(by rw [cell_of_row y3 _ _ _ _ _ H6.out];rfl);have zf7:∀ i,y3.frozen? ⟨x1.heap.size,i,none⟩=false:=(fun i=>by simp [World.frozen?,H7.out]);have z7:y3.cell? ⟨x1.heap.size,0,none⟩=some (.int .i64 0):=(by rw [cell_of_row y3 _ _ _ _ _ H7.out];rfl);have sz3:y2.heap.size < y3.heap.size:=(Array.getElem?_eq_some_iff.1 H6.out).1
    refine hK.out _ _ ?_ (fun _=>?_)
    ·(try simp only [World.cell?_drew]);exact HC.out y3 (zxt HB1.out HBc.out)
    clear hK K
    try simp only [Act.put,tS]
    refine rdH 14 rfl fun K hK=>?_
    go_simp
    generalize hwN:World.setCell _ _ _=y4;obtain ⟨p1,p2⟩:=set1 H6.out 0 (.int .i64 (f - base:Nat));rw [hwN] at p1 p2;(try clear z6 zf6);(try clear z7 zf7);have Hn:=zh ((p2.block x1.heap.size (Array.getElem?_eq_some_iff.1 H7.out).1 (by intro e;simp only [Option.some.injEq] at e;omega)).trans H7.out);clear H7;have H7:=Hn;clear Hn;clear H6;have H6:=zh p1;have HBn:=zh (zbp HBc.out HBc.out.size p2 lb6);clear HBc;have HBc:=HBn;clear HBn;clear hwN;have sz4:=p2.size;clear p1 p2;have zf7:∀ i,y4.frozen? ⟨x1.heap.size,i,none⟩=false:=(fun i=>by simp [World.frozen?,H7.out]);have z7:y4.cell? ⟨x1.heap.size,0,none⟩=some (.int .i64 0):=(by rw [cell_of_row y4 _ _ _ _ _ H7.out];rfl)
    refine hK.out _ _ ?_ (fun _=>?_)
    ·(try simp only [World.cell?_drew]);exact HC.out y4 (zxt HB1.out HBc.out)
    clear hK K
    try simp only [Act.put,tS]
    refine rdH 15 rfl fun K hK=>?_
    go_simp
    generalize hwN:World.setCell _ _ _=y5;obtain ⟨p1,p2⟩:=set1 H7.out 0 (.int .i64 (tz - f:Nat));rw [hwN] at p1 p2;(try clear z6 zf6);(try clear z7 zf7);have Hn:=zh ((p2.block y2.heap.size (Array.getElem?_eq_some_iff.1 H6.out).1 (by intro e;simp only [Option.some.injEq] at e;omega)).trans H6.out);clear H6;have H6:=Hn;clear Hn;clear H7;have H7:=zh p1;have HBn:=zh (zbp HBc.out HBc.out.size p2 lb7);clear HBc;have HBc:=HBn;clear HBn;clear hwN;have sz5:=p2.size;clear p1 p2;skip
    refine hK.out _ _ ?_ (fun _=>?_)
    ·(try simp only [World.cell?_drew]);exact HC.out y5 (zxt HB1.out HBc.out)
    clear hK K
    try simp only [Act.put,tS]
    refine dnH ?_
    go_wp2_with fail
    go_meet
    case rel=>exact ⟨y2.heap.size,x1.heap.size,rfl,rfl,lb6,lb7,by omega,H6.out,H7.out,HBc.out⟩
   ·skip
    go_simp
    generalize hwN:World.alloc _ _=y2;have hst:Below y1.heap.size y1 y2:=(by rw [← hwN];exact zxa (Below.refl _ _) _);have lb6:x1.heap.size≤y1.heap.size:=HBc.out.size;have HBn:=zh (zxt HBc.out hst);clear HBc;have HBc:=HBn;clear HBn;have Hn:=zh ((hst.block _ (Array.getElem?_eq_some_iff.1 H7.out).1).trans H7.out);clear H7;have H7:=Hn;clear Hn;have H6:Hid (y2.heap[y1.heap.size]?=some (.cells #[.int .i64 0] 3 (0,0))):=(by unfold Hid;rw [← hwN];exact heap_alloc_new _ _);clear hwN hst;clear ca cf ct c3;obtain ⟨ca,cf,ct,c3⟩:=HC.out y2 (zxt HB1.out HBc.out);(try clear z6 zf6);(try clear z7 zf7);have zf6:∀ i,y2.frozen? ⟨y1.heap.size,i,none⟩=false:=(fun i=>by simp [World.frozen?,H6.out]);have z6:y2.cell? ⟨y1.heap.size,0,none⟩=some (.int .i64 0):=(by rw [cell_of_row y2 _ _ _ _ _ H6.out];rfl);have zf7:∀ i,y2.frozen? ⟨x1.heap.size,i,none⟩=false:=(fun i=>by simp [World.frozen?,H7.out]);have z7:y2.cell? ⟨x1.heap.size,0,none⟩=some (.int .i64 0):=(by rw [cell_of_row y2 _ _ _ _ _ H7.out];rfl);have sz2:y1.heap.size < y2.heap.size:=(Array.getElem?_eq_some_iff.1 H6.out).1
    refine hK.out _ _ ?_ (fun _=>?_)
    ·(try simp only [World.cell?_drew]);exact HC.out y2 (zxt HB1.out HBc.out)
    clear hK K
    try simp only [Act.put,tS]
    refine rdH 6 rfl fun K hK=>?_
    go_simp
    refine (UP.out _ (zxt HB1.out HBc.out).drew).mono ?_;(try clear z6 zf6);(try clear z7 zf7);rintro e y3 ⟨⟨sa,ss,sb,sf,sc⟩,hs,rfl,hb⟩;obtain rfl:sa=(base:Int):=(congrArg Rs.a hs.out).trans HUA.out;have hst:Below y2.heap.size y2 y3:=zxt (Below.drew (Below.refl _ _)) hb;clear hb hs;have HBn:=zh (zxt HBc.out hst);clear HBc;have HBc:=HBn;clear HBn;have Hn:=zh ((hst.block _ (Array.getElem?_eq_some_iff.1 H6.out).1).trans H6.out);clear H6;have H6:=Hn;clear Hn;have Hn:=zh ((hst.block _ (Array.getElem?_eq_some_iff.1 H7.out).1).trans H7.out);clear H7;have H7:=Hn;clear Hn;clear ca cf ct c3;obtain ⟨ca,cf,ct,c3⟩:=HC.out y3 (zxt HB1.out HBc.out);(try clear z6 zf6);(try clear z7 zf7);have zf6:∀ i,y3.frozen? ⟨y1.heap.size,i,none⟩=false:=(fun i=>by simp [World.frozen?,H6.out]);have z6:y3.cell? ⟨y1.heap.size,0,none⟩=some (.int .i64 0):=(by rw [cell_of_row y3 _ _ _ _ _ H6.out];rfl);have zf7:∀ i,y3.frozen? ⟨x1.heap.size,i,none⟩=false:=(fun i=>by simp [World.frozen?,H7.out]);have z7:y3.cell? ⟨x1.heap.size,0,none⟩=some (.int .i64 0):=(by rw [cell_of_row y3 _ _ _ _ _ H7.out];rfl);have sz3:y2.heap.size≤y3.heap.size:=hst.size;clear hst;try dsimp only
    refine hK.out _ _ ?_ (fun _=>?_)
    ·(try simp only [World.cell?_drew]);exact HC.out y3 (zxt HB1.out HBc.out)
    clear hK K
    try simp only [Act.put,tS]
    refine tkH 7 rfl ?_
    refine tkH 8 rfl ?_
    refine rdH 14 rfl fun K hK=>?_
    go_simp
    generalize hwN:World.setCell _ _ _=y4;obtain ⟨p1,p2⟩:=set1 H6.out 0 (.int .i64 (f - base:Nat));rw [hwN] at p1 p2;(try clear z6 zf6);(try clear z7 zf7);have Hn:=zh ((p2.block x1.heap.size (Array.getElem?_eq_some_iff.1 H7.out).1 (by intro e;simp only [Option.some.injEq] at e;omega)).trans H7.out);clear H7;have H7:=Hn;clear Hn;clear H6;have H6:=zh p1;have HBn:=zh (zbp HBc.out HBc.out.size p2 lb6);clear HBc;have HBc:=HBn;clear HBn;clear hwN;have sz4:=p2.size;clear p1 p2;have zf7:∀ i,y4.frozen? ⟨x1.heap.size,i,none⟩=false:=(fun i=>by simp [World.frozen?,H7.out]);have z7:y4.cell? ⟨x1.heap.size,0,none⟩=some (.int .i64 0):=(by rw [cell_of_row y4 _ _ _ _ _ H7.out];rfl)
    refine hK.out _ _ ?_ (fun _=>?_)
    ·(try simp only [World.cell?_drew]);exact HC.out y4 (zxt HB1.out HBc.out)
    clear hK K
    try simp only [Act.put,tS]
    refine rdH 15 rfl fun K hK=>?_
    go_simp
    generalize hwN:World.setCell _ _ _=y5;obtain ⟨p1,p2⟩:=set1 H7.out 0 (.int .i64 (tz - f:Nat));rw [hwN] at p1 p2;(try clear z6 zf6);(try clear z7 zf7);have Hn:=zh ((p2.block y1.heap.size (Array.getElem?_eq_some_iff.1 H6.out).1 (by intro e;simp only [Option.some.injEq] at e;omega)).trans H6.out);clear H6;have H6:=Hn;clear Hn;clear H7;have H7:=zh p1;have HBn:=zh (zbp HBc.out HBc.out.size p2 lb7);clear HBc;have HBc:=HBn;clear HBn;clear hwN;have sz5:=p2.size;clear p1 p2;skip
    refine hK.out _ _ ?_ (fun _=>?_)
    ·(try simp only [World.cell?_drew]);exact HC.out y5 (zxt HB1.out HBc.out)
    clear hK K
    try simp only [Act.put,tS]
    refine dnH ?_
    go_wp2_with fail
    go_meet
    case rel=>exact ⟨y1.heap.size,x1.heap.size,rfl,rfl,lb6,lb7,by omega,H6.out,H7.out,HBc.out⟩
 obtain ⟨b6,b7,rfl,rfl,H67⟩:=hcut
 obtain ⟨x2,rfl⟩:∃ x2,x2=wc:=⟨_,rfl⟩
 have HB2:=zh (zxt HB1.out H67.out.2.2.2.2.2)
 obtain ⟨ca,cf,ct,c3⟩:=HC.out x2 HB2.out
 have HK42:=zh ((H67.out.2.2.2.2.2.block _ (Array.getElem?_eq_some_iff.1 HK41.out).1).trans HK41.out)
 have IT:=zh (Items_any u i i x2 (by omega))
 clear FD UP HUA HK41 HK4 hwf hwi hwb hwl
 go_upto_block 0 with (go_at_call 38;refine IT.out.mono ?_;rintro e v4 ⟨rfl,hv4⟩;have HV4:=zh hv4;clear hv4;(try dsimp only))
 clear ca cf ct c3 IT
 have hv4s:v4.heap.size=x2.heap.size + 2:=by rw [HV4.out];simp
 have HB4:Hid (Below x2.heap.size x2 v4):=by unfold Hid;rw [HV4.out];exact zxa (zxa (Below.refl _ _) _) _
 have hA4:v4.heap[x2.heap.size]?=some (.cells #[.pointer u] 90 (0,0)):=by
  rw [HV4.out]
  exact (Below.heap_alloc _ _ _ (by simp)).trans (heap_alloc_new _ _)
 have hB4:v4.heap[x2.heap.size + 1]?=some (.cells #[.int .i64 (i:Nat)] 3 (0,0)):=by
  rw [HV4.out]
  have e:x2.heap.size + 1=(x2.alloc (.cells #[.pointer u] 90)).heap.size:=by simp
  rw [e]
  exact heap_alloc_new _ _
 have HB4W:=zh (zxt HB2.out HB4.out)
 have HB4T:=zh (zxt HBW.out HB4W.out)
 obtain ⟨u',tr,hu,htin,hlst,_⟩:=(show TT wT (.agg #[.pointer u]) (xsOf ps) from by
  obtain ⟨lv',u'',⟨_,_,_,c3'⟩,_,ht',ht2⟩:=HT.out.cells
  have e:=(HC.out W (Below.refl _ _)).2.2.2
  rw [HBW.out.cell (p:=⟨t,3,none⟩) ht2,c3'] at e
  cases e
  exact ht')
 simp only [Value.agg.injEq,Array.mk.injEq,List.cons.injEq,Value.pointer.injEq,and_true] at hu
 subst hu
 have HTI:=zh htin
 have HLS:=zh hlst
 clear htin hlst
 have z1:=HB1.out.size
 have z2:=H67.out.2.2.2.2.2.size
 have zb:=HBW.out.size
 have zs:=HSEP.out
 have zs1:=HS1.out
 have zs0:=(Array.getElem?_eq_some_iff.1 HK42.out).1
 have l67:x1.heap.size≤b6∧x1.heap.size≤b7∧b6≠b7:=⟨H67.out.1,H67.out.2.1,H67.out.2.2.1⟩
 have m6:=(Array.getElem?_eq_some_iff.1 H67.out.2.2.2.1).1
 have m7:=(Array.getElem?_eq_some_iff.1 H67.out.2.2.2.2.1).1
 have z0:W.heap.size < x1.heap.size:=Nat.lt_of_lt_of_le HZ0.out zs1
 obtain ⟨hold,hhold⟩:∃ hold:Nat→Prop,hold=fun k=>k < wT.heap.size∨k=ba∨k=bf∨k=bt∨k=W.heap.size:=⟨_,rfl⟩
 have HHO:Hid (∀ k,hold k ↔ (k < wT.heap.size∨k=ba∨k=bf∨k=bt∨k=W.heap.size)):=fun k=>by rw [hhold]
 have hhl:∀ k,hold k→k < x1.heap.size:=fun k hk=>by have:=(HHO.out k).1 hk;omega
 clear hhold
 have SQ:=zh (items_stops 8 tr u i v4 x2.heap.size (x2.heap.size + 1) wT.heap.size HB4T.out.size (by omega) (by omega) wT rfl HB4T.out HTI.out (by rw [HLS.out,xsOf_len];omega) (by omega) hA4 hB4)
 -- the end,whichever it is
 have FIN:Hid (∀ (s':σ) (W' W2:World),Kps (btO G b6 b7 s) v4 W'→Newer (btO G b6 b7) s s' v4→¬ btO G b6 b7 s' v4.heap.size→(W2.os=W'.os∧W2.tape=W'.tape∧W2.output=W'.output∧W2.heap.size=W'.heap.size∧∀ k,k≠v4.heap.size→W2.heap[k]?=W'.heap[k]?)→(G.J s' (btw enc ps f tz) W'∨∃ q,q <+: btw enc ps f tz∧G.Jx s' q W') →
   ∃ s',Kps (G.own s) W W2∧Newer G.own s s' W∧((∃ xs,xs=btw enc ps f tz∧G.J s' xs W2)∨(∃ pre,pre <+: btw enc ps f tz∧G.Jx s' pre W2))):=fun s' W' W2 hk hnw hno h2 hJ=>by
  obtain ⟨e1,e2,e3,e4,e5⟩:=h2
  have zk:=hk.size
  have zw:=HB4W.out.size
  have hst:∀ k,G.own s' k∨G.lean k→W2.heap[k]?=W'.heap[k]?:=fun k ho=>e5 k (fun e=>by
   subst e
   rcases ho with ho | ho
   ·exact hno (.inl ho)
   ·have:=HLN.out _ ho;omega)
  refine ⟨s',⟨e1.trans (hk.os.trans HB4W.out.os),e2.trans (hk.tape.trans HB4W.out.tape),e3.trans (hk.output.trans HB4W.out.output),by omega,fun k h1 h2=>?_⟩,fun k ho=>?_,?_⟩
  ·refine (e5 k (by omega)).trans ((hk.same k (by omega) ?_).trans (HB4W.out.block k h1))
   rintro (h | h | h)
   ·exact h2 h
   ·omega
   ·omega
  ·rcases hnw k (.inl ho) with (h | h | h) | h
   ·exact .inl h
   ·exact .inr (by omega)
   ·exact .inr (by omega)
   ·exact .inr (by omega)
  ·rcases hJ with hJ | ⟨q,hq,hJ⟩
   ·exact .inl ⟨_,rfl,G.stay s' _ W' W2 hJ (by omega) hst⟩
   ·exact .inr ⟨q,hq,G.stayx s' _ W' W2 hJ (by omega) hst⟩
 refine (wpIn_wide (n:=9)).1 ?_
 gi_wp2_with fail
 refine range_y (σ:=σ) rfl (by omega) (gf:=66) (lb:=#[.pointer (some ⟨x2.heap.size,0,none⟩),.pointer (some ⟨x2.heap.size + 1,0,none⟩)]) rfl trivial (enters_of Tryz.func66 (by kernel_rfl) rfl) SQ.out (Kps.refl _ _) (fun _=>rfl)
  (btO G b6 b7) (fun s1 pre V1=>BtI G enc ps f tz i base b6 b7 hold v4 s1 pre V1) (fun c s1 _ V1=>BtX G enc ps f tz c s1 V1) s ?rel (fun k=>G.lean k∨hold k) ?hln (fun _ _ _ _ h hz hk=>h.same hz hk) (fun _ _ _ _ _ h hz hk=>BtX.same h hz hk) (fun _ _ _ h=>h.lives) ?h0
  (fun s1 x a' V1=>∃ g5,v4.heap.size + 2≤g5∧BlkI V1 g5 x∧(∀ k,btO G b6 b7 s1 k→k≠g5)∧a'={ tmps:=#[.func (.yield l) #[] #[],.pointer (some ⟨ba,0,none⟩),.pointer (some ⟨bf,0,none⟩),.pointer (some ⟨bt,0,none⟩),.pointer (some ⟨W.heap.size,0,none⟩),.int .i64 i,.pointer (some ⟨b6,0,none⟩),.pointer (some ⟨b7,0,none⟩),.pointer (some ⟨g5,0,none⟩),undef,undef,undef,.pointer (some ⟨t,0,none⟩),.pointer (some ⟨t,0,none⟩),.pointer (some ⟨t,3,none⟩),.agg #[.pointer u],.int .i64 f,.int .i64 ((f:Int) + 1),.int .i64 ((i + 1:Nat):Int),.int .i64 i,u20,u21,u22,u23,u24,u25,u26,u27,u28,u29,u30,u31,.pointer (some ⟨t,0,none⟩),.pointer (some ⟨t,0,none⟩),.pointer (some ⟨t,3,none⟩),.agg #[.pointer u],.int .i64 i,.func (.func 66) #[] #[.pointer (some ⟨x2.heap.size,0,none⟩),.pointer (some ⟨x2.heap.size + 1,0,none⟩)],.agg #[.slice x.p x.n x.c,.int .i64 x.pl,.int .i64 x.sp.a,.int .i64 x.sp.s,.int .i64 x.sp.b,.bool x.sp.lf,.bool x.sp.cr],undef,undef,undef,undef,undef,undef,undef,undef,undef,undef,undef,undef,undef,undef,undef,undef,undef,undef,undef,undef,undef,undef,undef,undef,undef,undef,undef,undef,undef,undef,undef,undef,undef,undef,undef,undef,undef],defers:=[] }) ?hAx ?assign ?body ?done ?stop
 case rel =>
  intro k hk
  have hnew:∀ k,btO G b6 b7 s k→(G.own s k∧k < W.heap.size)∨x1.heap.size≤k:=fun k h=>by
   rcases h with h | h | h
   ·exact .inl ⟨h,HOW.out k h⟩
   ·exact .inr (by omega)
   ·exact .inr (by omega)
  rcases hk with hk | hk | hk
  ·refine ⟨by omega,fun h=>?_⟩
   rcases hnew k h with ⟨h1,_⟩ | h1
   ·exact (HRL.out k (.inl hk)).2 h1
   ·omega
  ·refine ⟨by omega,fun h=>?_⟩
   rcases h with h | h | h
   ·have:=HOW.out k h;omega
   ·omega
   ·omega
  ·refine ⟨by omega,fun h=>?_⟩
   rcases h with h | h | h
   ·have:=HOW.out k h;omega
   ·omega
   ·omega
 case hln =>
  intro k hk
  rcases hk with hk | hk
  ·have:=HLN.out k hk;omega
  ·have:=hhl k hk;omega
 case h0 =>
  refine ⟨by simp [xsOf],by simp;exact hil,?_,?_,?_,?_,?_,fun _ _=>rfl⟩
  ·simp only [List.length_nil,Nat.add_zero];rw [← HBS.out];omega
  ·have e:told enc ps f (i + ([]:List It).length) 0=[]:=by
    unfold told
    simp only [List.length_nil,Nat.add_zero]
    rw [← HBS.out,List.drop_eq_nil_of_le (by rw [List.length_take];omega)]
   rw [e]
   exact G.stay s [] W v4 HJ.out HB4W.out.size (fun k ho=>HB4W.out.block k (ho.elim (HOW.out k) (HLN.out k)))
  ·intro k hk
   have:=HOW.out k hk
   refine ⟨by omega,by omega,fun hh=>?_⟩
   rcases (HHO.out k).1 hh with h | h | h | h | h
   ·exact (HRL.out k (.inl h)).2 hk
   ·exact (HRL.out k (.inr (.inl h))).2 hk
   ·exact (HRL.out k (.inr (.inr (.inl h)))).2 hk
   ·exact (HRL.out k (.inr (.inr (.inr h)))).2 hk
   ·omega
  ·exact (HB4.out.block _ m6).trans H67.out.2.2.2.1
  ·simp only [List.length_nil,Nat.add_zero]
   rw [← HBS.out,Nat.max_eq_left hbf]
   exact (HB4.out.block _ m7).trans H67.out.2.2.2.2.1
 case hAx =>
  rintro s1 x a' V1 V2 ⟨g5,h1,h2,h3,h4⟩ hz hk
  exact ⟨g5,h1,h2.same9 (hk g5 h1 h2.lt),h3,h4⟩
 case assign =>
  intro l' s1 pre x V1 K hI hz hK
  gi_wp2_with fail
  exact hK _ _ (zxa (Below.refl _ _) _) ⟨V1.heap.size,hz,heap_alloc_new _ _,fun k hk=>by have:=hI.lives k hk;omega,rfl⟩
 case body =>
  rintro l' s1 pre x a' V1 hI ⟨g5,hg5,hx5,hog,rfl⟩ hSp hzW
  refine wpIn_block ?_
  obtain ⟨z,hz⟩:=hSp
  rw [HLS.out] at hz
  obtain ⟨k0,hk0⟩:∃ k0,k0=i + pre.length:=⟨_,rfl⟩
  have hxj:∃ gx,ps[k0]?=some (x,gx):=by
   have e:=congrArg (fun q=>q[pre.length]?) hz
   rw [List.append_assoc,List.getElem?_append_right (Nat.le_refl _),Nat.sub_self] at e
   simp only [List.cons_append,List.getElem?_cons_zero,xsOf,List.getElem?_drop,List.getElem?_map] at e
   rw [← hk0] at e
   cases hp:ps[k0]? with
   | none=>rw [hp] at e;cases e
   | some q=>rw [hp] at e;simp only [Option.map_some,Option.some.injEq] at e;exact ⟨q.2,by rw [e]⟩
  obtain ⟨gx,hgx⟩:=hxj
  obtain ⟨pos,hpos⟩:∃ pos,pos=(sh enc (ps.take k0)).length:=⟨_,rfl⟩
  obtain ⟨ins,hins⟩:∃ ins:Nat,ins=if pre.length=0 then f - base else 0:=⟨_,rfl⟩
  have hpk:pos + gx.length≤(sh enc ps).length:=by
   have e:=(sh_part enc ps (k0 + 1)).length_le
   rw [sh_succ hgx,List.length_append,ctn_len,← hpos] at e
   exact e
  have hgx2:gx.length≤ln enc gx:=ln_ge enc gx
  have hinsl:ins≤gx.length∧max f pos=pos + ins:=by
   rw [hins]
   by_cases hp0:pre.length=0
   ·rw [if_pos hp0]
    have e0:k0=i:=by omega
    rw [e0] at hpos hgx
    have:=HIG.out x gx hgx
    rw [← HBS.out] at this hpos
    omega
   ·rw [if_neg hp0]
    refine ⟨Nat.zero_le _,?_⟩
    obtain ⟨kk,hkk⟩:∃ kk,k0=i + kk + 1:=⟨k0 - i - 1,by omega⟩
    have hlt:i < ps.length:=by have:=(List.getElem?_eq_some_iff.1 hgx).1;omega
    have hq:=HIG.out ps[i].1 ps[i].2 (List.getElem?_eq_getElem hlt)
    have e1:(sh enc (ps.take (i + 1))).length≤pos:=by
     rw [hpos]
     have:ps.take (i + 1) <+: ps.take k0:=List.take_prefix_take_left (by omega)
     obtain ⟨r,hr⟩:=this
     rw [← hr,sh_app,List.length_append]
     omega
    rw [sh_succ (x:=ps[i].1) (g:=ps[i].2) (List.getElem?_eq_getElem hlt),List.length_append,ctn_len,← HBS.out] at e1
    rw [← HBS.out] at hq
    omega
  have HPT:Hid (told enc ps f k0 0=told enc ps f k0 ins):=by
   unfold Hid
   by_cases hi0:ins=0
   ·rw [hi0]
   ·have hm:max f pos=f:=by have:=hinsl.2;omega
    have hm2:=hinsl.2
    unfold told
    rw [← hpos,List.drop_eq_nil_of_le (by rw [List.length_take];omega),List.drop_eq_nil_of_le (by rw [List.length_take];omega)]
  have hlT:∀ k,G.lean k→k < V1.heap.size:=fun k hk=>by have:=HLN.out k hk;omega
  have hhV:∀ k,hold k→k < V1.heap.size:=fun k hk=>by have:=hhl k hk;omega
  have HLT:=zh hlT
  have HHV:=zh hhV
  have HBS2:Hid (BtS G b6 b7 g5 hold):=⟨l67.2.2,by omega,by omega,fun h=>by have:=hhl _ h;omega,fun h=>by have:=hhl _ h;omega,fun k hk=>by have:=HLN.out k hk;omega⟩
  have HL0:Hid (BtL G b6 b7 g5 hold v4 x s1 V1 (told enc ps f k0 ins) ins (tz - (pos + ins)) s1 V1):=by
   refine ⟨?_,hI.ap,fun k hk=>hog k (.inl hk),?_,?_,hI.hd,hx5,Kps.refl _ _,fun k hk=>.inl hk⟩
   ·rw [← HPT.out,hk0];exact hI.j
   ·rw [hins];exact hI.ins
   ·rw [← hinsl.2,hpos,hk0];exact hI.lft
  have HPC:Hid (∀ Wx:World,(∀ k,hold k→Wx.heap[k]?=v4.heap[k]?)→Pc enc L Wx x gx):=fun Wx h=>(HT.out.pc (x,gx) (List.mem_of_getElem? hgx)).same (fun b hb=>(h b ((HHO.out b).2 (.inl hb.lt))).trans (HB4T.out.block b hb.lt))
  have HCH:Hid (∀ Wx:World,(∀ k,hold k→Wx.heap[k]?=v4.heap[k]?)→Wx.cell? ⟨ba,0,none⟩=some (.pointer (some ⟨t,0,none⟩))∧Wx.cell? ⟨t,0,none⟩=some (.int .i64 enc)∧Wx.cell? ⟨W.heap.size,0,none⟩=some (.func (.yield l) #[] #[])):=fun Wx h=>by
   refine ⟨?_,?_,?_⟩
   ·rw [cell_of_row Wx _ _ _ _ _ ((h ba ((HHO.out ba).2 (.inr (.inl rfl)))).trans ((HB4W.out.block ba zs.1).trans HHE.out.1))];rfl
   ·obtain ⟨_,_,⟨e0,_⟩,_⟩:=HT.out.cells
    rw [cell_same (h t ((HHO.out t).2 (.inl htlT)))]
    exact (HB4T.out.cell (p:=⟨t,0,none⟩) htlT).trans e0
   ·rw [cell_of_row Wx _ _ _ _ _ ((h _ ((HHO.out _).2 (.inr (.inr (.inr (.inr rfl)))))).trans ((HB4.out.block _ zs0).trans HK42.out))];rfl
  have hgr:=(HPC.out V1 hI.hd).gr
  have HGR:=zh hgr
  have hgl:ln enc gx≤65536:=by
   have h1:=HT.out.sz
   have e:asOf ps=asOf (ps.take k0) ++ (gx ++ asOf (ps.drop (k0 + 1))):=by
    conv=>lhs;rw [← List.take_append_drop k0 ps,drop_of hgx]
    rw [asOf_app];simp [asOf]
   rw [e,ln_app,ln_app] at h1
   omega
  have hpt:pos≤tz:=by rw [hpos,hk0];exact hI.le
  have SK:Hid (∀ Wx,Below V1.heap.size V1 Wx→Calls Tryz.prog 106 #[.agg #[.slice x.p x.n x.c,.int .i64 x.pl,.int .i64 x.sp.a,.int .i64 x.sp.s,.int .i64 x.sp.b,.bool x.sp.lf,.bool x.sp.cr],.int .i64 enc,.int .i64 ins] Wx fun e w'=>e=.returned (.int .i64 (ln enc (gx.take ins):Nat))∧Below Wx.heap.size Wx w'):=fun Wx hb=>by
   have hp:=(HPC.out V1 hI.hd).ext hb
   have h:=skip_any enc HT.out.en x (Cx.encB enc gx) ins Wx (hp.rd (by omega)) hgr.byt (by show ln enc gx≤_;omega) (by rw [hp.sp,(spn_a enc gx hgr.fit).1,hgr.dec]) (by rw [hgr.dec];exact hinsl.1)
   rwa [off_gr hgr] at h
  obtain ⟨q1,q2,q3⟩:=HCH.out V1 hI.hd
  have cx:=hx5.cells.1
  have c6:V1.cell? ⟨b6,0,none⟩=some (.int .i64 ins):=by rw [cell_of_row V1 _ _ _ _ _ HL0.out.inb];rfl
  have HI:=zh hI
  have HGX:=zh hgx
  have HPOS:=zh hpos
  have HK0:=zh hk0
  have HIN:=zh hinsl
  clear hI hgx hpos hk0 hins hz hlT hhV hgr hog
  refine wpIn_seq ?_
  refine wpIn_seq ?_
  refine wpIn_heldC (S:=fun w''=>(w''.cell? ⟨g5,0,none⟩=some (.slice x.p x.n x.c)∧w''.cell? ⟨g5,1,none⟩=some (.int .i64 x.pl)∧w''.cell? ⟨g5,2,none⟩=some (.int .i64 x.sp.a)∧w''.cell? ⟨g5,3,none⟩=some (.int .i64 x.sp.s)∧w''.cell? ⟨g5,4,none⟩=some (.int .i64 x.sp.b)∧w''.cell? ⟨g5,5,none⟩=some (.bool x.sp.lf)∧w''.cell? ⟨g5,6,none⟩=some (.bool x.sp.cr))∧w''.cell? ⟨ba,0,none⟩=some (.pointer (some ⟨t,0,none⟩))∧w''.cell? ⟨t,0,none⟩=some (.int .i64 enc)∧w''.cell? ⟨b6,0,none⟩=some (.int .i64 ins)) ?nd (fun ⟨a,w,h⟩=>h) (by kernel_rfl) (by simp only [World.cell?_drew];exact ⟨cx,q1,q2,c6⟩) (fun _=>?_)
  case nd =>
   intro i o h
   rcases i with _ | _ | _ | _ | _ | _ | _ | _ | i
   all_goals first | (obtain rfl:=Option.some.inj h;intro c hc;cases hc) | (simp at h)
  refine tkH 0 rfl ?_
  refine tkH 1 rfl ?_
  refine tkH 2 rfl ?_
  refine tkH 3 rfl ?_
  refine tkH 4 rfl ?_
  refine tkH 5 rfl ?_
  refine rdH 6 rfl fun K hK=>?_
  go_simp
  refine (SK.out _ (Below.drew (Below.refl _ _))).mono ?_;clear q1 q2 q3 cx c6;rintro e V2 ⟨rfl,hb⟩;have HL2:=zh (HL0.out.call (zxt (Below.drew (Below.refl V1.heap.size V1)) hb) HLT.out HHV.out);clear hb;obtain ⟨q1,q2,q3⟩:=HCH.out V2 HL2.out.hd;have cx:=HL2.out.bx.cells.1;have c6:V2.cell? ⟨b6,0,none⟩=some (.int .i64 ins):=(by rw [cell_of_row V2 _ _ _ _ _ HL2.out.inb];rfl);try dsimp only
  refine hK.out _ _ ?_ (fun _=>?_)
  ·(try simp only [World.cell?_drew]);exact ⟨cx,q1,q2,c6⟩
  clear hK K
  try simp only [Act.put,tS]
  refine tkH 7 rfl ?_
  refine dnH ?_
  change Code.wpIn _ _ _ _ _ _ _
  clear q1 q2 q3 cx c6
  obtain ⟨N,hN⟩:∃ N,N=ln enc gx:=⟨_,rfl⟩
  have HN:=zh hN
  have hNl:N≤65536:=by rw [hN];exact hgl
  clear hN
  refine wpIn_block ?_
  gi_loopw [9] (fun v wr=>∃ (m:Nat) (s2:σ),v=.int .i64 (ln enc (gx.take m):Nat)∧m≤gx.length∧pos + m≤tz∧f≤pos + m∧Hid (BtL G b6 b7 g5 hold v4 x s1 V1 (told enc ps f k0 m) ins (tz - (pos + m)) s2 wr)) (fun v _=>btMu N v)
  case atStart=>exact ⟨ins,s1,rfl,HIN.out.1,by have:=HIN.out.2;omega,by have:=HIN.out.2;omega,HL2.out⟩
  case round =>
   obtain ⟨m,s2,rfl,hm,hmt,hfm,HL⟩:=hrel
   have cx:=HL.out.bx.cells.1
   have xnc:x.n=N∧x.c=N:=by have h:=HPC.out wr HL.out.hd;exact ⟨h.xn.trans HN.out.symm,h.xc.trans HN.out.symm⟩
   rw [xnc.1,xnc.2] at cx
   obtain ⟨q1,q2,q3⟩:=HCH.out wr HL.out.hd
   have c6:wr.cell? ⟨b6,0,none⟩=some (.int .i64 ins):=by rw [cell_of_row wr _ _ _ _ _ HL.out.inb];rfl
   have c7:wr.cell? ⟨b7,0,none⟩=some (.int .i64 (tz - (pos + m):Nat)):=by rw [cell_of_row wr _ _ _ _ _ HL.out.lft];rfl
   have f6:∀ i,wr.frozen? ⟨b6,i,none⟩=false:=fun i=>by simp [World.frozen?,HL.out.inb]
   obtain ⟨off,hoff⟩:∃ o,o=ln enc (gx.take m):=⟨_,rfl⟩
   rw [← hoff]
   by_cases hmg:m < gx.length
   ·obtain ⟨a,ha⟩:∃ a,gx[m]?=some a:=⟨_,List.getElem?_eq_getElem hmg⟩
    have hst:off < N:=by
     have e:=ln_take_drop enc gx m
     rw [drop_of ha,ln_cons,← hoff,← HN.out] at e
     have:=(Cx.put_len enc a).1
     omega
    have hlt:(off:Int) < (N:Int):=by omega
    by_cases hl0:tz=pos + m
    ·have e0:tz - (pos + m)=0:=by omega
     rw [e0] at c7
     gi_wp2_with fail
     exact ⟨s2,⟨rfl,.inl (by rw [← told_all (k:=k0) (m:=m) (by rw [← HPOS.out];omega)];exact HL.out.j)⟩,HL.out.kp,HL.out.nw⟩
    ·obtain ⟨lf,hlf⟩:∃ lf,tz - (pos + m)=lf + 1:=⟨tz - (pos + m) - 1,by omega⟩
     have HLF:=zh hlf
     rw [hlf] at c7 HL
     have hl1:(((lf + 1:Nat):Int) == 0)=false:=by simp;omega
     have hl2:¬ ((lf:Int) + 1=0):=by omega
     clear hlf hl0 c6 f6
     obtain ⟨sz,hsz⟩:∃ sz,sz=ln enc [a]:=⟨_,rfl⟩
     have hnx:ln enc (gx.take (m + 1))=off + sz:=by rw [List.take_add_one,ha,Option.toList_some,ln_app,← hoff,hsz]
     have hsz1:1≤sz:=by rw [hsz,ln_one];exact (Cx.put_len enc a).1
     have NX:Hid (∀ Wx,Below wr.heap.size wr Wx→Calls Tryz.prog 33 #[.int .i64 enc,.slice x.p N N,.int .i64 off] Wx fun e w'=>e=.returned (.tuple #[.int .i64 a,.int .i64 sz])∧Below Wx.heap.size Wx w'):=fun Wx hb=>by
      have hp:=(HPC.out wr HL.out.hd).ext hb
      have hrd:=hp.rd (by omega)
      rw [xnc.1,xnc.2] at hrd
      have hzl:(Cx.encB enc gx).length=N:=HN.out.symm
      have h:=Next_any enc HT.out.en (.slice x.p N N) (Cx.encB enc gx) off Wx hrd hp.gr.byt (by rw [hzl];exact hst)
      obtain ⟨_,a',s',e1,e2,e3,_⟩:=off_step enc HT.out.en (Cx.encB enc gx) hp.gr.byt m (by rw [hp.gr.dec];exact hmg)
      rw [off_gr hp.gr,← hoff] at e1
      rw [off_gr hp.gr,off_gr hp.gr,hnx,← hoff] at e3
      rw [hp.gr.dec,ha] at e2
      cases e2
      rw [e1] at h
      obtain rfl:s'=sz:=by omega
      exact h
     have HNXT:=zh hnx
     have HA:=zh ha
     have HOFF:=zh hoff
     have cx0:=HL.out.bx.cells.1
     have hwo:IntKind.i64.wrap ((off:Int) + (sz:Int))=((off + sz:Nat):Int):=by
      have e:=ln_take_drop enc gx (m + 1)
      rw [hnx,← HN.out] at e
      rw [IntKind.wrap_i64]
      omega
     have hlow:=(HPC.out wr HL.out.hd).low
     have hend:=(HPC.out wr HL.out.hd).end HT.out.en HT.out.by'
     have hLl:=HT.out.ll
     have TG:Hid (∀ Wx,Calls Tryz.prog 107 #[.agg #[.slice x.p N N,.int .i64 x.pl,.int .i64 x.sp.a,.int .i64 x.sp.s,.int .i64 x.sp.b,.bool x.sp.lf,.bool x.sp.cr],.int .i64 off] Wx fun e w'=>e=.returned (.int .i64 (tg x.pl off))∧Below Wx.heap.size Wx w'):=fun Wx=>by
      have h:=tag_any x off Wx hlow (by omega) (by rw [← HN.out] at hend;omega)
      rwa [xnc.1,xnc.2] at h
     obtain ⟨tgv,htgv⟩:∃ v,v=tg x.pl (off:Nat):=⟨_,rfl⟩
     rw [← htgv] at TG
     have hts:=told_snoc (enc:=enc) (f:=f) HGX.out hlow ha (by rw [← HPOS.out];exact hfm)
     rw [← hoff,← htgv] at hts
     have HTS:=zh hts
     have HYD:Hid (∀ W5,G.J s2 (told enc ps f k0 m) W5→YieldAt Fence.wide 6 Tryz.prog l #[.int .i64 a,.int .i64 tgv] W5 fun e W'=>(e=.returned (.bool true)∧∃ s',G.J s' (told enc ps f k0 (m + 1)) W'∧Kps (G.own s2) W5 W'∧Newer G.own s2 s' W5)∨(e=.returned (.bool false)∧∃ s',G.Jx s' (told enc ps f k0 (m + 1)) W'∧Kps (G.own s2) W5 W'∧Newer G.own s2 s' W5)):=fun W5 hj=>by
      rw [hts]
      exact yield_any 6 (HYY.out s2 _ (a,tgv) W5 hj (by rw [← hts];exact told_pre (by rw [← HPOS.out];have:=HLF.out;omega)))
     have hwlf:IntKind.i64.wrap (lf:Int)=(lf:Int):=by rw [IntKind.wrap_i64];have:=HLF.out;omega
     clear hts htgv
     clear hnx ha hoff hlow hend hsz
     gi_wp2_with fail
     refine wpIn_heldC (S:=fun w''=>w''.cell? ⟨g5,0,none⟩=some (.slice x.p N N)∧w''.cell? ⟨ba,0,none⟩=some (.pointer (some ⟨t,0,none⟩))∧w''.cell? ⟨t,0,none⟩=some (.int .i64 enc)) ?nd (fun ⟨a,w,h⟩=>h) (by kernel_rfl) (by simp only [World.cell?_drew];exact ⟨cx.1,q1,q2⟩) (fun _=>?_)
     case nd =>
      intro i o h
      rcases i with _ | _ | _ | _ | _ | _ | _ | _ | _ | _ | _ | _ | _ | i
      all_goals first | (obtain rfl:=Option.some.inj h;intro c hc;cases hc) | (simp at h)
     refine tkH 0 rfl ?_
     refine tkH 1 rfl ?_
     refine tkH 2 rfl ?_
     refine tkH 3 rfl ?_
     refine tkH 4 rfl ?_
     refine tkH 5 rfl ?_
     refine tkH 6 rfl ?_
     refine rdH 7 rfl fun K hK=>?_
     go_simp
     refine (NX.out _ (Below.drew (Below.refl _ _))).mono ?_;clear q1 q2 q3 cx c7 cx0;rintro e V3 ⟨rfl,hb⟩;have HL3:=zh (HL.out.call (zxt (Below.drew (Below.refl wr.heap.size wr)) hb) HLT.out HHV.out);clear hb;obtain ⟨q1,q2,q3⟩:=HCH.out V3 HL3.out.hd;have cx:=HL3.out.bx.cells.1;rw [xnc.1,xnc.2] at cx;try dsimp only
     refine hK.out _ _ ?_ (fun _=>?_)
     ·(try simp only [World.cell?_drew]);exact ⟨cx.1,q1,q2⟩
     clear hK K
     try simp only [Act.put,tS]
     refine tkH 8 rfl ?_
     refine tkH 9 rfl ?_
     refine tkH 10 rfl ?_
     refine tkH 11 rfl ?_
     refine tkH 12 rfl ?_
     refine dnH ?_
     skip
     gi_wp2_with fail
     have cx0:=HL3.out.bx.cells.1
     refine wpIn_anyR (S:=fun w''=>(w''.cell? ⟨g5,0,none⟩=some (.slice x.p x.n x.c)∧w''.cell? ⟨g5,1,none⟩=some (.int .i64 x.pl)∧w''.cell? ⟨g5,2,none⟩=some (.int .i64 x.sp.a)∧w''.cell? ⟨g5,3,none⟩=some (.int .i64 x.sp.s)∧w''.cell? ⟨g5,4,none⟩=some (.int .i64 x.sp.b)∧w''.cell? ⟨g5,5,none⟩=some (.bool x.sp.lf)∧w''.cell? ⟨g5,6,none⟩=some (.bool x.sp.cr))∧w''.cell? ⟨W.heap.size,0,none⟩=some (.func (.yield l) #[] #[])) ?nd (by kernel_rfl) (by simp only [World.cell?_drew];exact ⟨cx0,q3⟩) (fun _=>?_)
     case nd =>
      intro i o h
      rcases i with _ | _ | _ | _ | _ | _ | _ | i
      all_goals first | (obtain rfl:=Option.some.inj h;intro c hc;cases hc) | (simp at h)
     refine anyR_take (i:=0) (oi:=_) (v:=?_) rfl (by kernel_rfl) (by kernel_rfl) (by kernel_rfl) (fun _ _ _ h=>h) (Or.inl ⟨by rfl,?_⟩) (by assumption) ?_
     rotate_left 1
     ·intro wq hSw;(try dsimp only at hSw);go_simp;try (with_reducible rfl)
     try simp only [Act.put,tS]
     refine anyR_take (i:=1) (oi:=_) (v:=?_) rfl (by kernel_rfl) (by kernel_rfl) (by kernel_rfl) (fun _ _ _ h=>h) (Or.inl ⟨by rfl,?_⟩) (by assumption) ?_
     rotate_left 1
     ·intro wq hSw;(try dsimp only at hSw);go_simp;try (with_reducible rfl)
     try simp only [Act.put,tS]
     refine anyR_take (i:=2) (oi:=_) (v:=?_) rfl (by kernel_rfl) (by kernel_rfl) (by kernel_rfl) (fun _ _ _ h=>h) (Or.inl ⟨by rfl,?_⟩) (by assumption) ?_
     rotate_left 1
     ·intro wq hSw;(try dsimp only at hSw);go_simp;try (with_reducible rfl)
     try simp only [Act.put,tS]
     refine anyR_take (i:=3) (oi:=_) (v:=?_) rfl (by kernel_rfl) (by kernel_rfl) (by kernel_rfl) (fun _ _ _ h=>h) (Or.inl ⟨by rfl,?_⟩) (by assumption) ?_
     rotate_left 1
     ·intro wq hSw;(try dsimp only at hSw);go_simp;try (with_reducible rfl)
     try simp only [Act.put,tS]
     refine anyR_one (i:=4) (by kernel_rfl) rfl (by rfl) (fun K hK=>?_)
     go_simp
     refine (callsIn_wide (n:=6)).2 ((TG.out _).mono ?_)
     clear q1 q2 q3 cx cx0
     rintro e V5 ⟨rfl,hb⟩
     have HL5:=zh (HL3.out.call (zxt (Below.drew (Below.refl V3.heap.size V3)) hb) HLT.out HHV.out)
     clear hb
     have cx0:=HL5.out.bx.cells.1
     obtain ⟨q1,q2,q3⟩:=HCH.out V5 HL5.out.hd
     try dsimp only
     refine hK.out _ _ ⟨cx0,q3⟩ ?_
     clear hK K
     try simp only [Act.put,tS]
     refine anyR_one (i:=5) (by kernel_rfl) rfl (by rfl) (fun K hK=>?_)
     obtain ⟨fn,tm,asg,bd,hy,hR⟩:=HYD.out V5 HL5.out.j
     have HR:=zh hR
     clear hR
     go_simp
     clear hy q1 q2 q3 cx0
     refine RoundIn.mono HR.out ?_
     rintro e V6 (⟨rfl,s3,hJ,hk,hn⟩ | ⟨rfl,s3,hJ,hk,hn⟩)
     ·have HL6:=zh (HL5.out.told hJ hk hn HHV.out)
      clear hJ hk hn
      have cx0:=HL6.out.bx.cells.1
      obtain ⟨q1,q2,q3⟩:=HCH.out V6 HL6.out.hd
      have c7:V6.cell? ⟨b7,0,none⟩=some (.int .i64 (lf + 1:Nat)):=by rw [cell_of_row V6 _ _ _ _ _ HL6.out.lft];rfl
      have f7:∀ i,V6.frozen? ⟨b7,i,none⟩=false:=fun i=>by simp [World.frozen?,HL6.out.lft]
      try dsimp only
      refine hK.out _ _ ⟨cx0,q3⟩ ?_
      clear hK K
      try simp only [Act.put,tS]
      have hS6:=And.intro cx0 q3
      refine anyR_take (i:=6) (oi:=_) (v:=?_) rfl (by kernel_rfl) (by kernel_rfl) (by kernel_rfl) (fun _ _ _ h=>h) (Or.inl ⟨by rfl,?_⟩) (by assumption) ?_
      rotate_left 1
      ·intro wq hSw;(try dsimp only at hSw);go_simp;try (with_reducible rfl)
      try simp only [Act.put,tS]
      refine anyR_done (by kernel_rfl) ?_ _
      gi_wp2_with fail
      go_roundw
      ·rw [xnc.1,xnc.2]
       (repeat apply Exists.intro)
       refine ⟨?rl,rfl⟩
       case rl =>
        refine ⟨m + 1,s3,by rw [HNXT.out];go_num,hmg,by have:=HLF.out;omega,by omega,?_⟩
        have e:tz - (pos + (m + 1))=lf:=by have:=HLF.out;omega
        rw [e]
        exact HL6.out.put7 HBS2.out lf
      ·change btMu N (.int .i64 ((off:Int) + (sz:Int))) < btMu N (.int .i64 (off:Int))
       simp only [btMu]
       omega
     ·have HKN:=zh (HL5.out.kpn hk hn HHV.out)
      have HJX:=zh hJ
      clear hJ hk hn
      have cx0:=HKN.out.2.2.2.cells.1
      obtain ⟨q1,q2,q3⟩:=HCH.out V6 HKN.out.2.2.1
      try dsimp only
      refine hK.out _ _ ⟨cx0,q3⟩ ?_
      clear hK K
      try simp only [Act.put,tS]
      have hS6:=And.intro cx0 q3
      refine anyR_take (i:=6) (oi:=_) (v:=?_) rfl (by kernel_rfl) (by kernel_rfl) (by kernel_rfl) (fun _ _ _ h=>h) (Or.inl ⟨by rfl,?_⟩) (by assumption) ?_
      rotate_left 1
      ·intro wq hSw;(try dsimp only at hSw);go_simp;try (with_reducible rfl)
      try simp only [Act.put,tS]
      refine anyR_done (by kernel_rfl) ?_ _
      gi_wp2_with fail
      exact ⟨s3,⟨rfl,.inr ⟨_,told_pre (by rw [← HPOS.out];have:=HLF.out;omega),HJX.out⟩⟩,HKN.out.1,HKN.out.2.1⟩
   ·obtain rfl:m=gx.length:=by omega
    have hlt:¬ (off:Int) < (N:Int):=by rw [hoff,List.take_length,← HN.out];omega
    clear hoff
    have HBI:Hid (BtI G enc ps f tz i base b6 b7 hold v4 s2 (pre ++ [x]) (wr.setCell ⟨b6,0,none⟩ (.int .i64 (0:Nat)))∧Kps (btO G b6 b7 s1) V1 (wr.setCell ⟨b6,0,none⟩ (.int .i64 (0:Nat)))∧Newer (btO G b6 b7) s1 s2 V1):=by
     have h:=HL.out.put6 HBS2.out 0
     have el:i + (pre ++ [x]).length=k0 + 1:=by rw [HK0.out];simp;omega
     have ep:(sh enc (ps.take (k0 + 1))).length=pos + gx.length:=by rw [sh_succ HGX.out,List.length_append,ctn_len,← HPOS.out]
     refine ⟨⟨?_,?_,?_,?_,h.ap,?_,?_,h.hd⟩,h.kp,h.nw⟩
     ·have e1:(pre ++ [x]).length=pre.length + 1:=by simp
      rw [e1,List.take_add_one,List.getElem?_drop,← HK0.out,HGX.out,Option.toList_some,xsOf_app,← HI.out.pr]
      rfl
     ·rw [el];have:=(List.getElem?_eq_some_iff.1 HGX.out).1;omega
     ·rw [el,ep];exact hmt
     ·rw [el,← told_next HGX.out];exact h.j
     ·rw [if_neg (by simp)];exact h.inb
     ·rw [el,ep,Nat.max_eq_right hfm];exact h.lft
    gi_wp2_with fail
    exact ⟨s2,HBI.out.1,HBI.out.2.1,HBI.out.2.2⟩
 case done =>
  intro s' xs W' hk hnw hS hI hdf hno
  have hxl:xs.length=ps.length - i:=by rw [hS,HLS.out,List.length_drop,xsOf_len]
  have hJ:=hI.j
  have hle:=hI.le
  rw [hxl,Nat.add_sub_cancel' hil] at hJ hle
  rw [List.take_length] at hle
  rw [told_all (t:=tz) (by rw [List.take_length];omega)] at hJ
  gi_wp2
  refine ⟨by simp,.inl ⟨_,_,rfl,run_takeDeferred hdf,?_⟩⟩
  refine ⟨.tuple #[],by simp [results,Tryz.results105,go_sem],⟨_,rfl⟩,?_⟩
  exact FIN.out s' W' _ hk hnw hno ⟨rfl,rfl,rfl,by simp,fun k h=>World.putObj_heap_other (by omega)⟩ (.inl hJ)
 case stop =>
  rintro c s' pre W' hk hnw hS ⟨rfl,hJ⟩ hdf hno
  refine wpIn_ret ?_
  refine ⟨by simp,.inl ⟨_,_,rfl,run_takeDeferred hdf,?_⟩⟩
  refine ⟨.tuple #[],by simp [results,Tryz.results105,go_sem],⟨_,rfl⟩,?_⟩
  exact FIN.out s' W' _ hk hnw hno ⟨rfl,rfl,rfl,by simp,fun k h=>World.putObj_heap_other (by omega)⟩ hJ
end Go.Proofs.YtdhciadajendnaaGreat.P
