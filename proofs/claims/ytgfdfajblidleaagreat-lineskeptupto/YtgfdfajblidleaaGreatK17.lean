import Derived.Test.YtgfdfajblidleaaGreatK15
import Derived.Test.YtgfdfajblidleaaGreatK16
import Derived.Test.YtgfdfajblidleaaGreatK04
import Derived.Test.YtgfdfajblidleaaGreatK05
import Derived.LaidEqlPtr
import Derived.RegionIn
import Derived.ControlIn
set_option maxRecDepth 100000
namespace Go.Proofs.YtgfdfajblidleaaGreat.P
open Go.RowKit
def NxR (enc:Int) (L:List Int) (g bo n:Nat) (w:World) (lv vm:Value) (os ms:List PG) (e:Ending) (w':World):Prop :=
 ∃ (y:It) (gy:List Int) (vo':Value) (os':List PG),e=.returned (.agg #[.slice y.p y.n y.c,.int .i64 y.pl,.int .i64 y.sp.a,.int .i64 y.sp.s,.int .i64 y.sp.b,.bool y.sp.lf,.bool y.sp.cr])∧Pc enc L w' y gy∧gy.length≤n∧Wr enc L g bo w' lv vo' vm os' ms∧ctn enc y.pl gy ++ sh enc os'=sh enc os∧Kps (ow g bo vm) w w'
open Go.RowKit
section
variable {P:Program} {W:World}
end
theorem cell_same {w w':World} {b:Nat} (h:w'.heap[b]?=w.heap[b]?) (i:Nat):w'.cell? ⟨b,i,none⟩=w.cell? ⟨b,i,none⟩:=by unfold World.cell?;simp only [h]
theorem BlkI.same9 {w w':World} {g:Nat} {x:It} (h:BlkI w g x) (hb:w'.heap[g]?=w.heap[g]?):BlkI w' g x:=by unfold BlkI;rw [hb];exact h
def AdR (enc:Int) (L:List Int) (g bo:Nat) (w:World) (lv vo vm:Value) (os ms:List PG) (x:It) (gx:List Int) (e:Ending) (w':World):Prop :=
 ∃ v vm' ms',e=.returned v∧Wr enc L g bo w' lv vo vm' os ms'∧sh enc ms'=sh enc ms ++ ctn enc x.pl gx∧ms'.length≤ms.length + 1∧Kps (ow g bo vm) w w'∧(vm'.ownBlock=vm.ownBlock∨∃ k,vm'.ownBlock=some k∧w.heap.size≤k)
open Go.RowKit
theorem field_atoms (a s b:Int) (f r:Bool) (w:World):(Instr.field 109 (.agg #[.int .i64 a,.int .i64 s,.int .i64 b,.bool f,.bool r]) 0).run Tryz.prog w=.ok (.int .i64 a) w:=by kernel_rfl
def Nwr (vm vm':Value) (w:World):Prop:=vm'.ownBlock=vm.ownBlock∨∃ k,vm'.ownBlock=some k∧w.heap.size≤k
open Go.RowKit
open Go.RowKit
structure Tx (enc lim:Int) (L:List Int) (w:World) (t:Nat) (ps:List PG):Prop where
 ex:∃ lv u,w.heap[t]?=some (.cells #[.int .i64 enc,.int .i64 lim,lv,.pointer u] 115 (0,0))∧LdR w lv L∧TT w (.agg #[.pointer u]) (xsOf ps)
 pc:Pcs enc L w ps
 en:Cx.En enc
 by':Byt L
 ll:L.length≤65536
 l0:0≤lim
 lm:lim≤65536
 sz:ln enc (asOf ps)≤65536
theorem Tx.ext {enc lim:Int} {L:List Int} {w w':World} {t:Nat} {ps:List PG} (h:Tx enc lim L w t ps) (hb:Below w.heap.size w w'):Tx enc lim L w' t ps:=by
 obtain ⟨lv,u,h1,h2,h3⟩:=h.ex
 exact ⟨⟨lv,u,(hb.block t (Array.getElem?_eq_some_iff.1 h1).1).trans h1,h2.ext hb,h3.ext hb⟩,h.pc.ext hb,h.en,h.by',h.ll,h.l0,h.lm,h.sz⟩
theorem Tx.cells {enc lim:Int} {L:List Int} {w:World} {t:Nat} {ps:List PG} (h:Tx enc lim L w t ps):∃ lv u,(w.cell? ⟨t,0,none⟩=some (.int .i64 enc)∧w.cell? ⟨t,1,none⟩=some (.int .i64 lim)∧w.cell? ⟨t,2,none⟩=some lv∧w.cell? ⟨t,3,none⟩=some (.pointer u))∧LdR w lv L∧TT w (.agg #[.pointer u]) (xsOf ps)∧t < w.heap.size:=by
 obtain ⟨lv,u,h1,h2,h3⟩:=h.ex
 refine ⟨lv,u,⟨?_,?_,?_,?_⟩,h2,h3,(Array.getElem?_eq_some_iff.1 h1).1⟩ <;> (rw [cell_of_row w t _ _ _ _ h1];rfl)
theorem Tx.sum {enc lim:Int} {L:List Int} {w:World} {t:Nat} {ps:List PG} (h:Tx enc lim L w t ps):(rA.su (xsOf ps)).a=(sh enc ps).length∧(rA.su (xsOf ps)).s=ln enc (asOf ps)∧(sh enc ps).length≤65536:=by
 rw [h.pc.su,sh_len]
 obtain ⟨k1,k2⟩:=spn_a enc (asOf ps) h.pc.fit
 have:=ln_ge enc (asOf ps)
 have:=h.sz
 exact ⟨k1,k2,by omega⟩
theorem Len_any (enc lim:Int) (L:List Int) (w:World) (t:Nat) (ps:List PG) (h:Tx enc lim L w t ps):Calls Tryz.prog 32 #[.pointer (some ⟨t,0,none⟩)] w fun e w'=>e=.returned (.int .i64 (sh enc ps).length)∧Below w.heap.size w w':=by
 obtain ⟨lv,u,⟨_,_,_,c3⟩,_,ht,_⟩:=h.cells
 have SM:=zh (Sum_any u (xsOf ps) w ht)
 have HS:=zh h.sum.1
 have FA:=field_atoms
 clear h ht
 go_enter Tryz.func32,Tryz.ntmps32
 go_wp2_with (go_at_call 54;refine SM.out.mono ?_;rintro e w1 ⟨s,HE,rfl,hb⟩;have HB:=zh hb;clear hb;(try dsimp only))
 go_ret
 exact ⟨ret_int (by rw [HE.out];exact HS.out),HB.out⟩
theorem ret_two {x y x' y':Int} (h1:x=x') (h2:y=y'):Ending.returned (.tuple #[.int .i64 x,.int .i64 y])=.returned (.tuple #[.int .i64 x',.int .i64 y']):=by rw [h1,h2]
def clp (n:Nat) (a b:Int):Nat × Nat:=if max a 0 ≥ min b n then (0,0) else ((max a 0).toNat,(min b n).toNat)
theorem clp_le (n:Nat) (a b:Int):(clp n a b).1≤(clp n a b).2∧(clp n a b).2≤n:=by
 unfold clp
 split
 ·exact ⟨Nat.le_refl _,Nat.zero_le _⟩
 ·simp only;omega
theorem clip_any (enc lim:Int) (L:List Int) (w:World) (t:Nat) (ps:List PG) (a b:Int) (h:Tx enc lim L w t ps):Calls Tryz.prog 34 #[.pointer (some ⟨t,0,none⟩),.int .i64 a,.int .i64 b] w fun e w'=>e=.returned (.tuple #[.int .i64 (clp (sh enc ps).length a b).1,.int .i64 (clp (sh enc ps).length a b).2])∧Below w.heap.size w w':=by
 have LN:=zh (Len_any enc lim L w t ps h)
 clear h
 generalize (sh enc ps).length=n at *
 obtain ⟨a',ha⟩:∃ a',a'=max a 0:=⟨_,rfl⟩
 obtain ⟨b',hb⟩:∃ b',b'=min b (n:Int):=⟨_,rfl⟩
 by_cases hc:a' ≥ b'
 ·have HC:Hid (clp n a b=(0,0)):=by unfold Hid clp;rw [if_pos (by rw [← ha,← hb];exact hc)]
  rw [HC.out]
  have HA:=zh ha
  have HB:=zh hb
  go_enter Tryz.func34,Tryz.ntmps34
  go_wp2_with (go_at_call 32;refine LN.out.mono ?_;rintro e w1 ⟨rfl,hb1⟩;have HB1:=zh hb1;clear hb1;(try dsimp only))
  all_goals
   go_ret2
   exact ⟨rfl,HB1.out⟩
 ·have HC:Hid (clp n a b=(a'.toNat,b'.toNat)):=by unfold Hid clp;rw [if_neg (by rw [← ha,← hb];exact hc),ha,hb]
  rw [HC.out]
  go_enter Tryz.func34,Tryz.ntmps34
  go_wp2_with (go_at_call 32;refine LN.out.mono ?_;rintro e w1 ⟨rfl,hb1⟩;have HB1:=zh hb1;clear hb1;(try dsimp only))
  all_goals
   go_ret2
   exact ⟨ret_two (by omega) (by omega),HB1.out⟩
open Go.RowKit
abbrev Ed:=Int × Int × List Int
def EdR (w:World) (v:Value) (es:List Ed):Prop :=
 ∃ ao cap,v=.slice ao es.length cap∧es.length≤cap∧cap≤9223372036854775807 ∧
   (es≠[]→∃ b off,ao=some ⟨b,off,none⟩∧b < w.heap.size∧∀ i e,es[i]?=some e→w.cell? ⟨b,off + i * 3,none⟩=some (.int .i64 e.1)∧w.cell? ⟨b,off + i * 3 + 1,none⟩=some (.int .i64 e.2.1)∧∃ pv,w.cell? ⟨b,off + i * 3 + 2,none⟩=some pv∧Rd .i64 w pv e.2.2)
def puts (es:List Ed):List Int:=es.flatMap fun e=>e.2.2
open Go.RowKit
def rg (n:Int):Int→List Ed→Bool
 | _,[]=>true
 | least,e :: es=>decide (least≤e.1∧e.1≤e.2.1∧e.2.1≤n) && rg n e.2.1 es
open Go.RowKit
def apE (l:List (Int × Int)):Nat→List Ed→List (Int × Int)
 | p,[]=>l.drop p
 | p,e :: es=>(l.drop p).take (e.1.toNat - p) ++ (e.2.2.map fun a=>(a,-1)) ++ apE l e.2.1.toNat es
theorem key_len {enc:Int} {L:List Int} {w:World} {ps:List PG} (h:Pcs enc L w ps) (k:Nat):rA.key (rA.add Rs.zero (rA.su ((xsOf ps).take k))) 0=(sh enc (ps.take k)).length:=by
 have h':Pcs enc L w (ps.take k):=fun q hq=>h q (List.mem_of_mem_take hq)
 have e:(xsOf ps).take k=xsOf (ps.take k):=by simp [xsOf,List.map_take]
 have z:rA.add Rs.zero (rA.su (xsOf (ps.take k)))=rA.su (xsOf (ps.take k)):=rA.zadd _ (rA.ok _)
 rw [e,z,h'.su,sh_len]
 show (spn enc (asOf (ps.take k))).a=_
 rw [(spn_a enc _ h'.fit).1]
open Go.RowKit
theorem drop_of {α:Type} {l:List α} {j:Nat} {e:α} (h:l[j]?=some e):l.drop j=e :: l.drop (j + 1):=by
 obtain ⟨hj,rfl⟩:=List.getElem?_eq_some_iff.1 h
 exact List.drop_eq_getElem_cons hj
structure RwJ (enc:Int) (l:List (Int × Int)) (base:Nat) (es:List Ed) (j p:Nat) (A B:List (Int × Int)):Prop where
 left:B=l.drop p
 le:p≤l.length
 rg':rg l.length p (es.drop j)=true
 all:A ++ apE l p (es.drop j)=apE l base es
 bd:ln enc (A.map Prod.fst) + ln enc (B.map Prod.fst)≤ln enc (l.map Prod.fst) + ln enc (puts (es.take j))
theorem ln_take_drop (enc:Int) (l:List Int) (k:Nat):ln enc (l.take k) + ln enc (l.drop k)=ln enc l:=by rw [← ln_app,List.take_append_drop]
open Go.RowKit
section
variable {P:Program} (w:World)
end
theorem Tin.same {w w':World} (hb:∀ b,Typ 144 w b→w'.heap[b]?=w.heap[b]?):∀ {t:Tr It} {u:Option Addr},Tin w t u→Tin w' t u
 | ⟨none⟩,_,h=>h
 | ⟨some (_,_,_)⟩,_,⟨g,lv,rv,hu,hg,hl,hr⟩=>⟨g,lv,rv,hu,by rw [hb g ⟨_,hg⟩];exact hg,Tin.same hb hl,Tin.same hb hr⟩
theorem TT.same {w w':World} {v:Value} {xs:List It} (h:TT w v xs) (hb:∀ b,Typ 144 w b→w'.heap[b]?=w.heap[b]?):TT w' v xs:=by
 obtain ⟨u,t,h1,h2,h3,h4⟩:=h
 exact ⟨u,t,h1,Tin.same hb h2,h3,h4⟩
open Go.RowKit
def ChJ (enc:Int) (L:List Int) (l:List (Int × Int)) (es:List Ed) (b:Nat) (w:World) (k:Nat) (wr:World):Prop :=
 ∃ u qs,wr.heap[b]?=some (.cells #[.pointer u] 106 (0,0))∧TT wr (.agg #[.pointer u]) (xsOf qs)∧Pcs enc L wr qs∧sh enc qs=apE l 0 (es.drop k)∧Below w.heap.size w wr
open Go.RowKit
theorem sh_succ {enc:Int} {ps:List PG} {k:Nat} {x:It} {g:List Int} (h:ps[k]?=some (x,g)):sh enc (ps.take (k + 1))=sh enc (ps.take k) ++ ctn enc x.pl g:=by
 rw [List.take_add_one,h,Option.toList_some,sh_app,sh_one]
theorem sh_part (enc:Int) (ps:List PG) (k:Nat):sh enc (ps.take k) <+: sh enc ps:=by
 conv=>rhs;rw [← List.take_append_drop k ps,sh_app]
 exact List.prefix_append _ _
def btw (enc:Int) (ps:List PG) (f t:Nat):List (Int × Int):=((sh enc ps).drop f).take (t - f)
theorem btw_len {enc:Int} {ps:List PG} {f t:Nat} (h:t≤(sh enc ps).length):(btw enc ps f t).length=t - f:=by
 unfold btw;rw [List.length_take,List.length_drop];omega
def told (enc:Int) (ps:List PG) (f k m:Nat):List (Int × Int):=((sh enc ps).take ((sh enc (ps.take k)).length + m)).drop f
theorem told_pre {enc:Int} {ps:List PG} {f t k m:Nat} (h:(sh enc (ps.take k)).length + m≤t):told enc ps f k m <+: btw enc ps f t:=by
 unfold told btw
 rw [List.drop_take]
 exact List.take_prefix_take_left (by omega)
theorem told_all {enc:Int} {ps:List PG} {f t k m:Nat} (h:(sh enc (ps.take k)).length + m=t):told enc ps f k m=btw enc ps f t:=by
 unfold told btw
 rw [List.drop_take,h]
theorem told_next {enc:Int} {ps:List PG} {f k:Nat} {x:It} {g:List Int} (h:ps[k]?=some (x,g)):told enc ps f k g.length=told enc ps f (k + 1) 0:=by
 unfold told
 rw [sh_succ h,List.length_append,ctn_len,Nat.add_zero]
theorem sh_get {enc:Int} {ps:List PG} {k m:Nat} {x:It} {g:List Int} (h:ps[k]?=some (x,g)) (hm:m < g.length):(sh enc ps)[(sh enc (ps.take k)).length + m]?=(ctn enc x.pl g)[m]?:=by
 obtain ⟨z,hz⟩:=sh_part enc ps (k + 1)
 rw [← hz,sh_succ h,List.getElem?_append_left (by rw [List.length_append,ctn_len];omega),List.getElem?_append_right (by omega)]
 congr 1;omega
theorem ctn_get {enc:Int} {g:List Int} {pl:Int} (h:-1≤pl) {m:Nat} {a:Int} (ha:g[m]?=some a):(ctn enc pl g)[m]?=some (a,tg pl (ln enc (g.take m):Nat)):=by
 have e:=(ctn_take enc g pl h m).2
 have k:(ctn enc pl g)[m]?=((ctn enc pl g).drop m)[0]?:=by rw [List.getElem?_drop,Nat.add_zero]
 rw [k,e,drop_of ha]
 rfl
theorem told_snoc {enc:Int} {ps:List PG} {f k m:Nat} {x:It} {g:List Int} {a:Int} (h:ps[k]?=some (x,g)) (hl:-1≤x.pl) (ha:g[m]?=some a) (hf:f≤(sh enc (ps.take k)).length + m):told enc ps f k (m + 1)=told enc ps f k m ++ [(a,tg x.pl (ln enc (g.take m):Nat))]:=by
 have hm:m < g.length:=(List.getElem?_eq_some_iff.1 ha).1
 have e:=sh_get (enc:=enc) h hm
 rw [ctn_get hl ha] at e
 unfold told
 have hlt:=(List.getElem?_eq_some_iff.1 e).1
 rw [← Nat.add_assoc,List.take_add_one,e,Option.toList_some,List.drop_append_of_le_length (by rw [List.length_take];omega)]
theorem find_from {enc:Int} {L:List Int} {w:World} {ps:List PG} (h:Pcs enc L w ps) (f:Nat) :
  ∃ i,rA.fnd 0 ((f:Int) + 1) Rs.zero (xsOf ps)=i + 1∧i≤ps.length∧(sh enc (ps.take i)).length≤f∧∀ x g,ps[i]?=some (x,g)→f - (sh enc (ps.take i)).length < g.length:=by
 have l2:=rA.fnd_le 0 ((f:Int) + 1) (xsOf ps) Rs.zero
 rw [xsOf_len] at l2
 have h0:rA.fnd 0 ((f:Int) + 1) Rs.zero (xsOf ps)≠0:=by
  intro e
  have:=rA.fnd_hit 0 ((f:Int) + 1) (xsOf ps) Rs.zero Rs.ok_zero (by rw [e];exact Nat.zero_le _)
  rw [e,key_len h] at this
  simp [sh] at this
  omega
 obtain ⟨i,hi⟩:∃ i,rA.fnd 0 ((f:Int) + 1) Rs.zero (xsOf ps)=i + 1:=⟨_,(Nat.succ_pred_eq_of_ne_zero h0).symm⟩
 have hle:(sh enc (ps.take i)).length≤f:=by
  have:=rA.fnd_less 0 ((f:Int) + 1) (xsOf ps) Rs.zero i Rs.ok_zero (by omega)
  rw [key_len h] at this
  omega
 refine ⟨i,hi,by omega,hle,?_⟩
 ·intro x g hg
  have hlt:=(List.getElem?_eq_some_iff.1 hg).1
  have:=rA.fnd_hit 0 ((f:Int) + 1) (xsOf ps) Rs.zero Rs.ok_zero (by rw [hi,xsOf_len];omega)
  rw [hi,key_len h,sh_succ hg,List.length_append,ctn_len] at this
  omega
end Go.Proofs.YtgfdfajblidleaaGreat.P
namespace Go.Proofs.YtgfdfajblidleaaGreat.P
open Go.RowKit Go.Shelf
attribute [local go_sem] Oper.semAt_some
def calm (Q:Exit→Act→World→Prop):Exit→Act→World→Prop
 | .panic _,_,_=>False
 | .outgrown,_,_=>False
 | e,a,w=>Q e a w
theorem calm_imp {Q:Exit→Act→World→Prop} {e:Exit} {a:Act} {w:World} (h:calm Q e a w):Q e a w:=by
 cases e with
 | panic c=>exact h.elim
 | outgrown=>exact h.elim
 | _=>exact h
structure RwG (enc:Int) (g b9 b10 fr tt:Nat) (lv:Value) (vo:Value) (pre:List It) (W:World):Prop where
 wr:W.heap[g]?=some (.cells #[.int .i64 enc,lv,vo,.slice none 0 0] 151 (0,0))
 own:OwnR W 0 111 vo pre
 f:W.heap[b9]?=some (.cells #[.int .i64 fr] 3 (0,0))
 t:W.heap[b10]?=some (.cells #[.int .i64 tt] 3 (0,0))
 le:pre.length≤tt - fr
def rwO (g:Nat) (vo:Value) (k:Nat):Prop:=k=g∨vo.ownBlock=some k
open Go.RowKit
open Go.RowKit
def OpR (enc lim:Int) (zs:List Int) (w:World) (e:Ending) (w':World):Prop:=∃ (t:Nat) (ps:List PG),e=.returned (.tuple #[.pointer (some ⟨t,0,none⟩),.int .i64 0])∧(Tx enc lim zs w' t ps∧sh enc ps=ctn enc 0 (Cx.dec enc zs)∧w.heap.size≤t)∧Below w.heap.size w w'
def opE (enc lim:Int) (n:Nat):Int:=if Cx.known enc=true then (if lim < 0∨65536 < lim then 1 else if lim < (n:Int) then 50 else 0) else 10
theorem mks_wt {enc:Int} (b o:Nat):∀ (gs:List (List Int)) (pl:Nat),(∀ g ∈ gs,Gr enc g)→wt (mks enc b o pl gs)≤4 * ln enc gs.flatten:=by
 intro gs
 induction gs with
 | nil=>intro pl _;exact Nat.zero_le _
 | cons g gs ih =>
   intro pl h
   have i:=ih (pl + ln enc g) (fun x hx=>h x (List.mem_cons_of_mem _ hx))
   have hg:=h g List.mem_cons_self
   rw [mks,wt_cons,List.flatten_cons,ln_app]
   obtain ⟨k1,k2⟩:=spn_a enc g hg.fit
   have k3:=spn_b enc g
   have k4:=ln_ge enc g
   have k5:=hg.pos
   show 1 + (spn enc g).a.toNat + (spn enc g).s.toNat + (spn enc g).b.toNat + _≤_
   omega
theorem op_wt {enc:Int} {b:Nat} {gs:List (List Int)} {zs:List Int} (h1:gs.flatten=Cx.dec enc zs) (h2:∀ g ∈ gs,Gr enc g) (h3:Cx.encB enc (Cx.dec enc zs)=zs) (h4:zs.length≤65536):wt (mks enc b 0 0 gs)≤4611686018427387904:=by
 have:=mks_wt b 0 gs 0 h2
 rw [h1] at this
 have e:ln enc (Cx.dec enc zs)=zs.length:=by unfold ln;rw [h3]
 omega
theorem rd_none (w:World):Rd .u8 w (.slice none 0 0) []:=⟨none,0,rfl,Nat.le_refl _,by simp [maxLen],fun h=>absurd rfl h⟩
set_option maxHeartbeats 2000000 in
theorem Open_good (enc lim:Int) (v:Value) (zs:List Int) (w:World) (h:Rd .u8 w v zs) (hB:Byt zs) (hE:opE enc lim zs.length=0) :
  Calls Tryz.prog 30 #[.int .i64 enc,v,.int .i64 lim] w fun e w'=>OpR enc lim zs w e w':=by
 have hk:Cx.known enc=true:=by
  by_cases e:Cx.known enc=true
  ·exact e
  ·unfold opE at hE;rw [if_neg e] at hE;omega
 have hm:¬ (lim < 0∨65536 < lim):=fun e=>by unfold opE at hE;rw [if_pos hk,if_pos e] at hE;omega
 have hf:¬ lim < (zs.length:Int):=fun e=>by unfold opE at hE;rw [if_pos hk,if_neg hm,if_pos e] at hE;omega
 have he:Cx.En enc:=(Cx.known_iff enc).1 hk
 have her:Cx.er enc=0:=by unfold Cx.er;rw [if_pos hk]
 have h0:¬ lim < 0:=fun e=>hm (.inl e)
 have h1:¬ 65536 < lim:=fun e=>hm (.inr e)
 have D0:=zh (Decode_any enc (.slice none 0 0) [] w (rd_none w) (fun z hz=>by cases hz) (by simp))
 rw [her] at D0
 obtain ⟨bk1,bk2⟩:=Cx.back_all enc he _ zs (Nat.le_refl _) hB
 have CO:Hid (∀ w',Below w.heap.size w w'→Calls Tryz.prog 51 #[v] w' fun e w''=>e=.returned (.slice (some ⟨w'.heap.size,0,none⟩) zs.length zs.length)∧w''.heap[w'.heap.size]?=some (.cells (zs.map (Value.int .u8)).toArray 5 (0,0))∧Below w'.heap.size w' w''):=fun w' hb=>copyOf_any v zs w' (h.ext hb) (by omega)
 have D1:Hid (∀ w' b,RwU w' b 0 zs→Calls Tryz.prog 50 #[.int .i64 enc,.slice (some ⟨b,0,none⟩) zs.length zs.length] w' fun e w''=>∃ v',e=.returned (.tuple #[v',.int .i64 0])∧w''.ownsRow w'.heap.size 3 1 v' (Cx.dec enc zs).length ((Cx.dec enc zs).map (Value.int .i64))∧Below w'.heap.size w' w''):=fun w' b hr=>by
  have:=Decode_any enc _ zs w' (hr.rd zs.length (Nat.le_refl _) (by omega)) hB (by omega)
  rw [her,Cx.dd_yes enc zs hk] at this
  exact this
 have hdl:(Cx.dec enc zs).length≤zs.length:=Cx.dec_len enc _ _
 have CT:Hid (∀ w' b va,RwU w' b 0 zs→Rd .i64 w' va (Cx.dec enc zs)→Calls Tryz.prog 53 #[.int .i64 enc,va,.slice (some ⟨b,0,none⟩) zs.length zs.length] w' fun e w''=>∃ v gs,e=.returned v∧Hid (gs.flatten=Cx.dec enc zs∧(∀ g ∈ gs,Gr enc g)∧OwnR w'' w'.heap.size 111 v (mks enc b 0 0 gs))∧Below w'.heap.size w' w''):=fun w' b va hr ha =>
  cut_any enc he va _ (Cx.dec enc zs) b 0 w' ha bk2 (by rw [bk1];exact hr.rd zs.length (Nat.le_refl _) (by omega)) (fun _ p n c e=>by cases e;rfl) (by omega)
 obtain ⟨ao,cap,rfl,_⟩:=h
 have HK:=zh hk
 have HBZ:=zh hB
 have HEN:=zh he
 have HLM:=zh (show 0≤lim∧lim≤65536∧zs.length≤65536 by omega)
 have HBK:=zh bk1
 clear hk hm hE her hB he bk1 bk2
 go_enter Tryz.func30,Tryz.ntmps30
 go_upto_region 8 with (go_at_call 50;refine D0.out.mono ?_;rintro e w1 ⟨v1,rfl,_,hb⟩;have HB1:=zh hb;clear hb;(try dsimp only))
 go_upto_region 9 with (go_at_call 51;refine (CO.out w1 HB1.out).mono ?_;rintro e w2 ⟨rfl,hrw,hb⟩;have HR2:=zh (RwU.of hrw);have HB2:=zh hb;clear hb hrw;(try dsimp only))
 go_upto_region 10 with (go_at_call 50;refine (D1.out w2 w1.heap.size HR2.out).mono ?_;rintro e w3 ⟨v3,rfl,hv3,hb⟩;have HV3:=zh hv3;have HB3:=zh hb;clear hb hv3;(try dsimp only))
 go_upto_region 11 with (first
  | (go_at_call 53;refine (CT.out w3 w1.heap.size v3 (HR2.out.ext HB3.out) (Rd.of_own HV3.out)).mono ?_;rintro e w4 ⟨v4,gs,rfl,HG4,hb⟩;have HB4:=zh hb;clear hb;(try dsimp only))
  | (go_at_call 52;refine (Of_any v4 _ w4 HG4.out.2.2.rd (op_wt HG4.out.1 HG4.out.2.1 HBK.out HLM.out.2.2)).mono ?_;rintro e w5 ⟨u,rfl,ht,hb⟩;have HT5:=zh ht;have HB5:=zh hb;clear ht hb;(try dsimp only)))
 have FIN:Hid (∀ W t,Below w5.heap.size w5 W→W.heap[t]?=some (.cells #[.int .i64 enc,.int .i64 lim,.slice (some ⟨w1.heap.size,0,none⟩) zs.length zs.length,.pointer u] 115 (0,0))→Tx enc lim zs W t (mkp enc w1.heap.size 0 0 gs)):=fun W t hb ht=>by
  have r:=(((HR2.out.ext HB3.out).ext HB4.out).ext HB5.out).ext hb
  have hp:=mkp_pcs enc HEN.out zs HBZ.out W w1.heap.size 0 r gs 0 HG4.out.2.1 (by rw [List.drop_zero,HG4.out.1]) (Nat.zero_le _)
  refine ⟨⟨_,u,ht,⟨_,_,_,rfl,Nat.le_refl _,by omega,r⟩,?_⟩,hp,HEN.out,HBZ.out,HLM.out.2.2,HLM.out.1,HLM.out.2.1,?_⟩
  ·rw [mkp_xs];exact HT5.out.ext hb
  ·rw [mkp_as,HG4.out.1]
   unfold ln
   rw [HBK.out]
   exact HLM.out.2.2
 have HSH:=zh (show sh enc (mkp enc w1.heap.size 0 0 gs)=ctn enc 0 (Cx.dec enc zs) by rw [mkp_sh,HG4.out.1];rfl)
 have HBW:=zh (zxt (zxt (zxt (zxt HB1.out HB2.out) HB3.out) HB4.out) HB5.out)
 go_wp2_with fail
 go_ret2
 refine ⟨_,mkp enc w1.heap.size 0 0 gs,rfl,⟨FIN.out _ _ (zxa (zxa (Below.refl _ _) _) _) ?_,HSH.out,?_⟩,zxa (zxa HBW.out _) _⟩
 ·rw [← alloc_size w5 (.cells #[.pointer u] 106)]
  exact heap_alloc_new _ _
 ·have:=HBW.out.size
  omega
end Go.Proofs.YtgfdfajblidleaaGreat.P
