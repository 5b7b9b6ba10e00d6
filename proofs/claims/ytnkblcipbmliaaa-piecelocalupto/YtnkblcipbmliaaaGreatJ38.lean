import Derived.Test.YtnkblcipbmliaaaGreatJ00
import Derived.Test.YtnkblcipbmliaaaGreatJ08
import Derived.Test.YtnkblcipbmliaaaGreatJ10
import Derived.Test.YtnkblcipbmliaaaGreatJ09
import Derived.Test.YtnkblcipbmliaaaGreatJ27
import Derived.Test.YtnkblcipbmliaaaGreatJ34
import Derived.Test.YtnkblcipbmliaaaGreatJ37
import Derived.Test.YtnkblcipbmliaaaGreatJ33
import Derived.Test.YtnkblcipbmliaaaGreatJ28
namespace Go.Proofs.YtnkblcipbmliaaaGreat.P
open Go.RowKit
def lastT:Nat→List Ed→Nat
 | p,[]=>p
 | _,e :: es=>lastT e.2.1.toNat es
def prE (l:List (Int × Int)):Nat→List Ed→List (Int × Int)
 | _,[]=>[]
 | p,e :: es=>(l.drop p).take (e.1.toNat - p) ++ (e.2.2.map fun a=>(a,-1)) ++ prE l e.2.1.toNat es
theorem ap_pr (l:List (Int × Int)):∀ (es:List Ed) (p:Nat),apE l p es=prE l p es ++ l.drop (lastT p es):=by
 intro es
 induction es with
 | nil=>intro p;rfl
 | cons e es ih=>intro p;rw [apE,prE,lastT,ih];simp only [List.append_assoc]
theorem lastT_snoc (e:Ed):∀ (es:List Ed) (p:Nat),lastT p (es ++ [e])=e.2.1.toNat:=by
 intro es
 induction es with
 | nil=>intro p;rfl
 | cons x es ih=>intro p;rw [List.cons_append,lastT];exact ih _
theorem pr_snoc (l:List (Int × Int)) (e:Ed):∀ (es:List Ed) (p:Nat),prE l p (es ++ [e])=prE l p es ++ (l.drop (lastT p es)).take (e.1.toNat - lastT p es) ++ (e.2.2.map fun a=>(a,-1)):=by
 intro es
 induction es with
 | nil=>intro p;simp [prE,lastT]
 | cons x es ih=>intro p;rw [List.cons_append,prE,prE,lastT,ih];simp only [List.append_assoc]
theorem rg_snoc (n:Int) (e:Ed):∀ (es:List Ed) (p:Nat),rg n p (es ++ [e])=true ↔ rg n p es=true∧((lastT p es:Int)≤e.1∧e.1≤e.2.1∧e.2.1≤n):=by
 intro es
 induction es with
 | nil=>intro p;rw [List.nil_append,rg_cons,lastT];simp [rg]
 | cons x es ih =>
   intro p
   rw [List.cons_append,rg_cons,rg_cons,lastT]
   constructor
   ·rintro ⟨h1,h2⟩
    have ex:x.2.1=((x.2.1.toNat:Nat):Int):=by omega
    rw [ex] at h2
    have h3:=(ih _).1 h2
    rw [← ex] at h3
    exact ⟨⟨h1,h3.1⟩,h3.2⟩
   ·rintro ⟨⟨h1,h2⟩,h3⟩
    have ex:x.2.1=((x.2.1.toNat:Nat):Int):=by omega
    refine ⟨h1,?_⟩
    rw [ex]
    refine (ih _).2 ⟨?_,h3⟩
    rwa [← ex]
theorem ln_puts (enc:Int) (l:List (Int × Int)):∀ (es:List Ed) (p:Nat),ln enc (puts es)≤ln enc ((apE l p es).map Prod.fst):=by
 intro es
 induction es with
 | nil=>intro p;simp [puts,ln_nil]
 | cons e es ih =>
   intro p
   have e1:puts (e :: es)=e.2.2 ++ puts es:=by simp [puts]
   have e2:(e.2.2.map fun a=>(a,(-1:Int))).map Prod.fst=e.2.2:=by simp [List.map_map,Function.comp_def]
   rw [e1,apE,List.map_append,List.map_append,ln_app,ln_app,ln_app,e2]
   have:=ih e.2.1.toNat
   omega
theorem good_ch (enc lim:Int) (l:List (Int × Int)) (es:List Ed) (h7:es.length≤70000):chA enc lim l es=0 ↔ rg l.length 0 es=true∧(∀ a ∈ puts es,Cx.fits enc a=true)∧(ln enc ((apE l 0 es).map Prod.fst):Int)≤lim:=by
 have hp:=ln_puts enc l es 0
 constructor
 ·intro h
  have hc:ckA enc lim l.length es=0:=by
   unfold chA at h
   split at h
   ·assumption
   ·exact h
  obtain ⟨_,h2,h3,_⟩:=ck_zero hc
  refine ⟨h2,h3,?_⟩
  unfold chA at h
  rw [if_pos hc] at h
  split at h
  ·omega
  ·omega
 ·rintro ⟨h1,h2,h3⟩
  have hc:ckA enc lim l.length es=0:=by
   unfold ckA
   rw [if_neg (by omega),if_pos h1]
   unfold cpA
   rw [if_pos h2,if_neg (by omega)]
  unfold chA
  rw [if_pos hc,if_neg (by omega)]
theorem pr_len (n:Int) (l:List (Int × Int)):∀ (es:List Ed) (p:Nat),rg n p es=true→(prE l p es).length + p≤lastT p es + (puts es).length:=by
 intro es
 induction es with
 | nil=>intro p _;simp [prE,lastT,puts]
 | cons x es ih =>
   intro p hr
   rw [rg_cons] at hr
   obtain ⟨⟨h1,h2,h3⟩,h4⟩:=hr
   have ex:x.2.1=((x.2.1.toNat:Nat):Int):=by omega
   rw [ex] at h4
   have i1:=ih _ h4
   have e1:puts (x :: es)=x.2.2 ++ puts es:=by simp [puts]
   rw [prE,lastT,e1]
   simp only [List.length_append,List.length_take,List.length_drop,List.length_map]
   omega
end Go.Proofs.YtnkblcipbmliaaaGreat.P

namespace Go.Proofs.YtnkblcipbmliaaaGreat.P
open Go.RowKit
def nw (l:List Int):List (Int × Int):=l.map fun a=>(a,-1)
def ins (l:List Int) (q:Nat) (x:Int):List Int:=l.take q ++ (x :: l.drop q)
structure MlI (enc:Int) (t:Nat) (w:World) (lv:Value) (l:List Int) (wr:World):Prop where
 tx:∃ ps,Tx enc 65536 [] wr t ps∧sh enc ps=nw l
 own:OwnI wr w.heap.size lv l
 nil:l=[]→lv=.slice none 0 0
 fit:∀ a ∈ l,Cx.fits enc a=true
 bel:Below w.heap.size w wr
 tl:w.heap.size≤t
theorem MlI.ext {enc:Int} {t:Nat} {w:World} {lv:Value} {l:List Int} {wr w':World} (h:MlI enc t w lv l wr) (hb:Below wr.heap.size wr w'):MlI enc t w lv l w':=by
 obtain ⟨ps,h1,h2⟩:=h.tx
 exact ⟨⟨ps,h1.ext hb,h2⟩,h.own.ext hb,h.nil,h.fit,ext_trans h.bel hb,h.tl⟩
theorem OwnI.kpt {w w':World} {base t:Nat} {v:Value} {zs:List Int} (h:OwnI w base v zs) (hk:Kps (fun k=>k=t) w w') (ht:Typ 116 w t):OwnI w' base v zs:=by
 obtain ⟨h1,h2⟩:=id h
 refine ⟨h1,?_⟩
 rcases h2 with h2 | ⟨k,cap,cur,hv,hb,hgg,r⟩
 ·exact .inl h2
 ·refine .inr ⟨k,cap,cur,hv,hb,(hk.same k (Array.getElem?_eq_some_iff.1 hgg).1 (fun e=>?_)).trans hgg,r⟩
  subst e
  exact absurd (Typ.uniq (T:=3) ⟨_,hgg⟩ ht) (by decide)
theorem Tx.typ {enc lim:Int} {L:List Int} {w:World} {t:Nat} {ps:List PG} (h:Tx enc lim L w t ps):Typ 116 w t:=by
 obtain ⟨_,_,h1,_⟩:=h.ex
 exact ⟨_,h1⟩
section
variable {P:Program} {W:World} {ops:Array Oper} {rest:List Oper} {o:Oper} {a:Act} {Q:Exit→Act→World→Prop}
end
theorem Addr.add_zero_add (g q j:Nat):((⟨g,0,none⟩:Addr).add (q + j))=(⟨g,q,none⟩:Addr).add j:=by
 unfold Addr.add
 split <;> split <;> simp <;> omega
theorem OwnI.row {w:World} {base:Nat} {v:Value} {zs:List Int} (h:OwnI w base v zs) (hn:zs≠[]):∃ g cap,v=.slice (some ⟨g,0,none⟩) zs.length cap∧g < w.heap.size∧zs.length≤cap∧cap≤9223372036854775807∧∀ j u,(zs.map (Value.int .i64))[j]?=some u→w.cell? ((⟨g,0,none⟩:Addr).add j)=some u:=by
 rcases h.2 with ⟨_,h2⟩ | ⟨g,cap,cur,hv,hb,hg,h3,h4,h5,h6⟩
 ·exact absurd (List.length_eq_zero_iff.1 h2) hn
 ·exact ⟨g,cap,hv,(Array.getElem?_eq_some_iff.1 hg).1,h3,by unfold maxLen at h4;exact h4,World.ownsRow.cells h (by rw [hv];simp [Value.ownBlock])⟩
set_option maxRecDepth 100000 in
set_option maxHeartbeats 2000000 in
theorem Fits_any (enc a:Int) (w:World):Calls Tryz.prog 18 #[.int .i64 enc,.int .i64 a] w fun e w'=>e=.returned (.bool (Cx.fits enc a))∧Below w.heap.size w w':=by
 have SZ:=hidIt (Go.Proofs.YtnkblcipbmliaaaGreat.Size_any enc a w)
 cases hf:Cx.fits enc a with
 | true =>
   have hs:0 < Cx.size enc a:=by rw [size_fit enc a hf];have:=(Cx.put_len enc a).1;omega
   go_enter Tryz.func18,Tryz.ntmps18
   go_wp2_with (go_at_call 53;refine SZ.out.mono ?_;rintro e w1 ⟨rfl,hb1⟩;have HB1:=hidIt hb1;clear hb1;(try dsimp only))
   go_ret
   exact ⟨rfl,HB1.out⟩
 | false =>
   have hs:¬ 0 < Cx.size enc a:=by unfold Cx.size;rw [hf];simp
   go_enter Tryz.func18,Tryz.ntmps18
   go_wp2_with (go_at_call 53;refine SZ.out.mono ?_;rintro e w1 ⟨rfl,hb1⟩;have HB1:=hidIt hb1;clear hb1;(try dsimp only))
   go_ret
   exact ⟨rfl,HB1.out⟩
end Go.Proofs.YtnkblcipbmliaaaGreat.P

namespace Go.Proofs.YtnkblcipbmliaaaGreat.P
open Go.RowKit
section
variable {P:Program} (W:World)
theorem wp_append_opt {op:Oper} {a:Act} {K:Act→World→Prop} {Q:Exit→Act→World→Prop} (s x:Operand) (t:TypeId) (ho:op.op=.call { callee:=.builtin .append,args:=#[s,x],argTypes:=#[t,t] })
  (base:Nat) (hinf:(P.info? 3).map (fun i=>(i.zero,i.size,i.bytes))=some (some (.int .i64 0),1,8)) (ht:P.underlying t=some (.slice 3))
  (v:Value) (zs:List Int) (hs:a.eval s=v) (hown:OwnI W base v zs) (ys:List Int) (ao:Option Addr) (m c:Nat) (hx:a.eval x=.slice ao m c) (hm:m=ys.length) (hys:(ao=none∧c=0∧ys=[])∨∃ ad,ao=some ad∧∀ j u,(ys.map (Value.int .i64))[j]?=some u→W.cell? (ad.add j)=some u) (hl:zs.length + ys.length≤1099511627776) (hbase:base≤W.heap.size)
  (h:∀ v' w',OwnI w' base v' (zs ++ ys)→W.grownBy w' v.ownBlock→(v'.ownBlock=v.ownBlock∨v'.ownBlock=some W.heap.size)→K (a.put op.dst v') w'):op.wp P a W K Q:=by
 rcases hys with ⟨rfl,rfl,rfl⟩ | ⟨ad,rfl,hc⟩
 ·obtain ⟨i0,hi,hz0,hz1,hz2⟩:=info_parts hinf
  subst hm
  have hrun:=run_append_owned_none (P:=P) (w:=W) base t op.type 3 i0 1 ht hi v zs.length (zs.map (Value.int .i64)) hown
  unfold Oper.wp execOp
  simp only [List.length_nil] at hx
  simp only [ho,resolve,invoke,builtin,Sem.run_bind,Sem.run_pure,Result.andThen_ok,List.map_toArray,List.map_cons,List.map_nil,hs,hx,hrun]
  exact h v W (by rw [List.append_nil];exact hown) ⟨rfl,rfl,rfl,Nat.le_refl _,fun _ _ _=>rfl⟩ (.inl rfl)
 ·exact wp_ints_blk W s x t ho base hinf ht v zs hs hown ys ad m c hx hm hc hl hbase h
end
theorem grown_other {w w':World} {base:Nat} {v:Value} {zs:List Int} (h:OwnI w base v zs) (hg:w.grownBy w' v.ownBlock) {b:Nat} {cs:Array Value} {T:TypeId} {z:Nat × Nat} (hT:T≠3) (hb:w.heap[b]?=some (.cells cs T (0,0))):w'.heap[b]?=some (.cells cs T (0,0)) :=
 have _:=z
 (hg.block b (Array.getElem?_eq_some_iff.1 hb).1 (fun e=>hT (Typ.uniq (T:=T) ⟨_,hb⟩ (h.typ2 b e.symm).1))).trans hb
theorem set_other {w:World} {g b i:Nat} {v:Value} {o:Obj} (hb:w.heap[b]?=some o) {cs:Array Value} {T:TypeId} (hg:w.heap[g]?=some (.cells cs T (0,0))) (hn:b≠g) (hi:i < cs.size):(w.setCell ⟨g,i,none⟩ v).heap[b]?=some o:=by
 have _:=hi
 obtain ⟨_,p2⟩:=set1 hg i v
 exact (p2.block b (Array.getElem?_eq_some_iff.1 hb).1 (fun e=>hn (Option.some.inj e))).trans hb
theorem GI.stepA {w:World} {va vt vb na nt:Value} {As Ts:List Int} {W:World} (h:GI w va vt vb na nt As Ts W) (ys:List Int) (v':Value) (w':World) (ho:OwnI w' w.heap.size v' (As ++ ys)) (hg:W.grownBy w' na.ownBlock) (hb:v'.ownBlock=na.ownBlock∨v'.ownBlock=some W.heap.size) :
  w'.heap[w.heap.size]?=some (.cells #[va,vt,vb] 36 (0,0))∧w'.heap[w.heap.size + 2]?=some (.cells #[na,nt,.slice none 0 0] 36 (0,0))∧GI w va vt vb v' nt (As ++ ys) Ts (w'.setCell ⟨w.heap.size + 2,0,none⟩ v') :=
 ⟨grown_other (z:=(0,0)) h.oa hg (by decide) h.sb,grown_other (z:=(0,0)) h.oa hg (by decide) h.nb,h.appA ys v' w' ho hg hb⟩
theorem GI.stepT {w:World} {va vt vb na nt:Value} {As Ts:List Int} {W:World} (h:GI w va vt vb na nt As Ts W) (ys:List Int) (v':Value) (w':World) (ho:OwnI w' w.heap.size v' (Ts ++ ys)) (hg:W.grownBy w' nt.ownBlock) (hb:v'.ownBlock=nt.ownBlock∨v'.ownBlock=some W.heap.size) :
  w'.heap[w.heap.size]?=some (.cells #[va,vt,vb] 36 (0,0))∧w'.heap[w.heap.size + 2]?=some (.cells #[na,nt,.slice none 0 0] 36 (0,0))∧GI w va vt vb na v' As (Ts ++ ys) (w'.setCell ⟨w.heap.size + 2,1,none⟩ v') :=
 ⟨grown_other (z:=(0,0)) h.ot hg (by decide) h.sb,grown_other (z:=(0,0)) h.ot hg (by decide) h.nb,h.appT ys v' w' ho hg hb⟩
def SnO (w:World) (base:Nat) (va vt vb:Value) (az ts bs:List Int):Prop:=OwnI w base va az∧OwnI w base vt ts∧Rd .u8 w vb bs
theorem SnO.ext {w w':World} {base:Nat} {va vt vb:Value} {az ts bs:List Int} (h:SnO w base va vt vb az ts bs) (hb:Below w.heap.size w w'):SnO w' base va vt vb az ts bs:=⟨h.1.ext hb,h.2.1.ext hb,h.2.2.ext hb⟩
def GdR (base:Nat) (enc lim:Int) (l:List (Int × Int)) (es:List Ed) (w:World) (e:Ending) (w':World):Prop :=
 ∃ xa xt xb,e=.returned (.tuple #[.agg #[xa,xt,xb],.bool (decide (chA enc lim l es=0))])∧Hid (SnO w' base xa xt xb ((chT enc lim l es).map Prod.fst) ((chT enc lim l es).map Prod.snd) (Cx.encB enc ((chT enc lim l es).map Prod.fst)))∧Below w.heap.size w w'
theorem GI.refuse {base:Nat} {enc lim:Int} {l:List (Int × Int)} {es:List Ed} {w:World} {va vt vb na nt:Value} {As Ts:List Int} {wr:World} (h:GI w va vt vb na nt As Ts wr) (hS:SnO w base va vt vb (l.map Prod.fst) (l.map Prod.snd) (Cx.encB enc (l.map Prod.fst))) (hc:chA enc lim l es≠0) (z:World) (hz:z=((wr.setCell ⟨w.heap.size + 1,0,none⟩ va).setCell ⟨w.heap.size + 1,1,none⟩ vt).setCell ⟨w.heap.size + 1,2,none⟩ vb) :
  (z.cell? ⟨w.heap.size + 1,0,none⟩=some va∧z.cell? ⟨w.heap.size + 1,1,none⟩=some vt∧z.cell? ⟨w.heap.size + 1,2,none⟩=some vb)∧GdR base enc lim l es w (.returned (.tuple #[.agg #[va,vt,vb],.bool false])) z:=by
 obtain ⟨p1,p2⟩:=put3 h.rb va vt vb
 rw [← hz] at p1 p2
 have hb:Below w.heap.size w z:=h.bel.trans (p2.below h.bel.size (fun k hk=>by omega))
 refine ⟨⟨?_,?_,?_⟩,va,vt,vb,by rw [decide_eq_false hc],?_,hb⟩
 ·rw [cell_of_row z _ _ _ _ _ p1];rfl
 ·rw [cell_of_row z _ _ _ _ _ p1];rfl
 ·rw [cell_of_row z _ _ _ _ _ p1];rfl
 ·have e:chT enc lim l es=l:=by unfold chT;rw [if_neg hc]
  rw [e]
  exact hS.ext hb
theorem GI.finish {base:Nat} {enc lim:Int} {l:List (Int × Int)} {es:List Ed} {w:World} {va vt vb na nt:Value} {wr:World} (hbase:base≤w.heap.size) (xb:Value) (h:GI w va vt vb na nt ((apE l 0 es).map Prod.fst) ((apE l 0 es).map Prod.snd) wr) (hx:Rd .u8 wr xb (Cx.encB enc ((apE l 0 es).map Prod.fst))) (hxo:∀ b o n c,xb=.slice (some ⟨b,o,none⟩) n c→b≠w.heap.size + 1∧b≠w.heap.size + 2) (hc:chA enc lim l es=0) (y z:World) (hy:y=wr.setCell ⟨w.heap.size + 2,2,none⟩ xb) (hz:z=((y.setCell ⟨w.heap.size + 1,0,none⟩ na).setCell ⟨w.heap.size + 1,1,none⟩ nt).setCell ⟨w.heap.size + 1,2,none⟩ xb) :
  (y.cell? ⟨w.heap.size + 2,0,none⟩=some na∧y.cell? ⟨w.heap.size + 2,1,none⟩=some nt∧y.cell? ⟨w.heap.size + 2,2,none⟩=some xb∧(∀ i,y.frozen? ⟨w.heap.size + 1,i,none⟩=false)∧y.cell? ⟨w.heap.size + 1,0,none⟩=some (.slice none 0 0)∧y.cell? ⟨w.heap.size + 1,1,none⟩=some (.slice none 0 0)∧y.cell? ⟨w.heap.size + 1,2,none⟩=some (.slice none 0 0))∧(z.cell? ⟨w.heap.size + 1,0,none⟩=some na∧z.cell? ⟨w.heap.size + 1,1,none⟩=some nt∧z.cell? ⟨w.heap.size + 1,2,none⟩=some xb)∧GdR base enc lim l es w (.returned (.tuple #[.agg #[na,nt,xb],.bool true])) z:=by
 obtain ⟨q1,q2⟩:=set1 h.nb 2 xb
 rw [← hy] at q1 q2
 have rb:y.heap[w.heap.size + 1]?=some (.cells #[.slice none 0 0,.slice none 0 0,.slice none 0 0] 36 (0,0)):=(q2.block _ (Array.getElem?_eq_some_iff.1 h.rb).1 (fun e=>by have:=Option.some.inj e;omega)).trans h.rb
 obtain ⟨p1,p2⟩:=put3 rb na nt xb
 rw [← hz] at p1 p2
 have kk:Kps (fun k=>k=w.heap.size + 1∨k=w.heap.size + 2) wr z:=(Kps.grown (o:=fun k=>k=w.heap.size + 1∨k=w.heap.size + 2) q2 fun j e _=>.inr (Option.some.inj e).symm).trans (p2.mono (p:=fun k=>k=w.heap.size + 1∨k=w.heap.size + 2) fun _ _ e=>.inl e) fun _ _ e=>e
 have hb:Below w.heap.size w z:=h.bel.trans (kk.below h.bel.size (fun k hk=>by rcases hk with rfl | rfl <;> omega))
 have so:∀ {v:Value} {zs:List Int},OwnI wr w.heap.size v zs→OwnI z w.heap.size v zs:=fun ho=>ownsRow_same ho fun b hb'=>kk.same b hb'.lt (fun e=>by
  rcases e with rfl | rfl
  ·exact absurd (hb'.uniq ⟨_,h.rb⟩) (by decide)
  ·exact absurd (hb'.uniq ⟨_,h.nb⟩) (by decide))
 refine ⟨⟨?_,?_,?_,?_,?_,?_,?_⟩,⟨?_,?_,?_⟩,na,nt,xb,by rw [decide_eq_true hc],?_,hb⟩
 ·rw [cell_of_row y _ _ _ _ _ q1];rfl
 ·rw [cell_of_row y _ _ _ _ _ q1];rfl
 ·rw [cell_of_row y _ _ _ _ _ q1];rfl
 ·intro i;simp [World.frozen?,rb]
 ·rw [cell_of_row y _ _ _ _ _ rb];rfl
 ·rw [cell_of_row y _ _ _ _ _ rb];rfl
 ·rw [cell_of_row y _ _ _ _ _ rb];rfl
 ·rw [cell_of_row z _ _ _ _ _ p1];rfl
 ·rw [cell_of_row z _ _ _ _ _ p1];rfl
 ·rw [cell_of_row z _ _ _ _ _ p1];rfl
 ·have e:chT enc lim l es=apE l 0 es:=by unfold chT;rw [if_pos hc]
  rw [e]
  refine ⟨(so h.oa).mono hbase,(so h.ot).mono hbase,?_⟩
  obtain ⟨ao,cap,h1,h2,h3,h4⟩:=hx
  refine ⟨ao,cap,h1,h2,h3,fun hn=>?_⟩
  obtain ⟨b,off,k1,k2,k3⟩:=h4 hn
  refine ⟨b,off,k1,Nat.lt_of_lt_of_le k2 kk.size,fun i hi=>?_⟩
  rw [← k3 i hi]
  obtain ⟨n1,n2⟩:=hxo b off _ _ (by rw [h1,k1])
  exact World.cell?_of_block (kk.same b k2 (fun e=>by rcases e with e | e <;> omega))
theorem OwnI.cutv {w:World} {base:Nat} {a0:Option Addr} {n c0:Nat} {zs:List Int} (h:OwnI w base (.slice a0 n c0) zs):(a0=none∧c0=0∧zs=[])∨∃ g,a0=some ⟨g,0,none⟩∧zs.length≤c0∧c0≤9223372036854775807∧∀ (A m:Nat) (w':World),Below w.heap.size w w'→∀ j u,(((zs.drop A).take m).map (Value.int .i64))[j]?=some u→w'.cell? ((⟨g,A,none⟩:Addr).add j)=some u:=by
 rcases h.2 with ⟨e1,e2⟩ | ⟨g,cap,cur,hv,hb,hg,h3,h4,h5,h6⟩
 ·simp only [Value.slice.injEq] at e1
  exact .inl ⟨e1.1,e1.2.2,List.length_eq_zero_iff.1 e2⟩
 ·have hcells:∀ j u,(zs.map (Value.int .i64))[j]?=some u→w.cell? ((⟨g,0,none⟩:Addr).add j)=some u:=World.ownsRow.cells h (by rw [hv];simp [Value.ownBlock])
  simp only [Value.slice.injEq] at hv
  obtain ⟨rfl,rfl,rfl⟩:=hv
  refine .inr ⟨g,rfl,h3,by unfold maxLen at h4;exact h4,fun A m w' hbw j u hj=>?_⟩
  have hlt:=(Array.getElem?_eq_some_iff.1 hg).1
  rw [← Addr.add_zero_add]
  refine (hbw.cell (p:=(⟨g,0,none⟩:Addr).add (A + j)) (by unfold Addr.add;split <;> exact hlt)).trans (hcells (A + j) u ?_)
  rw [List.getElem?_map] at hj ⊢
  rw [List.getElem?_take] at hj
  split at hj
  ·rwa [List.getElem?_drop] at hj
  ·simp at hj
end Go.Proofs.YtnkblcipbmliaaaGreat.P

namespace Go.Proofs.YtnkblcipbmliaaaGreat.P
open Go.RowKit
end Go.Proofs.YtnkblcipbmliaaaGreat.P

namespace Go.Proofs.YtnkblcipbmliaaaGreat.P
open Go.RowKit
def nb (b:Int) (cr:Bool) (a:Int):Int:=b + (if a=10∨a=13 then 1 else 0) - (if cr=true∧a=10 then 1 else 0)
end Go.Proofs.YtnkblcipbmliaaaGreat.P

namespace Go.Proofs.YtnkblcipbmliaaaGreat.P
open Go.RowKit
end Go.Proofs.YtnkblcipbmliaaaGreat.P

namespace Go.Proofs.YtnkblcipbmliaaaGreat.P
open Go.RowKit
theorem rdi_new (w:World) (x:Int):∀ j u,([x].map (Value.int .i64))[j]?=some u→(w.alloc (.cells #[.int .i64 x] 3)).cell? ((⟨w.heap.size,0,none⟩:Addr).add j)=some u:=fun j u hj=>by
 cases j with
 | zero =>
   simp only [List.map_cons,List.getElem?_cons_zero,Option.some.injEq] at hj
   subst hj
   rw [show ((⟨w.heap.size,0,none⟩:Addr).add 0)=⟨w.heap.size,0,none⟩ from rfl,cell_of_row _ _ _ _ _ _ (heap_alloc_new _ _)]
   rfl
 | succ j=>simp at hj
end Go.Proofs.YtnkblcipbmliaaaGreat.P
