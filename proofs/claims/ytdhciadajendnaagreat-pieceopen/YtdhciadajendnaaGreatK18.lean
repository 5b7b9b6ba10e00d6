import Derived.Test.YtdhciadajendnaaGreatK17
import Derived.Test.YtdhciadajendnaaGreatK06
import Derived.OwnWalk
import Derived.Deep.CutRange
import Derived.Laws.CopyOwn
set_option maxRecDepth 100000
namespace Go.Proofs.YtdhciadajendnaaGreat.P
open Go.RowKit
def Typ (T:TypeId) (w:World) (b:Nat):Prop:=∃ cs,w.heap[b]?=some (.cells cs T (0,0))
theorem Typ.lt {T:TypeId} {w:World} {b:Nat} (h:Typ T w b):b < w.heap.size:=by obtain ⟨_,h⟩:=h;exact (Array.getElem?_eq_some_iff.1 h).1
theorem Typ.uniq {T U:TypeId} {w:World} {b:Nat} (h:Typ T w b) (k:Typ U w b):T=U:=by
 obtain ⟨_,h⟩:=h
 obtain ⟨_,k⟩:=k
 rw [h] at k
 simp only [Option.some.injEq,Obj.cells.injEq] at k
 exact k.2.1
def RwU (w:World) (b o:Nat) (zs:List Int):Prop:=∃ cs:Array Value,w.heap[b]?=some (.cells cs 5 (0,0))∧(cs.toList.drop o).take zs.length=zs.map (Value.int .u8)
theorem RwU.typ {w:World} {b o:Nat} {zs:List Int} (h:RwU w b o zs):Typ 5 w b:=by obtain ⟨cs,h,_⟩:=h;exact ⟨cs,h⟩
theorem RwU.lt {w:World} {b o:Nat} {zs:List Int} (h:RwU w b o zs):b < w.heap.size:=h.typ.lt
theorem RwU.same {w w':World} {b o:Nat} {zs:List Int} (h:RwU w b o zs) (hb:w'.heap[b]?=w.heap[b]?):RwU w' b o zs:=by obtain ⟨cs,h1,h2⟩:=h;exact ⟨cs,by rw [hb];exact h1,h2⟩
theorem RwU.ext {w w':World} {b o:Nat} {zs:List Int} (h:RwU w b o zs) (hb:Below w.heap.size w w'):RwU w' b o zs:=h.same (hb.block b h.lt)
theorem RwU.rd {w:World} {b o:Nat} {zs:List Int} (h:RwU w b o zs) (c:Nat) (h1:zs.length≤c) (h2:c≤9223372036854775807):Rd .u8 w (.slice (some ⟨b,o,none⟩) zs.length c) zs:=by
 obtain ⟨cs,h3,h4⟩:=h
 refine ⟨_,c,rfl,h1,by unfold maxLen;exact h2,fun _=>⟨b,o,rfl,(Array.getElem?_eq_some_iff.1 h3).1,fun i hi=>?_⟩⟩
 rw [cell_of_row w b _ cs _ _ h3]
 have:=congrArg (fun l=>l[i]?) h4
 simp only [List.getElem?_take,List.getElem?_map,if_pos hi,List.getElem?_drop] at this
 rw [List.getElem?_eq_getElem hi] at this ⊢
 simpa using this
theorem RwU.part {w:World} {b o:Nat} {zs:List Int} (h:RwU w b o zs) (i n:Nat) (hi:i + n≤zs.length):RwU w b (o + i) ((zs.drop i).take n):=by
 obtain ⟨cs,h3,h4⟩:=h
 refine ⟨cs,h3,?_⟩
 have e:(((cs.toList.drop o).take zs.length).drop i).take n=((zs.map (Value.int .u8)).drop i).take n:=by rw [h4]
 rw [List.drop_take,List.drop_drop,List.take_take,Nat.min_eq_left (by omega)] at e
 rw [List.length_take,List.length_drop,Nat.min_eq_left (by omega),e]
 simp
theorem RwU.of {w:World} {b:Nat} {zs:List Int} (h:w.heap[b]?=some (.cells (zs.map (Value.int .u8)).toArray 5 (0,0))):RwU w b 0 zs:=⟨_,h,by show ((zs.map (Value.int .u8)).drop 0).take _=_;rw [List.drop_zero,List.take_of_length_le (by rw [List.length_map];exact Nat.le_refl _)]⟩
structure Pc (enc:Int) (L:List Int) (w:World) (x:It) (g:List Int):Prop where
 gr:Gr enc g
 mem:∃ b o,x.p=some ⟨b,o,none⟩∧RwU w b o (Cx.encB enc g)
 xn:x.n=ln enc g
 xc:x.c=ln enc g
 sp:x.sp=spn enc g
 pl:x.pl=-1∨∃ i:Nat,x.pl=(off enc L i:Nat)∧((Cx.dec enc L).drop i).take g.length=g∧i + g.length≤(Cx.dec enc L).length
theorem Pc.same {enc:Int} {L:List Int} {w w':World} {x:It} {g:List Int} (h:Pc enc L w x g) (hb:∀ b,Typ 5 w b→w'.heap[b]?=w.heap[b]?):Pc enc L w' x g:=by
 obtain ⟨h1,⟨b,o,h2,h3⟩,h4,h5,h6,h7⟩:=h
 exact ⟨h1,⟨b,o,h2,h3.same (hb b h3.typ)⟩,h4,h5,h6,h7⟩
theorem Pc.ext {enc:Int} {L:List Int} {w w':World} {x:It} {g:List Int} (h:Pc enc L w x g) (hb:Below w.heap.size w w'):Pc enc L w' x g:=h.same fun b hb'=>hb.block b hb'.lt
theorem Pc.rd {enc:Int} {L:List Int} {w:World} {x:It} {g:List Int} (h:Pc enc L w x g) (hl:ln enc g≤4611686018427387904):Rd .u8 w (.slice x.p x.n x.c) (Cx.encB enc g):=by
 obtain ⟨h1,⟨b,o,h2,h3⟩,h4,h5,h6,h7⟩:=h
 rw [h2,h4,h5]
 exact h3.rd _ (Nat.le_refl _) (by omega)
theorem Pc.low {enc:Int} {L:List Int} {w:World} {x:It} {g:List Int} (h:Pc enc L w x g):-1≤x.pl:=by
 rcases h.pl with e | ⟨i,e,_⟩
 ·omega
 ·omega
theorem Pc.end {enc:Int} (he:Cx.En enc) {L:List Int} (hL:Byt L) {w:World} {x:It} {g:List Int} (h:Pc enc L w x g):x.pl + ln enc g≤max (L.length:Int) (ln enc g):=by
 rcases h.pl with e | ⟨i,e,h1,h2⟩
 ·omega
 ·have:=(Gr.load he hL h1 h2 h.gr.ne).2.2.2
  omega
abbrev PG:=It × List Int
def xsOf (ps:List PG):List It:=ps.map Prod.fst
def asOf (ps:List PG):List Int:=ps.flatMap Prod.snd
def sh (enc:Int) (ps:List PG):List (Int × Int):=ps.flatMap fun q=>ctn enc q.1.pl q.2
def Pcs (enc:Int) (L:List Int) (w:World) (ps:List PG):Prop:=∀ q ∈ ps,Pc enc L w q.1 q.2
theorem Pcs.ext {enc:Int} {L:List Int} {w w':World} {ps:List PG} (h:Pcs enc L w ps) (hb:Below w.heap.size w w'):Pcs enc L w' ps:=fun q hq=>(h q hq).ext hb
theorem Pcs.same {enc:Int} {L:List Int} {w w':World} {ps:List PG} (h:Pcs enc L w ps) (hb:∀ b,Typ 5 w b→w'.heap[b]?=w.heap[b]?):Pcs enc L w' ps:=fun q hq=>(h q hq).same hb
theorem Pcs.app {enc:Int} {L:List Int} {w:World} {a b:List PG} (h:Pcs enc L w a) (k:Pcs enc L w b):Pcs enc L w (a ++ b):=fun q hq=>(List.mem_append.1 hq).elim (h q) (k q)
theorem Pcs.nil (enc:Int) (L:List Int) (w:World):Pcs enc L w []:=fun _ h=>by cases h
theorem xsOf_app (a b:List PG):xsOf (a ++ b)=xsOf a ++ xsOf b:=by simp [xsOf]
theorem xsOf_len (a:List PG):(xsOf a).length=a.length:=by simp [xsOf]
theorem asOf_app (a b:List PG):asOf (a ++ b)=asOf a ++ asOf b:=by simp [asOf]
theorem sh_app (enc:Int) (a b:List PG):sh enc (a ++ b)=sh enc a ++ sh enc b:=by simp [sh]
theorem sh_one (enc:Int) (x:It) (g:List Int):sh enc [(x,g)]=ctn enc x.pl g:=by simp [sh]
theorem sh_cons (enc:Int) (q:PG) (a:List PG):sh enc (q :: a)=ctn enc q.1.pl q.2 ++ sh enc a:=by simp [sh]
theorem sh_fst (enc:Int) (a:List PG):(sh enc a).map Prod.fst=asOf a:=by
 induction a with
 | nil=>rfl
 | cons q a ih=>rw [sh_cons,List.map_append,ctn_fst,ih];simp [asOf]
theorem sh_len (enc:Int) (a:List PG):(sh enc a).length=(asOf a).length:=by rw [← sh_fst enc a,List.length_map]
theorem Pcs.fit {enc:Int} {L:List Int} {w:World} {ps:List PG} (h:Pcs enc L w ps):∀ a ∈ asOf ps,Cx.fits enc a=true:=by
 intro a ha
 simp only [asOf,List.mem_flatMap] at ha
 obtain ⟨q,hq,ha⟩:=ha
 exact (h q hq).gr.fit a ha
theorem Pcs.su {enc:Int} {L:List Int} {w:World} {ps:List PG} (h:Pcs enc L w ps):rA.su (xsOf ps)=spn enc (asOf ps):=by
 induction ps with
 | nil=>rfl
 | cons q ps ih =>
   rw [show xsOf (q :: ps)=q.1 :: xsOf ps from rfl,Alg.su_cons,ih (fun r hr=>h r (List.mem_cons_of_mem _ hr)),show asOf (q :: ps)=q.2 ++ asOf ps by simp [asOf],spn_app]
   have:=(h q List.mem_cons_self).sp
   show Rs.add q.1.sp _=_
   rw [this]
theorem Pcs.wt {enc:Int} {L:List Int} {w:World} {ps:List PG} (h:Pcs enc L w ps):wt (xsOf ps)≤4 * ln enc (asOf ps):=by
 induction ps with
 | nil=>exact Nat.zero_le _
 | cons q ps ih =>
   have hq:=h q List.mem_cons_self
   have i:=ih (fun r hr=>h r (List.mem_cons_of_mem _ hr))
   rw [show xsOf (q :: ps)=q.1 :: xsOf ps from rfl,wt_cons,show asOf (q :: ps)=q.2 ++ asOf ps by simp [asOf],ln_app,hq.sp]
   obtain ⟨k1,k2⟩:=spn_a enc q.2 hq.gr.fit
   have k3:=spn_b enc q.2
   have k4:=ln_ge enc q.2
   have k5:=hq.gr.pos
   omega
theorem Pcs.len {enc:Int} {L:List Int} {w:World} {ps:List PG} (h:Pcs enc L w ps):ps.length≤(asOf ps).length:=by
 induction ps with
 | nil=>exact Nat.le_refl _
 | cons q ps ih =>
   have i:=ih (fun r hr=>h r (List.mem_cons_of_mem _ hr))
   have k5:=(h q List.mem_cons_self).gr.pos
   rw [show asOf (q :: ps)=q.2 ++ asOf ps by simp [asOf],List.length_cons,List.length_append]
   omega
def mkp (enc:Int) (b o:Nat):Nat→List (List Int)→List PG
 | _,[]=>[]
 | pl,g :: gs=>(mkx enc b o pl g,g) :: mkp enc b o (pl + ln enc g) gs
theorem mkp_xs (enc:Int) (b o:Nat):∀ (gs:List (List Int)) (pl:Nat),xsOf (mkp enc b o pl gs)=mks enc b o pl gs:=by
 intro gs
 induction gs with
 | nil=>intro pl;rfl
 | cons g gs ih=>intro pl;rw [mkp,mks];show _ :: xsOf _=_;rw [ih]
theorem mkp_as (enc:Int) (b o:Nat):∀ (gs:List (List Int)) (pl:Nat),asOf (mkp enc b o pl gs)=gs.flatten:=by
 intro gs
 induction gs with
 | nil=>intro pl;rfl
 | cons g gs ih=>intro pl;rw [mkp,show asOf ((mkx enc b o pl g,g) :: mkp enc b o (pl + ln enc g) gs)=g ++ asOf (mkp enc b o (pl + ln enc g) gs) by simp [asOf],ih];rfl
theorem mkp_sh (enc:Int) (b o:Nat):∀ (gs:List (List Int)) (pl:Nat),sh enc (mkp enc b o pl gs)=ctn enc (pl:Nat) gs.flatten:=by
 intro gs
 induction gs with
 | nil=>intro pl;rfl
 | cons g gs ih =>
   intro pl
   rw [mkp,sh_cons,ih,List.flatten_cons,ctn_app enc _ _ _ (by omega)]
   congr 2
theorem mkp_pcs (enc:Int) (he:Cx.En enc) (L:List Int) (hL:Byt L) (w:World) (b o:Nat) (hR:RwU w b o L):∀ (gs:List (List Int)) (k:Nat),(∀ g ∈ gs,Gr enc g)→(Cx.dec enc L).drop k=gs.flatten→k≤(Cx.dec enc L).length→Pcs enc L w (mkp enc b o (off enc L k) gs):=by
 intro gs
 induction gs with
 | nil=>intro k _ _ _;exact Pcs.nil _ _ _
 | cons g gs ih =>
   intro k hg hk hkl
   have g1:=hg g List.mem_cons_self
   rw [List.flatten_cons] at hk
   have hlen:=congrArg List.length hk
   rw [List.length_drop,List.length_append] at hlen
   have e1:((Cx.dec enc L).drop k).take g.length=g:=by rw [hk,List.take_left' rfl]
   obtain ⟨_,k2,k3,k4⟩:=Gr.load he hL e1 (by omega) g1.ne
   rw [mkp]
   intro q hq
   rcases List.mem_cons.1 hq with rfl | hq
   ·refine ⟨g1,⟨b,o + off enc L k,rfl,?_⟩,rfl,rfl,rfl,.inr ⟨k,rfl,e1,by show k + g.length≤_;omega⟩⟩
    have:=hR.part (off enc L k) (ln enc g) k4
    rw [k2] at this
    exact this
   ·refine ih (k + g.length) (fun h hh=>hg h (List.mem_cons_of_mem _ hh)) ?_ (by omega) q (by rw [← k3];exact hq)
    rw [← List.drop_drop,hk,List.drop_left' rfl]
open Go.RowKit
theorem flat_set (x:It):∀ (xs:List It) (i:Nat),i < xs.length→flat (xs.set i x)=(((((((flat xs).set (i * 7) (.slice x.p x.n x.c)).set (i * 7 + 1) (.int .i64 x.pl)).set (i * 7 + 2) (.int .i64 x.sp.a)).set (i * 7 + 3) (.int .i64 x.sp.s)).set (i * 7 + 4) (.int .i64 x.sp.b)).set (i * 7 + 5) (.bool x.sp.lf)).set (i * 7 + 6) (.bool x.sp.cr):=by
 intro xs
 induction xs with
 | nil=>intro i h;simp at h
 | cons y xs ih =>
   intro i h
   cases i with
   | zero=>rfl
   | succ i =>
     rw [List.set_cons_succ,flat_cons,flat_cons,ih i (by simpa using h)]
     have hs:∀ (l:List Value) (r:Nat) (v:Value),(pcs y ++ l).set ((i + 1) * 7 + r) v=pcs y ++ l.set (i * 7 + r) v:=fun l r v=>by
      rw [List.set_append_right _ _ (by show 7≤_;omega)]
      congr 2
      show _ - 7=_
      omega
     have h0:=hs (flat xs) 0 (.slice x.p x.n x.c)
     simp only [Nat.add_zero] at h0
     rw [h0,hs,hs,hs,hs,hs,hs]
theorem put7 {T:TypeId} {w:World} {g:Nat} {cs:Array Value} (hg:w.heap[g]?=some (.cells cs T (0,0))) (o:Nat) (x:It) :
  let w':=(((((((w.setCell ⟨g,o,none⟩ (.slice x.p x.n x.c)).setCell ⟨g,o + 1,none⟩ (.int .i64 x.pl)).setCell ⟨g,o + 2,none⟩ (.int .i64 x.sp.a)).setCell ⟨g,o + 3,none⟩ (.int .i64 x.sp.s)).setCell ⟨g,o + 4,none⟩ (.int .i64 x.sp.b)).setCell ⟨g,o + 5,none⟩ (.bool x.sp.lf)).setCell ⟨g,o + 6,none⟩ (.bool x.sp.cr))
  w'.heap[g]?=some (.cells (((((((cs.setIfInBounds o (.slice x.p x.n x.c)).setIfInBounds (o + 1) (.int .i64 x.pl)).setIfInBounds (o + 2) (.int .i64 x.sp.a)).setIfInBounds (o + 3) (.int .i64 x.sp.s)).setIfInBounds (o + 4) (.int .i64 x.sp.b)).setIfInBounds (o + 5) (.bool x.sp.lf)).setIfInBounds (o + 6) (.bool x.sp.cr)) T (0,0))∧w.grownBy w' (some g):=by
 obtain ⟨h1,g1⟩:=set1 hg o (.slice x.p x.n x.c)
 obtain ⟨h2,g2⟩:=set1 h1 (o + 1) (.int .i64 x.pl)
 obtain ⟨h3,g3⟩:=set1 h2 (o + 2) (.int .i64 x.sp.a)
 obtain ⟨h4,g4⟩:=set1 h3 (o + 3) (.int .i64 x.sp.s)
 obtain ⟨h5,g5⟩:=set1 h4 (o + 4) (.int .i64 x.sp.b)
 obtain ⟨h6,g6⟩:=set1 h5 (o + 5) (.bool x.sp.lf)
 obtain ⟨h7,g7⟩:=set1 h6 (o + 6) (.bool x.sp.cr)
 exact ⟨h7,zgt (zgt (zgt (zgt (zgt (zgt g1 g2) g3) g4) g5) g6) g7⟩
def RwP (w:World) (b o:Nat) (xs:List It):Prop:=∃ cs:Array Value,w.heap[b]?=some (.cells cs 97 (0,0))∧(cs.toList.drop o).take (xs.length * 7)=flat xs
theorem RwP.typ {w:World} {b o:Nat} {xs:List It} (h:RwP w b o xs):Typ 97 w b:=by obtain ⟨cs,h,_⟩:=h;exact ⟨cs,h⟩
theorem RwP.lt {w:World} {b o:Nat} {xs:List It} (h:RwP w b o xs):b < w.heap.size:=h.typ.lt
theorem RwP.same {w w':World} {b o:Nat} {xs:List It} (h:RwP w b o xs) (hb:w'.heap[b]?=w.heap[b]?):RwP w' b o xs:=by obtain ⟨cs,h1,h2⟩:=h;exact ⟨cs,by rw [hb];exact h1,h2⟩
theorem RwP.ext {w w':World} {b o:Nat} {xs:List It} (h:RwP w b o xs) (hb:Below w.heap.size w w'):RwP w' b o xs:=h.same (hb.block b h.lt)
theorem RwP.cell {w:World} {b o:Nat} {xs:List It} (h:RwP w b o xs) (i:Nat) (hi:i < xs.length):(w.cell? ⟨b,o + i * 7,none⟩=some (.slice (xs[i]?.getD It.zero).p (xs[i]?.getD It.zero).n (xs[i]?.getD It.zero).c)∧w.cell? ⟨b,o + i * 7 + 1,none⟩=some (.int .i64 (xs[i]?.getD It.zero).pl)∧w.cell? ⟨b,o + i * 7 + 2,none⟩=some (.int .i64 (xs[i]?.getD It.zero).sp.a)∧w.cell? ⟨b,o + i * 7 + 3,none⟩=some (.int .i64 (xs[i]?.getD It.zero).sp.s)∧w.cell? ⟨b,o + i * 7 + 4,none⟩=some (.int .i64 (xs[i]?.getD It.zero).sp.b)∧w.cell? ⟨b,o + i * 7 + 5,none⟩=some (.bool (xs[i]?.getD It.zero).sp.lf)∧w.cell? ⟨b,o + i * 7 + 6,none⟩=some (.bool (xs[i]?.getD It.zero).sp.cr)):=by
 obtain ⟨cs,h3,h4⟩:=h
 have h5:∀ r,r < 7→w.cell? ⟨b,o + i * 7 + r,none⟩=(pcs (xs[i]?.getD It.zero))[r]?:=by
  intro r hr
  have h6:=flat_at xs i hi r hr
  rw [← h4,List.getElem?_take,if_pos (by omega),List.getElem?_drop] at h6
  rw [cell_of_row w b _ cs _ (0,0) h3,Nat.add_assoc]
  simpa using h6
 exact ⟨h5 0 (by omega),h5 1 (by omega),h5 2 (by omega),h5 3 (by omega),h5 4 (by omega),h5 5 (by omega),h5 6 (by omega)⟩
theorem RwP.tail {w:World} {b o:Nat} {x:It} {xs:List It} (h:RwP w b o (x :: xs)):RwP w b (o + 7) xs:=by
 obtain ⟨cs,h1,h2⟩:=h
 refine ⟨cs,h1,?_⟩
 have e:(((cs.toList.drop o).take ((x :: xs).length * 7)).drop 7)=(flat (x :: xs)).drop 7:=by rw [h2]
 rw [List.drop_take,List.drop_drop,flat_cons,List.length_cons,show (xs.length + 1) * 7 - 7=xs.length * 7 by omega] at e
 rw [e]
 rfl
theorem drop_set' (l:List Value) (o k:Nat) (v:Value):(l.set (o + k) v).drop o=(l.drop o).set k v:=by
 rw [List.drop_set,if_neg (by omega)]
 congr 1
 omega
theorem RwP.put {w:World} {b o:Nat} {xs:List It} (h:RwP w b o xs) (i:Nat) (hi:i < xs.length) (x:It) :
  let w':=(((((((w.setCell ⟨b,o + i * 7,none⟩ (.slice x.p x.n x.c)).setCell ⟨b,o + i * 7 + 1,none⟩ (.int .i64 x.pl)).setCell ⟨b,o + i * 7 + 2,none⟩ (.int .i64 x.sp.a)).setCell ⟨b,o + i * 7 + 3,none⟩ (.int .i64 x.sp.s)).setCell ⟨b,o + i * 7 + 4,none⟩ (.int .i64 x.sp.b)).setCell ⟨b,o + i * 7 + 5,none⟩ (.bool x.sp.lf)).setCell ⟨b,o + i * 7 + 6,none⟩ (.bool x.sp.cr))
  RwP w' b o (xs.set i x)∧w.grownBy w' (some b):=by
 obtain ⟨cs,h1,h2⟩:=h
 obtain ⟨k1,k2⟩:=put7 h1 (o + i * 7) x
 refine ⟨⟨_,k1,?_⟩,k2⟩
 simp only [Array.toList_setIfInBounds,List.length_set]
 simp only [Nat.add_assoc,drop_set',List.take_set]
 rw [h2,flat_set x xs i hi]
theorem OwnR.row {w:World} {base:Nat} {v:Value} {xs:List It} (h:OwnR w base 97 v xs) (hn:0 < xs.length):∃ g cap,v=.slice (some ⟨g,0,none⟩) xs.length cap∧base≤g∧g < w.heap.size∧xs.length≤cap∧cap≤9223372036854775807∧RwP w g 0 xs:=by
 obtain ⟨_,h2⟩:=h
 rcases h2 with ⟨_,h2⟩ | ⟨g,cap,cur,hv,hb,hg,h3,h4,h5,h6⟩
 ·omega
 ·exact ⟨g,cap,hv,hb,(Array.getElem?_eq_some_iff.1 hg).1,h3,by unfold maxLen at h4;exact h4,⟨cur,hg,by simpa using h6⟩⟩
theorem OwnR.set {w:World} {base g cap:Nat} {xs:List It} (h:OwnR w base 97 (.slice (some ⟨g,0,none⟩) xs.length cap) xs) (i:Nat) (hi:i < xs.length) (x:It) :
  let w':=(((((((w.setCell ⟨g,0 + i * 7,none⟩ (.slice x.p x.n x.c)).setCell ⟨g,0 + i * 7 + 1,none⟩ (.int .i64 x.pl)).setCell ⟨g,0 + i * 7 + 2,none⟩ (.int .i64 x.sp.a)).setCell ⟨g,0 + i * 7 + 3,none⟩ (.int .i64 x.sp.s)).setCell ⟨g,0 + i * 7 + 4,none⟩ (.int .i64 x.sp.b)).setCell ⟨g,0 + i * 7 + 5,none⟩ (.bool x.sp.lf)).setCell ⟨g,0 + i * 7 + 6,none⟩ (.bool x.sp.cr))
  OwnR w' base 97 (.slice (some ⟨g,0,none⟩) xs.length cap) (xs.set i x)∧w.grownBy w' (some g):=by
 obtain ⟨h0,h2⟩:=h
 rcases h2 with ⟨hv,_⟩ | ⟨g',cap',cur,hv,hb,hg,h3,h4,h5,h6⟩
 ·cases hv
 simp only [Value.slice.injEq,Option.some.injEq,Addr.mk.injEq] at hv
 obtain ⟨⟨hg',_⟩,_,hc'⟩:=hv
 subst hg'
 subst hc'
 obtain ⟨k1,k2⟩:=put7 hg (0 + i * 7) x
 refine ⟨⟨by rw [flat_len,List.length_set],.inr ⟨g,cap,_,by rw [List.length_set],hb,k1,by rw [List.length_set];exact h3,h4,?_,?_⟩⟩,k2⟩
 ·simpa using h5
 ·simp only [Array.toList_setIfInBounds,List.length_set,List.take_set,Nat.zero_add]
  rw [h6,flat_set x xs i hi]
open Go.RowKit
set_option maxHeartbeats 1000000 in
theorem copyOf_any (v:Value) (zs:List Int) (w:World) (h:Rd .u8 w v zs) (hl:zs.length≤1099511627776) :
  Calls Tryz.prog 50 #[v] w fun e w'=>e=.returned (.slice (some ⟨w.heap.size,0,none⟩) zs.length zs.length)∧w'.heap[w.heap.size]?=some (.cells (zs.map (Value.int .u8)).toArray 5 (0,0))∧Below w.heap.size w w':=by
 obtain ⟨i0,hi,hz0,hz1,hz2⟩:=info_parts Tryz.info_u8
 obtain ⟨ao,cap,rfl,h1,h2,h3⟩:=h
 have H3:=zh h3
 clear h3
 go_enter Tryz.func50,Tryz.ntmps50
 go_upto_region 2 with (refine wpList_make_full w rfl _ _ 22 rfl w.heap.size 5 i0 (.int .u8 0) 1 Tryz.underlying22 hi hz0 hz1 .i64 .i64 _ _ zs.length rfl rfl rfl rfl (by rw [hz2];omega) (by unfold maxLen;omega) (Nat.le_refl _) ?_;intro w1 hO hg;have HO:=zh hO;have HG:=zh hg;clear hO hg)
 obtain ⟨e1,hh⟩:=HO.out
 rcases hh with ⟨hv,_⟩ | ⟨g,cp,cur,hv,_,hcur,hcp1,hcp2,hcs,htk⟩
 ·cases hv
 simp only [Value.slice.injEq,Option.some.injEq,Addr.mk.injEq] at hv
 obtain ⟨⟨hg0,_,_⟩,_,hcp⟩:=hv
 subst hg0
 subst hcp
 have HCUR:=zh (show w1.heap[w.heap.size]?=some (.cells cur.toList.toArray 5 (0,0)) from hcur)
 have hlen:cur.toList.length=zs.length:=by rw [Array.length_toList,hcs,Nat.mul_one]
 have HB1:=zh (Below.grown (Below.refl w.heap.size w) HG.out (Nat.le_refl _) (fun k e=>by cases e))
 clear htk e1 hcur
 have HSRC:Hid (0 < (zs.map (Value.int .u8)).length→(some (⟨w.heap.size,0,none⟩:Addr))=some ⟨w.heap.size,0,none⟩∧∃ ad,ao=some ad∧∀ j u,(zs.map (Value.int .u8))[j]?=some u→w1.cell? (ad.add j)=some u):=fun hp=>by
  rw [List.length_map] at hp
  obtain ⟨b,off,rfl,hb,hc⟩:=H3.out (List.length_pos_iff.1 hp)
  refine ⟨rfl,_,rfl,fun j u hj=>?_⟩
  have hjl:j < zs.length:=by
   have:=(List.getElem?_eq_some_iff.1 hj).1
   rwa [List.length_map] at this
  rw [Addr.add_lit,HB1.out.cell (p:=⟨b,off + j,none⟩) hb,hc j hjl,← hj,List.getElem?_map,List.getElem?_eq_getElem hjl]
  rfl
 go_wp2_with (refine wpList_copy_splice rfl _ _ 22 22 rfl 5 Tryz.underlying22 (by rw [hi];simp [hz1]) _ _ _ _ _ _ rfl rfl w.heap.size 0 cur.toList 5 HCUR.out (zs.map (Value.int .u8)) (by simp) HSRC.out (by simp only [List.length_map];omega) (by simp [Value.oneCell']) w.heap.size w HB1.out (Nat.le_refl _) ?_;intro w2 hE hb2;have HE2:=zh hE.out;have HB2:=zh hb2;clear hE hb2)
 go_ret
 refine ⟨rfl,?_,HB2.out⟩
 have e:=HE2.out
 have es:splice cur.toList 0 (zs.map (Value.int .u8))=zs.map (Value.int .u8):=by
  unfold splice
  rw [List.take_zero,List.nil_append,List.drop_of_length_le (by rw [List.length_map];omega),List.append_nil]
 rw [es] at e
 exact e
end Go.Proofs.YtdhciadajendnaaGreat.P
