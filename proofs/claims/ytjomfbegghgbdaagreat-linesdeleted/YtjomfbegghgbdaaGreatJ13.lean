import Derived.Test.YtjomfbegghgbdaaGreatJ04
import Derived.Test.YtjomfbegghgbdaaGreatJ00
import Derived.Test.YtjomfbegghgbdaaGreatJ05
import Derived.Test.YtjomfbegghgbdaaGreatJ01
import Derived.Test.YtjomfbegghgbdaaGreatJ12
import Derived.OwnWalk
import Derived.Deep.CutRange
import Derived.Laws.CopyOwn
namespace Go.Proofs.YtjomfbegghgbdaaGreat.P
open Go.RowKit
structure Gr (enc:Int) (g:List Int):Prop where
 ne:g≠[]
 fit:∀ a ∈ g,Cx.fits enc a=true
 dec:Cx.dec enc (Cx.encB enc g)=g
def ln (enc:Int) (g:List Int):Nat:=(Cx.encB enc g).length
theorem ln_nil (enc:Int):ln enc []=0:=rfl
theorem ln_app (enc:Int) (a b:List Int):ln enc (a ++ b)=ln enc a + ln enc b:=by unfold ln;rw [Cx.encB_app,List.length_append]
theorem ln_one (enc a:Int):ln enc [a]=(Cx.put enc a).length:=by simp [ln,Cx.encB]
theorem ln_cons (enc a:Int) (l:List Int):ln enc (a :: l)=(Cx.put enc a).length + ln enc l:=by unfold ln;rw [Cx.encB_cons,List.length_append]
theorem ln_ge (enc:Int) (g:List Int):g.length≤ln enc g:=by
 induction g with
 | nil=>exact Nat.le_refl _
 | cons a g ih=>rw [ln_cons,List.length_cons];have:=(Cx.put_len enc a).1;omega
theorem ln_le (enc:Int) (g:List Int):ln enc g≤4 * g.length:=by
 induction g with
 | nil=>exact Nat.le_refl _
 | cons a g ih=>rw [ln_cons,List.length_cons];have:=(Cx.put_len enc a).2;omega
theorem encB_byt (enc:Int) (g:List Int) (h:∀ a ∈ g,Cx.fits enc a=true):Byt (Cx.encB enc g):=by
 induction g with
 | nil=>intro z hz;cases hz
 | cons a g ih =>
   rw [Cx.encB_cons]
   intro z hz
   rcases List.mem_append.1 hz with h1 | h1
   ·exact Cx.put_byt enc a (h a List.mem_cons_self) z h1
   ·exact ih (fun b hb=>h b (List.mem_cons_of_mem _ hb)) z h1
theorem size_fit (enc a:Int) (h:Cx.fits enc a=true):Cx.size enc a=(Cx.put enc a).length:=by unfold Cx.size;rw [if_pos h]
theorem Gr.one {enc a:Int} (he:Cx.En enc) (h:Cx.fits enc a=true):Gr enc [a]:=⟨by simp,by simpa using h,by rw [show Cx.encB enc [a]=Cx.put enc a by simp [Cx.encB]];exact Cx.dec_put enc a he h⟩
theorem Gr.snoc {enc a:Int} {g:List Int} (he:Cx.En enc) (hg:Gr enc g) (h:Cx.fits enc a=true) (hl:(Cx.lst enc (Cx.encB enc (g ++ [a]))).1=a):Gr enc (g ++ [a]):=by
 refine ⟨by simp,fun b hb=>(List.mem_append.1 hb).elim (hg.fit b) (fun e=>by rw [List.mem_singleton] at e;subst e;exact h),?_⟩
 have e:Cx.encB enc (g ++ [a])=Cx.encB enc g ++ Cx.put enc a:=by rw [Cx.encB_app];simp [Cx.encB]
 rw [e] at hl ⊢
 rw [Cx.dec_snoc enc he _ a (encB_byt enc g hg.fit) (Cx.put_byt enc a h) (Cx.put_ne enc a) hl,hg.dec]
theorem Gr.pos {enc:Int} {g:List Int} (h:Gr enc g):0 < g.length:=List.length_pos_iff.2 h.ne
theorem Gr.lpos {enc:Int} {g:List Int} (h:Gr enc g):0 < ln enc g:=Nat.lt_of_lt_of_le h.pos (ln_ge enc g)
theorem Gr.byt {enc:Int} {g:List Int} (h:Gr enc g):Byt (Cx.encB enc g):=encB_byt enc g h.fit
theorem spn_a (enc:Int) (g:List Int) (h:∀ a ∈ g,Cx.fits enc a=true):(spn enc g).a=g.length∧(spn enc g).s=ln enc g:=spn_as enc g h
theorem off_gr {enc:Int} {g:List Int} (h:Gr enc g) (j:Nat):off enc (Cx.encB enc g) j=ln enc (g.take j):=by unfold off;rw [h.dec];rfl
theorem Gr.cut {enc:Int} {g:List Int} (he:Cx.En enc) (h:Gr enc g) (n:Nat) (h0:0 < n) (hn:n < g.length):Gr enc (g.take n)∧Gr enc (g.drop n):=by
 obtain ⟨k1,k2,k3⟩:=Cx.dec_cut enc he n (Cx.encB enc g) h.byt (by rw [h.dec];omega)
 rw [h.dec] at k1 k2 k3
 have e:Cx.encB enc g=Cx.encB enc (g.take n) ++ Cx.encB enc (g.drop n):=by rw [← Cx.encB_app,List.take_append_drop]
 refine ⟨⟨fun e=>?_,fun a ha=>h.fit a (List.mem_of_mem_take ha),?_⟩,⟨fun e=>?_,fun a ha=>h.fit a (List.mem_of_mem_drop ha),?_⟩⟩
 ·have:=congrArg List.length e;rw [List.length_take,List.length_nil] at this;omega
 ·rw [e,List.take_left' rfl] at k3;exact k3
 ·have:=congrArg List.length e;rw [List.length_drop,List.length_nil] at this;omega
 ·rw [e,List.drop_left' rfl] at k2;exact k2
theorem Gr.load {enc:Int} (he:Cx.En enc) {L:List Int} (hL:Byt L) {g:List Int} {i:Nat} (hg:((Cx.dec enc L).drop i).take g.length=g) (hi:i + g.length≤(Cx.dec enc L).length) (hn:g≠[]) :
  Gr enc g∧(L.drop (off enc L i)).take (ln enc g)=Cx.encB enc g∧off enc L i + ln enc g=off enc L (i + g.length)∧off enc L i + ln enc g≤L.length:=by
 obtain ⟨b1,b2⟩:=Cx.back_all enc he _ L (Nat.le_refl _) hL
 obtain ⟨k1,k2,k3⟩:=Cx.dec_cut enc he i L hL (by omega)
 have e0:(Cx.encB enc ((Cx.dec enc L).take i)).length=off enc L i:=rfl
 rw [e0] at k1 k2 k3
 have hfit:∀ a ∈ g,Cx.fits enc a=true:=fun a ha=>by rw [← hg] at ha;exact b2 a (List.mem_of_mem_drop (List.mem_of_mem_take ha))
 obtain ⟨m1,m2,m3⟩:=Cx.dec_cut enc he g.length (L.drop (off enc L i)) (hL.drop _) (by rw [k2,List.length_drop];omega)
 rw [k2,hg] at m1 m2 m3
 have e1:(Cx.encB enc g).length=ln enc g:=rfl
 rw [e1] at m1 m2 m3
 have e2:(L.drop (off enc L i)).take (ln enc g)=Cx.encB enc g:=by
  have:=(Cx.back_all enc he _ ((L.drop (off enc L i)).take (ln enc g)) (Nat.le_refl _) ((hL.drop _).take _)).1
  rw [m3] at this
  exact this.symm
 rw [List.length_drop] at m1
 refine ⟨⟨hn,hfit,?_⟩,e2,?_,by omega⟩
 ·rw [← e2];exact m3
 ·unfold off
  rw [show (Cx.dec enc L).take (i + g.length)=(Cx.dec enc L).take i ++ g by rw [List.take_add,hg],Cx.encB_app,List.length_append]
  rfl
def mkx (enc:Int) (b o pl:Nat) (g:List Int):It:=⟨some ⟨b,o + pl,none⟩,ln enc g,ln enc g,(pl:Int),spn enc g,spn_ok enc g⟩
def mks (enc:Int) (b o:Nat):Nat→List (List Int)→List It
 | _,[]=>[]
 | pl,g :: gs=>mkx enc b o pl g :: mks enc b o (pl + ln enc g) gs
theorem mks_snoc (enc:Int) (b o:Nat) (g:List Int):∀ (gs:List (List Int)) (pl:Nat),mks enc b o pl (gs ++ [g])=mks enc b o pl gs ++ [mkx enc b o (pl + ln enc gs.flatten) g]:=by
 intro gs
 induction gs with
 | nil=>intro pl;rfl
 | cons h gs ih =>
   intro pl
   rw [List.cons_append,mks,ih,mks,List.cons_append,List.flatten_cons,ln_app,Nat.add_assoc]
theorem mks_len (enc:Int) (b o:Nat):∀ (gs:List (List Int)) (pl:Nat),(mks enc b o pl gs).length=gs.length:=by
 intro gs
 induction gs with
 | nil=>intro pl;rfl
 | cons h gs ih=>intro pl;rw [mks,List.length_cons,ih,List.length_cons]
def ctn (enc:Int):Int→List Int→List (Int × Int)
 | _,[]=>[]
 | pl,a :: g=>(a,pl) :: ctn enc (tg pl ((Cx.put enc a).length:Nat)) g
theorem tg_new (k:Int):tg (-1) k=-1:=rfl
theorem tg_tg (pl:Int) (h:-1≤pl) (j k:Int) (hj:0≤j):tg (tg pl j) k=tg pl (j + k):=by
 unfold tg
 by_cases e:pl=-1
 ·rw [if_pos e,if_pos rfl,if_pos e]
 ·rw [if_neg e,if_neg (by omega),if_neg e];omega
theorem tg_zero (pl:Int):tg pl 0=pl:=by unfold tg;split <;> omega
theorem tg_ge (pl:Int) (h:-1≤pl) (j:Int) (hj:0≤j):-1≤tg pl j:=by unfold tg;split <;> omega
theorem ctn_app (enc:Int) (b:List Int):∀ (a:List Int) (pl:Int),-1≤pl→ctn enc pl (a ++ b)=ctn enc pl a ++ ctn enc (tg pl (ln enc a:Nat)) b:=by
 intro a
 induction a with
 | nil=>intro pl _;rw [ln_nil];show _=ctn enc (tg pl 0) b;rw [tg_zero];rfl
 | cons x a ih =>
   intro pl h
   rw [List.cons_append,ctn,ih _ (tg_ge pl h _ (by omega)),tg_tg pl h _ _ (by omega),ctn,List.cons_append,ln_cons]
   congr 4
theorem ctn_len (enc:Int):∀ (g:List Int) (pl:Int),(ctn enc pl g).length=g.length:=by
 intro g
 induction g with
 | nil=>intro pl;rfl
 | cons a g ih=>intro pl;rw [ctn,List.length_cons,ih,List.length_cons]
theorem ctn_fst (enc:Int):∀ (g:List Int) (pl:Int),(ctn enc pl g).map Prod.fst=g:=by
 intro g
 induction g with
 | nil=>intro pl;rfl
 | cons a g ih=>intro pl;rw [ctn,List.map_cons,ih]
theorem ctn_take (enc:Int) (g:List Int) (pl:Int) (h:-1≤pl) (n:Nat):(ctn enc pl g).take n=ctn enc pl (g.take n)∧(ctn enc pl g).drop n=ctn enc (tg pl (ln enc (g.take n):Nat)) (g.drop n):=by
 have e:=ctn_app enc (g.drop n) (g.take n) pl h
 rw [List.take_append_drop] at e
 by_cases hn:n≤g.length
 ·have hl:(ctn enc pl (g.take n)).length=n:=by rw [ctn_len,List.length_take];omega
  rw [e]
  exact ⟨List.take_left' hl,List.drop_left' hl⟩
 ·rw [List.take_of_length_le (by rw [ctn_len];omega),List.drop_eq_nil_of_le (by rw [ctn_len];omega),List.take_of_length_le (by omega),List.drop_eq_nil_of_le (by omega)]
  exact ⟨rfl,rfl⟩
theorem ctn_new (enc:Int) (g:List Int):ctn enc (-1) g=g.map fun a=>(a,-1):=by
 induction g with
 | nil=>rfl
 | cons a g ih=>rw [ctn,tg_new,ih,List.map_cons]
end Go.Proofs.YtjomfbegghgbdaaGreat.P

namespace Go.Proofs.YtjomfbegghgbdaaGreat.P
open Go.RowKit
def Typ (T:TypeId) (w:World) (b:Nat):Prop:=∃ cs,w.heap[b]?=some (.cells cs T (0,0))
theorem Typ.lt {T:TypeId} {w:World} {b:Nat} (h:Typ T w b):b < w.heap.size:=by obtain ⟨_,h⟩:=h;exact (Array.getElem?_eq_some_iff.1 h).1
theorem Typ.uniq {T U:TypeId} {w:World} {b:Nat} (h:Typ T w b) (k:Typ U w b):T=U:=by
 obtain ⟨_,h⟩:=h
 obtain ⟨_,k⟩:=k
 rw [h] at k
 simp only [Option.some.injEq,Obj.cells.injEq] at k
 exact k.2.1
theorem Typ.ext {T:TypeId} {w w':World} {b:Nat} (h:Typ T w b) (hb:Below w.heap.size w w'):Typ T w' b:=by
 obtain ⟨cs,h1⟩:=h
 exact ⟨cs,(hb.block b (Array.getElem?_eq_some_iff.1 h1).1).trans h1⟩
def RwU (w:World) (b o:Nat) (zs:List Int):Prop:=∃ cs:Array Value,w.heap[b]?=some (.cells cs 5 (0,0))∧(cs.toList.drop o).take zs.length=zs.map (Value.int .u8)
theorem RwU.typ {w:World} {b o:Nat} {zs:List Int} (h:RwU w b o zs):Typ 5 w b:=by obtain ⟨cs,h,_⟩:=h;exact ⟨cs,h⟩
theorem RwU.lt {w:World} {b o:Nat} {zs:List Int} (h:RwU w b o zs):b < w.heap.size:=h.typ.lt
theorem RwU.same {w w':World} {b o:Nat} {zs:List Int} (h:RwU w b o zs) (hb:w'.heap[b]?=w.heap[b]?):RwU w' b o zs:=by obtain ⟨cs,h1,h2⟩:=h;exact ⟨cs,by rw [hb];exact h1,h2⟩
theorem RwU.ext {w w':World} {b o:Nat} {zs:List Int} (h:RwU w b o zs) (hb:Below w.heap.size w w'):RwU w' b o zs:=h.same (hb.block b h.lt)
theorem RwU.rd {w:World} {b o:Nat} {zs:List Int} (h:RwU w b o zs) (c:Nat) (h1:zs.length≤c) (h2:c≤9223372036854775807):Rd .u8 w (.slice (some ⟨b,o,none⟩) zs.length c) zs:=by
 obtain ⟨cs,h3,h4⟩:=h
 refine ⟨_,c,rfl,h1,by unfold maxLen;exact h2,fun _=>⟨b,o,rfl,(Array.getElem?_eq_some_iff.1 h3).1,fun i hi=>?_⟩⟩
 rw [cell_of_row w b _ cs _ _ h3]
 have:=congrArg (fun l=>l[i]?) h4
 simp only [List.getElem?_take,List.getElem?_map,if_pos hi,List.getElem?_drop] at this
 rw [List.getElem?_eq_getElem hi] at this ⊢
 simpa using this
theorem RwU.part {w:World} {b o:Nat} {zs:List Int} (h:RwU w b o zs) (i n:Nat) (hi:i + n≤zs.length):RwU w b (o + i) ((zs.drop i).take n):=by
 obtain ⟨cs,h3,h4⟩:=h
 refine ⟨cs,h3,?_⟩
 have e:(((cs.toList.drop o).take zs.length).drop i).take n=((zs.map (Value.int .u8)).drop i).take n:=by rw [h4]
 rw [List.drop_take,List.drop_drop,List.take_take,Nat.min_eq_left (by omega)] at e
 rw [List.length_take,List.length_drop,Nat.min_eq_left (by omega),e]
 simp
theorem RwU.of {w:World} {b:Nat} {zs:List Int} (h:w.heap[b]?=some (.cells (zs.map (Value.int .u8)).toArray 5 (0,0))):RwU w b 0 zs:=⟨_,h,by show ((zs.map (Value.int .u8)).drop 0).take _=_;rw [List.drop_zero,List.take_of_length_le (by rw [List.length_map];exact Nat.le_refl _)]⟩
structure Pc (enc:Int) (L:List Int) (w:World) (x:It) (g:List Int):Prop where
 gr:Gr enc g
 mem:∃ b o,x.p=some ⟨b,o,none⟩∧RwU w b o (Cx.encB enc g)
 xn:x.n=ln enc g
 xc:x.c=ln enc g
 sp:x.sp=spn enc g
 pl:x.pl=-1∨∃ i:Nat,x.pl=(off enc L i:Nat)∧((Cx.dec enc L).drop i).take g.length=g∧i + g.length≤(Cx.dec enc L).length
theorem Pc.same {enc:Int} {L:List Int} {w w':World} {x:It} {g:List Int} (h:Pc enc L w x g) (hb:∀ b,Typ 5 w b→w'.heap[b]?=w.heap[b]?):Pc enc L w' x g:=by
 obtain ⟨h1,⟨b,o,h2,h3⟩,h4,h5,h6,h7⟩:=h
 exact ⟨h1,⟨b,o,h2,h3.same (hb b h3.typ)⟩,h4,h5,h6,h7⟩
theorem Pc.ext {enc:Int} {L:List Int} {w w':World} {x:It} {g:List Int} (h:Pc enc L w x g) (hb:Below w.heap.size w w'):Pc enc L w' x g:=h.same fun b hb'=>hb.block b hb'.lt
theorem Pc.rd {enc:Int} {L:List Int} {w:World} {x:It} {g:List Int} (h:Pc enc L w x g) (hl:ln enc g≤4611686018427387904):Rd .u8 w (.slice x.p x.n x.c) (Cx.encB enc g):=by
 obtain ⟨h1,⟨b,o,h2,h3⟩,h4,h5,h6,h7⟩:=h
 rw [h2,h4,h5]
 exact h3.rd _ (Nat.le_refl _) (by omega)
theorem Pc.low {enc:Int} {L:List Int} {w:World} {x:It} {g:List Int} (h:Pc enc L w x g):-1≤x.pl:=by
 rcases h.pl with e | ⟨i,e,_⟩
 ·omega
 ·omega
theorem Pc.end {enc:Int} (he:Cx.En enc) {L:List Int} (hL:Byt L) {w:World} {x:It} {g:List Int} (h:Pc enc L w x g):x.pl + ln enc g≤max (L.length:Int) (ln enc g):=by
 rcases h.pl with e | ⟨i,e,h1,h2⟩
 ·omega
 ·have:=(Gr.load he hL h1 h2 h.gr.ne).2.2.2
  omega
abbrev PG:=It × List Int
def xsOf (ps:List PG):List It:=ps.map Prod.fst
def asOf (ps:List PG):List Int:=ps.flatMap Prod.snd
def sh (enc:Int) (ps:List PG):List (Int × Int):=ps.flatMap fun q=>ctn enc q.1.pl q.2
def Pcs (enc:Int) (L:List Int) (w:World) (ps:List PG):Prop:=∀ q ∈ ps,Pc enc L w q.1 q.2
theorem Pcs.ext {enc:Int} {L:List Int} {w w':World} {ps:List PG} (h:Pcs enc L w ps) (hb:Below w.heap.size w w'):Pcs enc L w' ps:=fun q hq=>(h q hq).ext hb
theorem Pcs.same {enc:Int} {L:List Int} {w w':World} {ps:List PG} (h:Pcs enc L w ps) (hb:∀ b,Typ 5 w b→w'.heap[b]?=w.heap[b]?):Pcs enc L w' ps:=fun q hq=>(h q hq).same hb
theorem Pcs.app {enc:Int} {L:List Int} {w:World} {a b:List PG} (h:Pcs enc L w a) (k:Pcs enc L w b):Pcs enc L w (a ++ b):=fun q hq=>(List.mem_append.1 hq).elim (h q) (k q)
theorem Pcs.nil (enc:Int) (L:List Int) (w:World):Pcs enc L w []:=fun _ h=>by cases h
theorem xsOf_app (a b:List PG):xsOf (a ++ b)=xsOf a ++ xsOf b:=by simp [xsOf]
theorem xsOf_len (a:List PG):(xsOf a).length=a.length:=by simp [xsOf]
theorem asOf_app (a b:List PG):asOf (a ++ b)=asOf a ++ asOf b:=by simp [asOf]
theorem sh_app (enc:Int) (a b:List PG):sh enc (a ++ b)=sh enc a ++ sh enc b:=by simp [sh]
theorem sh_one (enc:Int) (x:It) (g:List Int):sh enc [(x,g)]=ctn enc x.pl g:=by simp [sh]
theorem sh_cons (enc:Int) (q:PG) (a:List PG):sh enc (q :: a)=ctn enc q.1.pl q.2 ++ sh enc a:=by simp [sh]
theorem sh_fst (enc:Int) (a:List PG):(sh enc a).map Prod.fst=asOf a:=by
 induction a with
 | nil=>rfl
 | cons q a ih=>rw [sh_cons,List.map_append,ctn_fst,ih];simp [asOf]
theorem sh_len (enc:Int) (a:List PG):(sh enc a).length=(asOf a).length:=by rw [← sh_fst enc a,List.length_map]
theorem Pcs.fit {enc:Int} {L:List Int} {w:World} {ps:List PG} (h:Pcs enc L w ps):∀ a ∈ asOf ps,Cx.fits enc a=true:=by
 intro a ha
 simp only [asOf,List.mem_flatMap] at ha
 obtain ⟨q,hq,ha⟩:=ha
 exact (h q hq).gr.fit a ha
theorem Pcs.su {enc:Int} {L:List Int} {w:World} {ps:List PG} (h:Pcs enc L w ps):rA.su (xsOf ps)=spn enc (asOf ps):=by
 induction ps with
 | nil=>rfl
 | cons q ps ih =>
   rw [show xsOf (q :: ps)=q.1 :: xsOf ps from rfl,Alg.su_cons,ih (fun r hr=>h r (List.mem_cons_of_mem _ hr)),show asOf (q :: ps)=q.2 ++ asOf ps by simp [asOf],spn_app]
   have:=(h q List.mem_cons_self).sp
   show Rs.add q.1.sp _=_
   rw [this]
theorem Pcs.wt {enc:Int} {L:List Int} {w:World} {ps:List PG} (h:Pcs enc L w ps):wt (xsOf ps)≤4 * ln enc (asOf ps):=by
 induction ps with
 | nil=>exact Nat.zero_le _
 | cons q ps ih =>
   have hq:=h q List.mem_cons_self
   have i:=ih (fun r hr=>h r (List.mem_cons_of_mem _ hr))
   rw [show xsOf (q :: ps)=q.1 :: xsOf ps from rfl,wt_cons,show asOf (q :: ps)=q.2 ++ asOf ps by simp [asOf],ln_app,hq.sp]
   obtain ⟨k1,k2⟩:=spn_a enc q.2 hq.gr.fit
   have k3:=spn_b enc q.2
   have k4:=ln_ge enc q.2
   have k5:=hq.gr.pos
   omega
theorem Pcs.len {enc:Int} {L:List Int} {w:World} {ps:List PG} (h:Pcs enc L w ps):ps.length≤(asOf ps).length:=by
 induction ps with
 | nil=>exact Nat.le_refl _
 | cons q ps ih =>
   have i:=ih (fun r hr=>h r (List.mem_cons_of_mem _ hr))
   have k5:=(h q List.mem_cons_self).gr.pos
   rw [show asOf (q :: ps)=q.2 ++ asOf ps by simp [asOf],List.length_cons,List.length_append]
   omega
def mkp (enc:Int) (b o:Nat):Nat→List (List Int)→List PG
 | _,[]=>[]
 | pl,g :: gs=>(mkx enc b o pl g,g) :: mkp enc b o (pl + ln enc g) gs
theorem mkp_xs (enc:Int) (b o:Nat):∀ (gs:List (List Int)) (pl:Nat),xsOf (mkp enc b o pl gs)=mks enc b o pl gs:=by
 intro gs
 induction gs with
 | nil=>intro pl;rfl
 | cons g gs ih=>intro pl;rw [mkp,mks];show _ :: xsOf _=_;rw [ih]
theorem mkp_as (enc:Int) (b o:Nat):∀ (gs:List (List Int)) (pl:Nat),asOf (mkp enc b o pl gs)=gs.flatten:=by
 intro gs
 induction gs with
 | nil=>intro pl;rfl
 | cons g gs ih=>intro pl;rw [mkp,show asOf ((mkx enc b o pl g,g) :: mkp enc b o (pl + ln enc g) gs)=g ++ asOf (mkp enc b o (pl + ln enc g) gs) by simp [asOf],ih];rfl
theorem mkp_sh (enc:Int) (b o:Nat):∀ (gs:List (List Int)) (pl:Nat),sh enc (mkp enc b o pl gs)=ctn enc (pl:Nat) gs.flatten:=by
 intro gs
 induction gs with
 | nil=>intro pl;rfl
 | cons g gs ih =>
   intro pl
   rw [mkp,sh_cons,ih,List.flatten_cons,ctn_app enc _ _ _ (by omega)]
   congr 2
theorem mkp_pcs (enc:Int) (he:Cx.En enc) (L:List Int) (hL:Byt L) (w:World) (b o:Nat) (hR:RwU w b o L):∀ (gs:List (List Int)) (k:Nat),(∀ g ∈ gs,Gr enc g)→(Cx.dec enc L).drop k=gs.flatten→k≤(Cx.dec enc L).length→Pcs enc L w (mkp enc b o (off enc L k) gs):=by
 intro gs
 induction gs with
 | nil=>intro k _ _ _;exact Pcs.nil _ _ _
 | cons g gs ih =>
   intro k hg hk hkl
   have g1:=hg g List.mem_cons_self
   rw [List.flatten_cons] at hk
   have hlen:=congrArg List.length hk
   rw [List.length_drop,List.length_append] at hlen
   have e1:((Cx.dec enc L).drop k).take g.length=g:=by rw [hk,List.take_left' rfl]
   obtain ⟨_,k2,k3,k4⟩:=Gr.load he hL e1 (by omega) g1.ne
   rw [mkp]
   intro q hq
   rcases List.mem_cons.1 hq with rfl | hq
   ·refine ⟨g1,⟨b,o + off enc L k,rfl,?_⟩,rfl,rfl,rfl,.inr ⟨k,rfl,e1,by show k + g.length≤_;omega⟩⟩
    have:=hR.part (off enc L k) (ln enc g) k4
    rw [k2] at this
    exact this
   ·refine ih (k + g.length) (fun h hh=>hg h (List.mem_cons_of_mem _ hh)) ?_ (by omega) q (by rw [← k3];exact hq)
    rw [← List.drop_drop,hk,List.drop_left' rfl]
end Go.Proofs.YtjomfbegghgbdaaGreat.P

namespace Go.Proofs.YtjomfbegghgbdaaGreat.P
open Go.RowKit
theorem flat_set (x:It):∀ (xs:List It) (i:Nat),i < xs.length→flat (xs.set i x)=(((((((flat xs).set (i * 7) (.slice x.p x.n x.c)).set (i * 7 + 1) (.int .i64 x.pl)).set (i * 7 + 2) (.int .i64 x.sp.a)).set (i * 7 + 3) (.int .i64 x.sp.s)).set (i * 7 + 4) (.int .i64 x.sp.b)).set (i * 7 + 5) (.bool x.sp.lf)).set (i * 7 + 6) (.bool x.sp.cr):=by
 intro xs
 induction xs with
 | nil=>intro i h;simp at h
 | cons y xs ih =>
   intro i h
   cases i with
   | zero=>rfl
   | succ i =>
     rw [List.set_cons_succ,flat_cons,flat_cons,ih i (by simpa using h)]
     have hs:∀ (l:List Value) (r:Nat) (v:Value),(pcs y ++ l).set ((i + 1) * 7 + r) v=pcs y ++ l.set (i * 7 + r) v:=fun l r v=>by
      rw [List.set_append_right _ _ (by show 7≤_;omega)]
      congr 2
      show _ - 7=_
      omega
     have h0:=hs (flat xs) 0 (.slice x.p x.n x.c)
     simp only [Nat.add_zero] at h0
     rw [h0,hs,hs,hs,hs,hs,hs]
theorem put7 {T:TypeId} {w:World} {g:Nat} {cs:Array Value} (hg:w.heap[g]?=some (.cells cs T (0,0))) (o:Nat) (x:It) :
  let w':=(((((((w.setCell ⟨g,o,none⟩ (.slice x.p x.n x.c)).setCell ⟨g,o + 1,none⟩ (.int .i64 x.pl)).setCell ⟨g,o + 2,none⟩ (.int .i64 x.sp.a)).setCell ⟨g,o + 3,none⟩ (.int .i64 x.sp.s)).setCell ⟨g,o + 4,none⟩ (.int .i64 x.sp.b)).setCell ⟨g,o + 5,none⟩ (.bool x.sp.lf)).setCell ⟨g,o + 6,none⟩ (.bool x.sp.cr))
  w'.heap[g]?=some (.cells (((((((cs.setIfInBounds o (.slice x.p x.n x.c)).setIfInBounds (o + 1) (.int .i64 x.pl)).setIfInBounds (o + 2) (.int .i64 x.sp.a)).setIfInBounds (o + 3) (.int .i64 x.sp.s)).setIfInBounds (o + 4) (.int .i64 x.sp.b)).setIfInBounds (o + 5) (.bool x.sp.lf)).setIfInBounds (o + 6) (.bool x.sp.cr)) T (0,0))∧w.grownBy w' (some g):=by
 obtain ⟨h1,g1⟩:=set1 hg o (.slice x.p x.n x.c)
 obtain ⟨h2,g2⟩:=set1 h1 (o + 1) (.int .i64 x.pl)
 obtain ⟨h3,g3⟩:=set1 h2 (o + 2) (.int .i64 x.sp.a)
 obtain ⟨h4,g4⟩:=set1 h3 (o + 3) (.int .i64 x.sp.s)
 obtain ⟨h5,g5⟩:=set1 h4 (o + 4) (.int .i64 x.sp.b)
 obtain ⟨h6,g6⟩:=set1 h5 (o + 5) (.bool x.sp.lf)
 obtain ⟨h7,g7⟩:=set1 h6 (o + 6) (.bool x.sp.cr)
 exact ⟨h7,grown_trans (grown_trans (grown_trans (grown_trans (grown_trans (grown_trans g1 g2) g3) g4) g5) g6) g7⟩
def RwP (w:World) (b o:Nat) (xs:List It):Prop:=∃ cs:Array Value,w.heap[b]?=some (.cells cs 113 (0,0))∧(cs.toList.drop o).take (xs.length * 7)=flat xs
theorem RwP.typ {w:World} {b o:Nat} {xs:List It} (h:RwP w b o xs):Typ 113 w b:=by obtain ⟨cs,h,_⟩:=h;exact ⟨cs,h⟩
theorem RwP.lt {w:World} {b o:Nat} {xs:List It} (h:RwP w b o xs):b < w.heap.size:=h.typ.lt
theorem RwP.same {w w':World} {b o:Nat} {xs:List It} (h:RwP w b o xs) (hb:w'.heap[b]?=w.heap[b]?):RwP w' b o xs:=by obtain ⟨cs,h1,h2⟩:=h;exact ⟨cs,by rw [hb];exact h1,h2⟩
theorem RwP.ext {w w':World} {b o:Nat} {xs:List It} (h:RwP w b o xs) (hb:Below w.heap.size w w'):RwP w' b o xs:=h.same (hb.block b h.lt)
theorem RwP.cell {w:World} {b o:Nat} {xs:List It} (h:RwP w b o xs) (i:Nat) (hi:i < xs.length):(w.cell? ⟨b,o + i * 7,none⟩=some (.slice (xs[i]?.getD It.zero).p (xs[i]?.getD It.zero).n (xs[i]?.getD It.zero).c)∧w.cell? ⟨b,o + i * 7 + 1,none⟩=some (.int .i64 (xs[i]?.getD It.zero).pl)∧w.cell? ⟨b,o + i * 7 + 2,none⟩=some (.int .i64 (xs[i]?.getD It.zero).sp.a)∧w.cell? ⟨b,o + i * 7 + 3,none⟩=some (.int .i64 (xs[i]?.getD It.zero).sp.s)∧w.cell? ⟨b,o + i * 7 + 4,none⟩=some (.int .i64 (xs[i]?.getD It.zero).sp.b)∧w.cell? ⟨b,o + i * 7 + 5,none⟩=some (.bool (xs[i]?.getD It.zero).sp.lf)∧w.cell? ⟨b,o + i * 7 + 6,none⟩=some (.bool (xs[i]?.getD It.zero).sp.cr)):=by
 obtain ⟨cs,h3,h4⟩:=h
 have h5:∀ r,r < 7→w.cell? ⟨b,o + i * 7 + r,none⟩=(pcs (xs[i]?.getD It.zero))[r]?:=by
  intro r hr
  have h6:=flat_at xs i hi r hr
  rw [← h4,List.getElem?_take,if_pos (by omega),List.getElem?_drop] at h6
  rw [cell_of_row w b _ cs _ (0,0) h3,Nat.add_assoc]
  simpa using h6
 exact ⟨h5 0 (by omega),h5 1 (by omega),h5 2 (by omega),h5 3 (by omega),h5 4 (by omega),h5 5 (by omega),h5 6 (by omega)⟩
theorem RwP.tail {w:World} {b o:Nat} {x:It} {xs:List It} (h:RwP w b o (x :: xs)):RwP w b (o + 7) xs:=by
 obtain ⟨cs,h1,h2⟩:=h
 refine ⟨cs,h1,?_⟩
 have e:(((cs.toList.drop o).take ((x :: xs).length * 7)).drop 7)=(flat (x :: xs)).drop 7:=by rw [h2]
 rw [List.drop_take,List.drop_drop,flat_cons,List.length_cons,show (xs.length + 1) * 7 - 7=xs.length * 7 by omega] at e
 rw [e]
 rfl
theorem drop_set' (l:List Value) (o k:Nat) (v:Value):(l.set (o + k) v).drop o=(l.drop o).set k v:=by
 rw [List.drop_set,if_neg (by omega)]
 congr 1
 omega
theorem RwP.put {w:World} {b o:Nat} {xs:List It} (h:RwP w b o xs) (i:Nat) (hi:i < xs.length) (x:It) :
  let w':=(((((((w.setCell ⟨b,o + i * 7,none⟩ (.slice x.p x.n x.c)).setCell ⟨b,o + i * 7 + 1,none⟩ (.int .i64 x.pl)).setCell ⟨b,o + i * 7 + 2,none⟩ (.int .i64 x.sp.a)).setCell ⟨b,o + i * 7 + 3,none⟩ (.int .i64 x.sp.s)).setCell ⟨b,o + i * 7 + 4,none⟩ (.int .i64 x.sp.b)).setCell ⟨b,o + i * 7 + 5,none⟩ (.bool x.sp.lf)).setCell ⟨b,o + i * 7 + 6,none⟩ (.bool x.sp.cr))
  RwP w' b o (xs.set i x)∧w.grownBy w' (some b):=by
 obtain ⟨cs,h1,h2⟩:=h
 obtain ⟨k1,k2⟩:=put7 h1 (o + i * 7) x
 refine ⟨⟨_,k1,?_⟩,k2⟩
 simp only [Array.toList_setIfInBounds,List.length_set]
 simp only [Nat.add_assoc,drop_set',List.take_set]
 rw [h2,flat_set x xs i hi]
theorem OwnR.row {w:World} {base:Nat} {v:Value} {xs:List It} (h:OwnR w base 113 v xs) (hn:0 < xs.length):∃ g cap,v=.slice (some ⟨g,0,none⟩) xs.length cap∧base≤g∧g < w.heap.size∧xs.length≤cap∧cap≤9223372036854775807∧RwP w g 0 xs:=by
 obtain ⟨_,h2⟩:=h
 rcases h2 with ⟨_,h2⟩ | ⟨g,cap,cur,hv,hb,hg,h3,h4,h5,h6⟩
 ·omega
 ·exact ⟨g,cap,hv,hb,(Array.getElem?_eq_some_iff.1 hg).1,h3,by unfold maxLen at h4;exact h4,⟨cur,hg,by simpa using h6⟩⟩
theorem OwnR.set {w:World} {base g cap:Nat} {xs:List It} (h:OwnR w base 113 (.slice (some ⟨g,0,none⟩) xs.length cap) xs) (i:Nat) (hi:i < xs.length) (x:It) :
  let w':=(((((((w.setCell ⟨g,0 + i * 7,none⟩ (.slice x.p x.n x.c)).setCell ⟨g,0 + i * 7 + 1,none⟩ (.int .i64 x.pl)).setCell ⟨g,0 + i * 7 + 2,none⟩ (.int .i64 x.sp.a)).setCell ⟨g,0 + i * 7 + 3,none⟩ (.int .i64 x.sp.s)).setCell ⟨g,0 + i * 7 + 4,none⟩ (.int .i64 x.sp.b)).setCell ⟨g,0 + i * 7 + 5,none⟩ (.bool x.sp.lf)).setCell ⟨g,0 + i * 7 + 6,none⟩ (.bool x.sp.cr))
  OwnR w' base 113 (.slice (some ⟨g,0,none⟩) xs.length cap) (xs.set i x)∧w.grownBy w' (some g):=by
 obtain ⟨h0,h2⟩:=h
 rcases h2 with ⟨hv,_⟩ | ⟨g',cap',cur,hv,hb,hg,h3,h4,h5,h6⟩
 ·cases hv
 simp only [Value.slice.injEq,Option.some.injEq,Addr.mk.injEq] at hv
 obtain ⟨⟨hg',_⟩,_,hc'⟩:=hv
 subst hg'
 subst hc'
 obtain ⟨k1,k2⟩:=put7 hg (0 + i * 7) x
 refine ⟨⟨by rw [flat_len,List.length_set],.inr ⟨g,cap,_,by rw [List.length_set],hb,k1,by rw [List.length_set];exact h3,h4,?_,?_⟩⟩,k2⟩
 ·simpa using h5
 ·simp only [Array.toList_setIfInBounds,List.length_set,List.take_set,Nat.zero_add]
  rw [h6,flat_set x xs i hi]
end Go.Proofs.YtjomfbegghgbdaaGreat.P

namespace Go.Proofs.YtjomfbegghgbdaaGreat.P
open Go.RowKit
set_option maxRecDepth 100000 in
set_option maxHeartbeats 1000000 in
theorem copyOf_any (v:Value) (zs:List Int) (w:World) (h:Rd .u8 w v zs) (hl:zs.length≤1099511627776) :
  Calls Tryz.prog 76 #[v] w fun e w'=>e=.returned (.slice (some ⟨w.heap.size,0,none⟩) zs.length zs.length)∧w'.heap[w.heap.size]?=some (.cells (zs.map (Value.int .u8)).toArray 5 (0,0))∧Below w.heap.size w w':=by
 obtain ⟨i0,hi,hz0,hz1,hz2⟩:=info_parts Tryz.info_u8
 obtain ⟨ao,cap,rfl,h1,h2,h3⟩:=h
 have H3:=hidIt h3
 clear h3
 go_enter Tryz.func76,Tryz.ntmps76
 go_upto_region 2 with (refine wpList_make_full w rfl _ _ 22 rfl w.heap.size 5 i0 (.int .u8 0) 1 Tryz.underlying22 hi hz0 hz1 .i64 .i64 _ _ zs.length rfl rfl rfl rfl (by rw [hz2];omega) (by unfold maxLen;omega) (Nat.le_refl _) ?_;intro w1 hO hg;have HO:=hidIt hO;have HG:=hidIt hg;clear hO hg)
 obtain ⟨e1,hh⟩:=HO.out
 rcases hh with ⟨hv,_⟩ | ⟨g,cp,cur,hv,_,hcur,hcp1,hcp2,hcs,htk⟩
 ·cases hv
 simp only [Value.slice.injEq,Option.some.injEq,Addr.mk.injEq] at hv
 obtain ⟨⟨hg0,_,_⟩,_,hcp⟩:=hv
 subst hg0
 subst hcp
 have HCUR:=hidIt (show w1.heap[w.heap.size]?=some (.cells cur.toList.toArray 5 (0,0)) from hcur)
 have hlen:cur.toList.length=zs.length:=by rw [Array.length_toList,hcs,Nat.mul_one]
 have HB1:=hidIt (Below.grown (Below.refl w.heap.size w) HG.out (Nat.le_refl _) (fun k e=>by cases e))
 clear htk e1 hcur
 have HSRC:Hid (0 < (zs.map (Value.int .u8)).length→(some (⟨w.heap.size,0,none⟩:Addr))=some ⟨w.heap.size,0,none⟩∧∃ ad,ao=some ad∧∀ j u,(zs.map (Value.int .u8))[j]?=some u→w1.cell? (ad.add j)=some u):=fun hp=>by
  rw [List.length_map] at hp
  obtain ⟨b,off,rfl,hb,hc⟩:=H3.out (List.length_pos_iff.1 hp)
  refine ⟨rfl,_,rfl,fun j u hj=>?_⟩
  have hjl:j < zs.length:=by
   have:=(List.getElem?_eq_some_iff.1 hj).1
   rwa [List.length_map] at this
  rw [Addr.add_lit,HB1.out.cell (p:=⟨b,off + j,none⟩) hb,hc j hjl,← hj,List.getElem?_map,List.getElem?_eq_getElem hjl]
  rfl
 go_wp2_with (refine wpList_copy_splice rfl _ _ 22 22 rfl 5 Tryz.underlying22 (by rw [hi];simp [hz1]) _ _ _ _ _ _ rfl rfl w.heap.size 0 cur.toList 5 HCUR.out (zs.map (Value.int .u8)) (by simp) HSRC.out (by simp only [List.length_map];omega) (by simp [Value.oneCell']) w.heap.size w HB1.out (Nat.le_refl _) ?_;intro w2 hE hb2;have HE2:=hidIt hE.out;have HB2:=hidIt hb2;clear hE hb2)
 go_ret
 refine ⟨rfl,?_,HB2.out⟩
 have e:=HE2.out
 have es:splice cur.toList 0 (zs.map (Value.int .u8))=zs.map (Value.int .u8):=by
  unfold splice
  rw [List.take_zero,List.nil_append,List.drop_of_length_le (by rw [List.length_map];omega),List.append_nil]
 rw [es] at e
 exact e
end Go.Proofs.YtjomfbegghgbdaaGreat.P

namespace Go.Proofs.YtjomfbegghgbdaaGreat.P
open Go.RowKit
theorem three_blocks (w:World) (x y:It):∃ w0,w0=((w.alloc (.cells #[.slice x.p x.n x.c,.int .i64 x.pl,.int .i64 x.sp.a,.int .i64 x.sp.s,.int .i64 x.sp.b,.bool x.sp.lf,.bool x.sp.cr] 113)).alloc (.cells #[.slice y.p y.n y.c,.int .i64 y.pl,.int .i64 y.sp.a,.int .i64 y.sp.s,.int .i64 y.sp.b,.bool y.sp.lf,.bool y.sp.cr] 113)).alloc (.cells #[.slice none 0 0,.int .i64 0,.int .i64 0,.int .i64 0,.int .i64 0,.bool false,.bool false] 113) ∧
  BlkI w0 w.heap.size x∧BlkI w0 (w.heap.size + 1) y∧BlkI w0 (w.heap.size + 2) It.zero∧Below w.heap.size w w0∧w0.heap.size=w.heap.size + 3:=by
 refine ⟨_,rfl,?_,?_,?_,?_,by simp⟩
 ·exact BlkI.ext (BlkI.ext (w:=w.alloc _) (heap_alloc_new _ _) (ext_alloc (Below.refl _ _) _)) (ext_alloc (Below.refl _ _) _)
 ·have e:w.heap.size + 1=(w.alloc (.cells #[.slice x.p x.n x.c,.int .i64 x.pl,.int .i64 x.sp.a,.int .i64 x.sp.s,.int .i64 x.sp.b,.bool x.sp.lf,.bool x.sp.cr] 113)).heap.size:=by simp
  rw [e]
  exact BlkI.ext (w:=(w.alloc _).alloc _) (heap_alloc_new _ _) (ext_alloc (Below.refl _ _) _)
 ·have e:w.heap.size + 2=((w.alloc (.cells #[.slice x.p x.n x.c,.int .i64 x.pl,.int .i64 x.sp.a,.int .i64 x.sp.s,.int .i64 x.sp.b,.bool x.sp.lf,.bool x.sp.cr] 113)).alloc (.cells #[.slice y.p y.n y.c,.int .i64 y.pl,.int .i64 y.sp.a,.int .i64 y.sp.s,.int .i64 y.sp.b,.bool y.sp.lf,.bool y.sp.cr] 113)).heap.size:=by simp
  rw [e]
  exact heap_alloc_new _ _
 ·exact ext_alloc (ext_alloc (ext_alloc (Below.refl _ _) _) _) _
theorem Pc.src {enc:Int} {L:List Int} {w:World} {x:It} {g:List Int} (h:Pc enc L w x g):∃ ad,x.p=some ad∧∀ w',Below w.heap.size w w'→∀ j v,((Cx.encB enc g).map (Value.int .u8))[j]?=some v→w'.cell? (ad.add j)=some v:=by
 obtain ⟨b,o,hp,hr⟩:=h.mem
 refine ⟨_,hp,fun w' hb j v hj=>?_⟩
 obtain ⟨cs,h1,h2⟩:=hr.ext hb
 rw [Addr.add_lit,cell_of_row w' b _ cs _ _ h1]
 have hl:j < (Cx.encB enc g).length:=by
  have:=(List.getElem?_eq_some_iff.1 hj).1
  rwa [List.length_map] at this
 rw [← h2,List.getElem?_take,if_pos hl,List.getElem?_drop] at hj
 simpa using hj
set_option maxRecDepth 100000 in
set_option maxHeartbeats 4000000 in
theorem glue_any (enc:Int) (he:Cx.En enc) (L:List Int) (x y:It) (g h:List Int) (w:World) (hx:Pc enc L w x g) (hy:Pc enc L w y h) (hl:ln enc g + ln enc h≤1073741824) :
  Calls Tryz.prog 138 #[.int .i64 enc,.agg #[.slice x.p x.n x.c,.int .i64 x.pl,.int .i64 x.sp.a,.int .i64 x.sp.s,.int .i64 x.sp.b,.bool x.sp.lf,.bool x.sp.cr],.agg #[.slice y.p y.n y.c,.int .i64 y.pl,.int .i64 y.sp.a,.int .i64 y.sp.s,.int .i64 y.sp.b,.bool y.sp.lf,.bool y.sp.cr]] w fun e w'=>∃ (z:It) (ok:Bool),e=.returned (.tuple #[.agg #[.slice z.p z.n z.c,.int .i64 z.pl,.int .i64 z.sp.a,.int .i64 z.sp.s,.int .i64 z.sp.b,.bool z.sp.lf,.bool z.sp.cr],.bool ok])∧Hid (ok=true→Pc enc L w' z (g ++ h)∧z.pl=-1)∧Below w.heap.size w w':=by
 obtain ⟨i0,hi,hz0,hz1,hz2⟩:=info_parts Tryz.info_u8
 obtain ⟨n,hn⟩:∃ n,n=ln enc g:=⟨_,rfl⟩
 obtain ⟨m,hm⟩:∃ m,m=ln enc h:=⟨_,rfl⟩
 obtain ⟨zx,hzx⟩:∃ zx,zx=(Cx.encB enc g).map (Value.int .u8):=⟨_,rfl⟩
 obtain ⟨zy,hzy⟩:∃ zy,zy=(Cx.encB enc h).map (Value.int .u8):=⟨_,rfl⟩
 have lzx:zx.length=n:=by rw [hzx,List.length_map,hn];rfl
 have lzy:zy.length=m:=by rw [hzy,List.length_map,hm];rfl
 obtain ⟨w0,hw0,k1,k2,k3,hb0,hs0⟩:=three_blocks w x y
 have HB0:=hidIt hb0
 have HK:=hidIt (show BlkI w0 w.heap.size x∧BlkI w0 (w.heap.size + 1) y∧BlkI w0 (w.heap.size + 2) It.zero from ⟨k1,k2,k3⟩)
 have n1:=hx.gr.lpos
 have m1:=hy.gr.lpos
 rw [← hn] at n1 hl
 rw [← hm] at m1 hl
 have xn:=hx.xn
 have xc:=hx.xc
 have yn:=hy.xn
 have yc:=hy.xc
 rw [← hn] at xn xc
 rw [← hm] at yn yc
 have HX:Hid ((∀ w',Below w0.heap.size w0 w'→w'.cell? ⟨w.heap.size,0,none⟩=some (.slice x.p n n)∧w'.cell? ⟨w.heap.size + 1,0,none⟩=some (.slice y.p m m))∧True):=⟨fun w' hb=>by
  have a1:=(k1.ext hb).cells.1.1
  have a2:=(k2.ext hb).cells.1.1
  rw [xn,xc] at a1
  rw [yn,yc] at a2
  exact ⟨a1,a2⟩,trivial⟩
 obtain ⟨ax,pax,srx⟩:=hx.src
 obtain ⟨ay,pay,sry⟩:=hy.src
 rw [← hzx] at srx
 rw [← hzy] at sry
 have HPX:=hidIt hx
 have HPY:=hidIt hy
 have HEN:=hidIt he
 have HN:=hidIt hn
 have HM:=hidIt hm
 have HLX:=hidIt lzx
 have HLY:=hidIt lzy
 have HZX:=hidIt hzx
 have HZY:=hidIt hzy
 have HSX:=hidIt (show ∃ ad,x.p=some ad∧∀ w',Below w.heap.size w w'→∀ j v,zx[j]?=some v→w'.cell? (ad.add j)=some v from ⟨ax,pax,srx⟩)
 have HSY:=hidIt (show ∃ ad,y.p=some ad∧∀ w',Below w.heap.size w w'→∀ j v,zy[j]?=some v→w'.cell? (ad.add j)=some v from ⟨ay,pay,sry⟩)
 have h1x:Hid (∀ v ∈ zx,v.oneCell'=true):=by unfold Hid;rw [hzx];intro v hv;rw [List.mem_map] at hv;obtain ⟨_,_,rfl⟩:=hv;rfl
 have h1y:Hid (∀ v ∈ zy,v.oneCell'=true):=by unfold Hid;rw [hzy];intro v hv;rw [List.mem_map] at hv;obtain ⟨_,_,rfl⟩:=hv;rfl
 clear k1 k2 k3 hb0 hx hy he hn hm xn xc yn yc pax pay srx sry hzx hzy lzx lzy
 go_enter Tryz.func138,Tryz.ntmps138
 go_upto_region 1 with fail
 rw [← hw0]
 clear hw0
 obtain ⟨c0,c1⟩:=HX.out.1 w0 (Below.refl _ _)
 go_upto_region 2 with (refine wpList_make_full w0 rfl _ _ 22 rfl w0.heap.size 5 i0 (.int .u8 0) 1 Tryz.underlying22 hi hz0 hz1 .i64 .i64 _ _ (n + m) rfl rfl (by omega) (by omega) (by rw [hz2];omega) (by unfold maxLen;omega) (Nat.le_refl _) ?_;intro w1 hO hg;have HO:=hidIt hO;have HG:=hidIt hg;clear hO hg)
 obtain ⟨e1,hh⟩:=HO.out
 rcases hh with ⟨hv,_⟩ | ⟨g1,cp,cur,hv,_,hcur,hcp1,hcp2,hcs,htk⟩
 ·cases hv
 simp only [Value.slice.injEq,Option.some.injEq,Addr.mk.injEq] at hv
 obtain ⟨⟨hg0,_,_⟩,_,hcp⟩:=hv
 subst hg0
 subst hcp
 have HCUR:=hidIt (show w1.heap[w.heap.size + 3]?=some (.cells cur.toList.toArray 5 (0,0)) by rw [← hs0];exact hcur)
 have hlen:cur.toList.length=n + m:=by rw [Array.length_toList,hcs,Nat.mul_one]
 have HB1:=hidIt (Below.grown (Below.refl w0.heap.size w0) HG.out (Nat.le_refl _) (fun k e=>by cases e))
 clear htk e1 hcur HO HG c0 c1
 obtain ⟨s1,s2⟩:=HX.out.1 w1 HB1.out
 generalize cur.toList=cl at *
 go_upto_region 3 with (refine wpList_copy_splice rfl _ _ 22 22 rfl 5 Tryz.underlying22 (by rw [hi];simp [hz1]) _ _ _ _ _ _ rfl rfl (w.heap.size + 3) 0 cl 5 HCUR.out zx (by rw [HLX.out];exact (Nat.min_eq_left (by omega)).symm) (fun _=>⟨rfl,let ⟨ad,h1,h2⟩:=HSX.out;⟨ad,h1,h2 w1 (ext_trans HB0.out HB1.out)⟩⟩) (by rw [HLX.out];omega) h1x.out w0.heap.size w0 HB1.out (by omega) ?_;intro w2 hE hb2;have HE2:=hidIt hE.out;have HB2:=hidIt hb2;clear hE hb2)
 clear s1 s2
 obtain ⟨s1,s2⟩:=HX.out.1 w2 HB2.out
 have HF2:=hidIt (show n + zy.length≤(splice cl 0 zx).length by rw [length_splice _ _ _ (by rw [HLX.out];omega),HLY.out];omega)
 have hnm:(n:Int)≤(n:Int) + m:=by omega
 have hm0:¬ m=0:=by omega
 simp only [Act.put,tS]
 go_cut [] from 23 to 31 (fun wF=>Hid (wF.heap[w.heap.size + 3]?=some (.cells (splice (splice cl 0 zx) n zy).toArray 5 (0,0))∧Below w0.heap.size w0 wF))
 case first =>
  refine wp_region_held_drew (S:=fun w''=>w''.cell? ⟨w.heap.size,0,none⟩=some (.slice x.p n n)∧w''.cell? ⟨w.heap.size + 1,0,none⟩=some (.slice y.p m m)) (by kernel_rfl) (by first | exact ⟨s1,s2⟩ | (dsimp only;go_keep)) (fun hHeld=>?_)
  refine tkH 0 rfl ?_
  try simp only [Act.put,tS]
  refine tkH 1 rfl ?_
  try simp only [Act.put]
  refine tkH 2 rfl ?_
  try simp only [Act.put]
  refine tkH 3 rfl ?_
  try simp only [Act.put]
  refine tkH 4 rfl ?_
  try simp only [Act.put]
  refine tkH 5 rfl ?_
  try simp only [Act.put]
  refine rdH 6 rfl fun K hK=>?_
  go_simp
  refine hK.out _ _ ?_ (fun hHeld=>?_)
  ·first | exact ⟨s1,s2⟩ | ((try dsimp only);go_keep)
  clear hK K
  try simp only [Act.put,tS]
  refine rdH 7 rfl fun K hK=>?_
  refine step_copy_splice rfl (.tmp 28) (.tmp 30) 22 22 rfl 5 Tryz.underlying22 (by rw [hi];simp [hz1]) _ _ _ _ _ _ (by rfl) (by rfl) (w.heap.size + 3) n _ 5 HE2.out zy (by rw [HLY.out];first | exact (Nat.min_eq_left (by omega)).symm | (show m=min m _;omega)) (fun _=>⟨by simp,let ⟨ad,h1,h2⟩:=HSY.out;⟨ad,h1,h2 _ (ext_trans HB0.out HB2.out.drew)⟩⟩) HF2.out h1y.out w0.heap.size w0 HB2.out.drew (by omega) ?_;intro w3 hE hb3;have HE3:=hidIt hE.out;have HB3:=hidIt hb3;clear hE hb3;have s3:=HX.out.1 w3 HB3.out;change K (Act.put _ (some 31) _) w3
  refine hK.out _ _ ?_ (fun hHeld=>?_)
  ·exact s3
  clear hK K
  try simp only [Act.put,tS]
  refine wpAnyH_done (by kernel_rfl) ?_ _
  go_wp2_with fail
  go_meet
  case rel=>exact ⟨HE3.out,HB3.out⟩
 have HE:=hidIt hcut.out
 generalize hwc:wc=w4 at *
 clear hwc hcut s1 s2 HE2 HB2 HCUR HB1 HF2 hnm
 have es:splice (splice cl 0 zx) n zy=zx ++ zy:=by
  have l1:=HLX.out
  have l2:=HLY.out
  unfold splice
  rw [List.take_zero,List.nil_append,Nat.zero_add,List.take_append_of_le_length (by omega),List.take_of_length_le (by omega),List.drop_eq_nil_of_le (by rw [List.length_append,List.length_drop];omega),List.append_nil]
 have HRW:Hid (RwU w4 (w.heap.size + 3) 0 (Cx.encB enc (g ++ h))):=by
  have e:=HE.out.1
  rw [es,HZX.out,HZY.out,← List.map_append,← Cx.encB_app] at e
  exact RwU.of e
 have HB4:=hidIt HE.out.2
 have HLG:=hidIt (show ln enc (g ++ h)=n + m by rw [ln_app,HN.out,HM.out])
 clear es HE HZX HZY HSX HSY h1x h1y HLX HLY
 go_wp2_with fail
 go_loopg [9] h.length (fun gk k wr=>∃ j:Nat,j + gk=h.length∧k=.int .i64 (ln enc (h.take j):Nat)∧Hid (Gr enc (g ++ h.take j))∧Hid (Below w4.heap.size w4 wr))
 case atStart=>exact ⟨0,by omega,rfl,by rw [List.take_zero,List.append_nil];exact HPX.out.gr,Below.refl _ _⟩
 case round =>
  obtain ⟨j,hj,rfl,HGR,HBR⟩:=hrel
  have HBZ:=hidIt (HB4.out.trans (HBR.out.mono HB4.out.size))
  obtain ⟨c0,c1⟩:=HX.out.1 wr HBZ.out
  by_cases hi':j < h.length
  ·obtain ⟨q1,a,sz,hf,hq,ho,hs1,hfit,hsz⟩:=off_step enc HEN.out (Cx.encB enc h) HPY.out.gr.byt j (by rw [HPY.out.gr.dec];exact hi')
   rw [off_gr HPY.out.gr] at q1 hf ho
   rw [off_gr HPY.out.gr] at ho
   rw [HPY.out.gr.dec] at hq
   have et:h.take (j + 1)=h.take j ++ [a]:=by rw [List.take_add_one,hq];rfl
   have hk1:ln enc (h.take (j + 1))≤m:=by
    have:=ln_app enc (h.take (j + 1)) (h.drop (j + 1))
    rw [List.take_append_drop,← HM.out] at this
    omega
   have hdm:m≤4611686018427387904:=by omega
   have NX:=hidIt (Next_any enc HEN.out _ (Cx.encB enc h) (ln enc (h.take j)) wr ((HPY.out.ext (ext_trans HB0.out HBZ.out)).rd (by rw [← HM.out];exact hdm)) HPY.out.gr.byt q1)
   rw [hf,HPY.out.xn,HPY.out.xc,← HM.out] at NX
   have EW:Hid (∀ w1,Below wr.heap.size wr w1→Calls Tryz.prog 113 #[.int .i64 enc,.slice (some ⟨w.heap.size + 3,0,none⟩) (n + (ln enc (h.take j) + sz)) (n + m),.int .i64 a] w1 fun e w'=>e=.returned (.bool (decide ((Cx.lst enc (Cx.encB enc (g ++ h.take (j + 1)))).1=a)))∧Below w1.heap.size w1 w'):=fun w1 hb=>by
    have r1:=((HRW.out.ext HBR.out).ext hb).part 0 (ln enc (g ++ h.take (j + 1))) (by rw [Nat.zero_add,show (Cx.encB enc (g ++ h)).length=ln enc (g ++ h) from rfl,HLG.out,ln_app,← HN.out];omega)
    have e2:((Cx.encB enc (g ++ h)).drop 0).take (ln enc (g ++ h.take (j + 1)))=Cx.encB enc (g ++ h.take (j + 1)):=by
     have e3:Cx.encB enc (g ++ h)=Cx.encB enc (g ++ h.take (j + 1)) ++ Cx.encB enc (h.drop (j + 1)):=by rw [← Cx.encB_app,List.append_assoc,List.take_append_drop]
     rw [List.drop_zero,e3]
     exact List.take_left' rfl
    rw [e2] at r1
    have r2:=r1.rd (n + m) (by rw [show (Cx.encB enc (g ++ h.take (j + 1))).length=ln enc (g ++ h.take (j + 1)) from rfl,ln_app,← HN.out];omega) (by omega)
    rw [show (Cx.encB enc (g ++ h.take (j + 1))).length=n + (ln enc (h.take j) + sz) by show ln enc (g ++ h.take (j + 1))=_;rw [ln_app,← HN.out,ho]] at r2
    refine endsWith_any enc HEN.out _ _ a w1 r2 (encB_byt enc _ fun b hb=>?_) ?_
    ·rcases List.mem_append.1 hb with h1 | h1
     ·exact HPX.out.gr.fit b h1
     ·exact HPY.out.gr.fit b (List.mem_of_mem_take h1)
    ·show 0 < ln enc (g ++ h.take (j + 1));rw [ln_app,← HN.out];omega
   have SN:Hid (decide ((Cx.lst enc (Cx.encB enc (g ++ h.take (j + 1)))).1=a)=true→Gr enc (g ++ h.take (j + 1))):=fun hd=>by
    rw [decide_eq_true_eq,et,← List.append_assoc] at hd
    rw [et,← List.append_assoc]
    exact HGR.out.snoc HEN.out hfit hd
   have HO:=hidIt ho
   generalize hq0:decide ((Cx.lst enc (Cx.encB enc (g ++ h.take (j + 1)))).1=a)=qb at EW SN
   have q1':((ln enc (h.take j):Nat):Int) < (m:Int):=by
    have:ln enc (h.take j) < m:=by rw [HM.out];exact q1
    omega
   rw [ho] at hk1
   clear hq0 ho et hf hq hsz q1
   generalize ln enc (h.take j)=k at *
   cases qb
   case false =>
    go_wp2_with (first | (go_at_call 88;refine NX.out.mono ?_;clear c0 c1;rintro e w5 ⟨rfl,hb5⟩;have HB5:=hidIt hb5;clear hb5;obtain ⟨c0,c1⟩:=HX.out.1 w5 (HBZ.out.trans (HB5.out.mono HBZ.out.size))) | (go_at_call 113;refine (EW.out w5 HB5.out).mono ?_;clear c0 c1;rintro e w6 ⟨rfl,hb6⟩;have HB6:=hidIt (ext_trans HB5.out hb6);clear hb6;obtain ⟨z0,_,zf⟩:=(HK.out.2.2.ext (HBZ.out.trans (HB6.out.mono HBZ.out.size))).cells;have hz6:w.heap.size + 2 < w6.heap.size:=(HK.out.2.2.ext (HBZ.out.trans (HB6.out.mono HBZ.out.size))).lt))
    obtain ⟨p1,p2⟩:=(HK.out.2.2.ext (HBZ.out.trans (HB6.out.mono HBZ.out.size))).put It.zero
    have FB:=hidIt (below_put (ext_trans HB0.out (HBZ.out.trans (HB6.out.mono HBZ.out.size))) (ext_trans HB0.out (HBZ.out.trans (HB6.out.mono HBZ.out.size))).size p2 (by omega))
    exact bodyPost_ret (v:=.tuple #[.agg #[.slice It.zero.p It.zero.n It.zero.c,.int .i64 It.zero.pl,.int .i64 It.zero.sp.a,.int .i64 It.zero.sp.s,.int .i64 It.zero.sp.b,.bool It.zero.sp.lf,.bool It.zero.sp.cr],.bool false]) (by simp [results,Tryz.results138,go_sem,z0,It.zero,Rs.zero]) rfl ⟨It.zero,false,rfl,fun h=>(by cases h),FB.out⟩
   case true =>
    go_wp2_with (first | (go_at_call 88;refine NX.out.mono ?_;clear c0 c1;rintro e w5 ⟨rfl,hb5⟩;have HB5:=hidIt hb5;clear hb5;obtain ⟨c0,c1⟩:=HX.out.1 w5 (HBZ.out.trans (HB5.out.mono HBZ.out.size))) | (go_at_call 113;refine (EW.out w5 HB5.out).mono ?_;clear c0 c1;rintro e w6 ⟨rfl,hb6⟩;have HB6:=hidIt (ext_trans HB5.out hb6);clear hb6))
    go_roundg (h.length - (j + 1))
    case rel=>exact ⟨j + 1,by omega,by rw [HO.out];go_num,SN.out (by first | trivial | rfl),ext_trans HBR.out HB6.out⟩
    case measure=>omega
  ·obtain rfl:j=h.length:=by omega
   have hlt:¬ ((ln enc (h.take h.length):Nat):Int) < (m:Int):=by rw [List.take_length,← HM.out];omega
   rw [List.take_length] at HGR
   have HBA:=hidIt (ext_trans HB0.out HBZ.out)
   obtain ⟨d0,_,_⟩:=(HK.out.1.ext HBZ.out).cells
   obtain ⟨d1,_,_⟩:=(HK.out.2.1.ext HBZ.out).cells
   have AD:Hid (∀ w',Calls Tryz.prog 83 #[.agg #[.int .i64 x.sp.a,.int .i64 x.sp.s,.int .i64 x.sp.b,.bool x.sp.lf,.bool x.sp.cr],.agg #[.int .i64 y.sp.a,.int .i64 y.sp.s,.int .i64 y.sp.b,.bool y.sp.lf,.bool y.sp.cr]] w' fun e w''=>∃ r,Hid (r=spn enc (g ++ h))∧e=.returned (.agg #[.int .i64 r.a,.int .i64 r.s,.int .i64 r.b,.bool r.lf,.bool r.cr])∧Below w'.heap.size w' w''):=fun w'=>by
    rw [HPX.out.sp,HPY.out.sp]
    have k1:=spn_ok enc g
    have k2:=spn_ok enc h
    have k3:=spn_a enc g HPX.out.gr.fit
    have k4:=spn_a enc h HPY.out.gr.fit
    have k5:=ln_ge enc g
    have k6:=ln_ge enc h
    have k7:=spn_b enc g
    have k8:=spn_b enc h
    have k9:=HN.out
    have k10:=HM.out
    refine (Add_any _ _ w' k1.a0 k2.a0 k1.s0 k2.s0 k1.b0 k2.b0 (by omega) (by omega) (by omega)).mono fun e w'' ⟨r,h1,h2,h3⟩=>⟨r,?_,h2,h3⟩
    unfold Hid
    rw [h1.out,spn_app]
   generalize ln enc (h.take h.length)=k at *
   clear c0
   go_wp2_with (go_at_call 83;refine (AD.out wr).mono ?_;clear c1 d0 d1;rintro e w5 ⟨r,HR,rfl,hb5⟩;have HB5:=hidIt hb5;clear hb5;obtain ⟨z0,_,zf⟩:=(HK.out.2.2.ext (HBZ.out.trans (HB5.out.mono HBZ.out.size))).cells;have hz6:w.heap.size + 2 < w5.heap.size:=(HK.out.2.2.ext (HBZ.out.trans (HB5.out.mono HBZ.out.size))).lt)
   have HRO:Rs.Ok r:=by rw [HR.out];exact spn_ok _ _
   obtain ⟨p1,p2⟩:=(HK.out.2.2.ext (HBZ.out.trans (HB5.out.mono HBZ.out.size))).put (⟨some ⟨w.heap.size + 3,0,none⟩,n + m,n + m,-1,r,HRO⟩:It)
   have FB:=hidIt (below_put (ext_trans HB0.out (HBZ.out.trans (HB5.out.mono HBZ.out.size))) (ext_trans HB0.out (HBZ.out.trans (HB5.out.mono HBZ.out.size))).size p2 (by omega))
   have FR:=hidIt (((HRW.out.ext HBR.out).ext HB5.out).same (p2.block (w.heap.size + 3) ((HRW.out.ext HBR.out).ext HB5.out).lt (by simp)))
   refine bodyPost_ret (v:=.tuple #[.agg #[.slice (some ⟨w.heap.size + 3,0,none⟩) (n + m) (n + m),.int .i64 (-1),.int .i64 r.a,.int .i64 r.s,.int .i64 r.b,.bool r.lf,.bool r.cr],.bool true]) (by simp [results,Tryz.results138,go_sem,z0]) rfl ⟨⟨some ⟨w.heap.size + 3,0,none⟩,n + m,n + m,-1,r,HRO⟩,true,rfl,fun _=>⟨⟨HGR.out,⟨_,_,rfl,FR.out⟩,HLG.out.symm,HLG.out.symm,HR.out,.inl rfl⟩,rfl⟩,FB.out⟩
end Go.Proofs.YtjomfbegghgbdaaGreat.P
