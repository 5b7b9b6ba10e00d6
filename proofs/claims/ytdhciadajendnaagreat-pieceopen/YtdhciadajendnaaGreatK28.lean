import Derived.Test.YtdhciadajendnaaGreatK27
import Derived.Test.YtdhciadajendnaaGreatK08
import Derived.Test.YtdhciadajendnaaGreatK09
import Derived.RegionIn
import Derived.ControlIn
set_option maxRecDepth 100000
namespace Go.Proofs.YtdhciadajendnaaGreat.P
open Go.RowKit Go.Shelf
attribute [local go_sem] Oper.semAt_some
theorem put4 {T:TypeId} {w:World} {g:Nat} {a0 a1 a2 a3:Value} (h:w.heap[g]?=some (.cells #[a0,a1,a2,a3] T (0,0))) (x0 x1 x2 x3:Value) :
  ((((w.setCell ⟨g,0,none⟩ x0).setCell ⟨g,1,none⟩ x1).setCell ⟨g,2,none⟩ x2).setCell ⟨g,3,none⟩ x3).heap[g]?=some (.cells #[x0,x1,x2,x3] T (0,0))∧Kps (fun k=>k=g) w ((((w.setCell ⟨g,0,none⟩ x0).setCell ⟨g,1,none⟩ x1).setCell ⟨g,2,none⟩ x2).setCell ⟨g,3,none⟩ x3):=by
 obtain ⟨p0,q0⟩:=set1 h 0 x0
 obtain ⟨p1,q1⟩:=set1 p0 1 x1
 obtain ⟨p2,q2⟩:=set1 p1 2 x2
 obtain ⟨p3,q3⟩:=set1 p2 3 x3
 have k:∀ {A B:World},A.grownBy B (some g)→Kps (fun k=>k=g) A B:=fun h=>Kps.grown h fun j e _=>(Option.some.inj e).symm
 exact ⟨p3,(((k q0).trans (k q1) fun _ _ e=>e).trans (k q2) fun _ _ e=>e).trans (k q3) fun _ _ e=>e⟩
def calm (Q:Exit→Act→World→Prop):Exit→Act→World→Prop
 | .panic _,_,_=>False
 | .outgrown,_,_=>False
 | e,a,w=>Q e a w
theorem calm_imp {Q:Exit→Act→World→Prop} {e:Exit} {a:Act} {w:World} (h:calm Q e a w):Q e a w:=by
 cases e with
 | panic c=>exact h.elim
 | outgrown=>exact h.elim
 | _=>exact h
theorem range_cut {P:Program} {x:Code} {K:Act→World→Prop} {Q':Exit→Act→World→Prop} {a:Act} {w:World} (d:Deferred) (M:World→Prop) (hk:∀ W,M W→K { a with defers:=d :: a.defers } W)
  (hr:x.wpIn Fence.wide 9 P (Exit.then (fun a' W=>a'={ a with defers:=d :: a.defers }∧M W) (fun _ _ _=>False)) a w):x.wp P (Exit.then K Q') a w :=
 (wpIn_wide (n:=9)).1 (wpIn_mono hr fun e a' W h=>by
  cases e with
  | normal=>obtain ⟨rfl,h⟩:=h;exact hk W h
  | _=>exact h.elim)
structure RwG (enc:Int) (g b9 b10 fr tt:Nat) (lv:Value) (vo:Value) (pre:List It) (W:World):Prop where
 wr:W.heap[g]?=some (.cells #[.int .i64 enc,lv,vo,.slice none 0 0] 156 (0,0))
 own:OwnR W 0 97 vo pre
 f:W.heap[b9]?=some (.cells #[.int .i64 fr] 3 (0,0))
 t:W.heap[b10]?=some (.cells #[.int .i64 tt] 3 (0,0))
 le:pre.length≤tt - fr
def rwO (g:Nat) (vo:Value) (k:Nat):Prop:=k=g∨vo.ownBlock=some k
theorem RwG.same {enc:Int} {g b9 b10 fr tt:Nat} {lv vo:Value} {pre:List It} {W W':World} (h:RwG enc g b9 b10 fr tt lv vo pre W) (hk:∀ k,rwO g vo k∨(k=b9∨k=b10)→W'.heap[k]?=W.heap[k]?):RwG enc g b9 b10 fr tt lv vo pre W':=by
 refine ⟨by rw [hk g (.inl (.inl rfl))];exact h.wr,?_,by rw [hk b9 (.inr (.inl rfl))];exact h.f,by rw [hk b10 (.inr (.inr rfl))];exact h.t,h.le⟩
 obtain ⟨h1,h2⟩:=h.own
 refine ⟨h1,?_⟩
 rcases h2 with h2 | ⟨k,cap,cur,rfl,hb,hg,r⟩
 ·exact .inl h2
 ·exact .inr ⟨k,cap,cur,rfl,hb,by rw [hk k (.inl (.inr (by simp [Value.ownBlock])))];exact hg,r⟩
theorem RwG.lives {enc:Int} {g b9 b10 fr tt:Nat} {lv vo:Value} {pre:List It} {W:World} (h:RwG enc g b9 b10 fr tt lv vo pre W) (k:Nat) (hk:rwO g vo k):k < W.heap.size:=by
 rcases hk with rfl | hk
 ·exact (Array.getElem?_eq_some_iff.1 h.wr).1
 ·exact (h.own.typ hk).lt
theorem RwG.push {enc:Int} {g b9 b10 fr tt:Nat} {lv vo v':Value} {pre:List It} {W W1 w':World} {x:It} (h:RwG enc g b9 b10 fr tt lv vo pre W) (hlt:pre.length < tt - fr) (hb1:Below W.heap.size W W1) (ho:OwnR w' 0 97 v' (pre ++ [x])) (hg:W1.grownBy w' vo.ownBlock) (hk:v'.ownBlock=vo.ownBlock∨v'.ownBlock=some W1.heap.size) :
  RwG enc g b9 b10 fr tt lv v' (pre ++ [x]) (w'.setCell ⟨g,2,none⟩ v')∧Kps (rwO g vo) W (w'.setCell ⟨g,2,none⟩ v')∧Newer (rwO g) vo v' W:=by
 have hgl:=h.lives g (.inl rfl)
 have gne:∀ k,vo.ownBlock=some k→k≠g:=fun k e he=>by subst he;exact absurd ((h.own.typ e).uniq ⟨_,h.wr⟩) (by decide)
 have z1:=hb1.size
 have z2:=hg.size
 have kk:Kps (rwO g vo) W1 w':=Kps.grown hg fun j e _=>.inr e
 have same:∀ k,k < W.heap.size→vo.ownBlock≠some k→w'.heap[k]?=W.heap[k]?:=fun k hk hne=>(hg.block k (by omega) (fun e=>hne e.symm)).trans (hb1.block k hk)
 have hwr':w'.heap[g]?=some (.cells #[.int .i64 enc,lv,vo,.slice none 0 0] 156 (0,0)):=(same g hgl (fun e=>gne g e rfl)).trans h.wr
 obtain ⟨p1,p2⟩:=set1 hwr' 2 v'
 have ne9:∀ b,(∃ c,W.heap[b]?=some (.cells #[.int .i64 c] 3 (0,0)))→b≠g∧vo.ownBlock≠some b:=fun b ⟨c,hc⟩=>by
  refine ⟨fun e=>?_,fun e=>?_⟩
  ·subst e;exact absurd (Typ.uniq (T:=3) (U:=156) ⟨_,hc⟩ ⟨_,h.wr⟩) (by decide)
  ·exact absurd (Typ.uniq (T:=3) ⟨_,hc⟩ (h.own.typ e)) (by decide)
 have e9:=ne9 b9 ⟨_,h.f⟩
 have e10:=ne9 b10 ⟨_,h.t⟩
 have l9:=(Array.getElem?_eq_some_iff.1 h.f).1
 have l10:=(Array.getElem?_eq_some_iff.1 h.t).1
 have vg:v'.ownBlock≠some g:=fun e=>by
  rcases hk with hk | hk
  ·rw [hk] at e;exact gne g e rfl
  ·rw [hk] at e;simp only [Option.some.injEq] at e;omega
 refine ⟨⟨p1,World.ownsRow.kept ho p2 (.inr vg),?_,?_,by rw [List.length_append];simp;omega⟩,?_,?_⟩
 ·exact (p2.block b9 (by omega) (fun e=>e9.1 (Option.some.inj e))).trans ((same b9 l9 e9.2).trans h.f)
 ·exact (p2.block b10 (by omega) (fun e=>e10.1 (Option.some.inj e))).trans ((same b10 l10 e10.2).trans h.t)
 ·refine ((Kps.of_below (rwO g vo) hb1).trans kk fun _ _ e=>e).trans (Kps.grown p2 fun j e _=>?_) fun _ _ e=>e
  cases e;exact .inl rfl
 ·rintro k (e | e)
  ·exact .inl (.inl e)
  ·rcases hk with hk | hk
   ·rw [hk] at e;exact .inl (.inr e)
   ·rw [hk] at e;simp only [Option.some.injEq] at e;exact .inr (by omega)
def RwM (enc:Int) (g b9 b10 fr tt:Nat) (lv:Value) (os:List It) (w:World) (W:World):Prop :=
 ∃ vo,RwG enc g b9 b10 fr tt lv vo os W∧Kps (fun k=>k=g) w W∧(∀ k,vo.ownBlock=some k→w.heap.size≤k)∧W.heap[w.heap.size]?=some (.deferred (some []))∧vo.ownBlock≠some w.heap.size
theorem RwG.wr' {enc:Int} {g b9 b10 fr tt:Nat} {lv vo:Value} {os:List PG} {W:World} {L:List Int} (h:RwG enc g b9 b10 fr tt lv vo (xsOf os) W) (hL:LdR W lv L) (hP:Pcs enc L W os):∃ bo,Wr enc L g bo W lv vo (.slice none 0 0) os []∧(bo=g∨vo.ownBlock=some bo):=by
 have hm:OwnR W 0 97 (.slice none 0 0) (xsOf []):=OwnR.nil _ _ _
 have hg:=(Array.getElem?_eq_some_iff.1 h.wr).1
 cases os with
 | nil =>
   obtain ⟨ao,cap,hv⟩:=h.own.form1
   refine ⟨g,⟨h.wr,hL,.inl ⟨rfl,ao,cap,hv⟩,hm,hP,Pcs.nil _ _ _,hg,by simp [Value.ownBlock],?_⟩,.inl rfl⟩
   rintro ⟨cs,e⟩
   rw [h.wr] at e
   simp only [Option.some.injEq,Obj.cells.injEq] at e
   exact absurd e.2.1 (by decide)
 | cons q os =>
   obtain ⟨k,cap,rfl,_,k2,k3,k4,k5⟩:=h.own.row (by rw [xsOf_len];simp)
   refine ⟨k,⟨h.wr,hL,.inr ⟨0,cap,rfl,k3,k4,k5⟩,hm,hP,Pcs.nil _ _ _,k2,by simp [Value.ownBlock],fun e=>absurd (e.uniq k5.typ) (by decide)⟩,.inr (by simp [Value.ownBlock])⟩
def RwL (enc:Int) (L:List Int) (g bo:Nat) (W:World) (lv:Value) (l:List (Int × Int)) (base:Nat) (es:List Ed) (j q:Nat) (wr:World):Prop :=
 ∃ vo1 vm1 os1 ms1,Wr enc L g bo wr lv vo1 vm1 os1 ms1∧RwJ enc l base es j q (sh enc ms1) (sh enc os1)∧Kps (ow g bo (.slice none 0 0)) W wr∧Nwr (.slice none 0 0) vm1 W
def RwE (enc:Int) (L:List Int) (g bo:Nat) (W:World) (lv vo1:Value) (os1:List PG) (T:List (Int × Int)) (i:Nat) (wr:World):Prop :=
 ∃ vm2 ms2,Wr enc L g bo wr lv vo1 vm2 os1 ms2∧sh enc ms2=T ++ sh enc (os1.take i)∧Kps (ow g bo (.slice none 0 0)) W wr∧Nwr (.slice none 0 0) vm2 W
theorem box2 {g bo n:Nat} {wb w':World} {vm:Value} {o:Obj} (hg:g < n) (hb:bo < n) (hv:vm.ownBlock≠some n) (hb0:wb.heap[n]?=some o) (hk:Kps (ow g bo vm) wb w'):w'.heap[n]?=some o :=
 (hk.same _ (Array.getElem?_eq_some_iff.1 hb0).1 (by rintro (e | e | e);omega;omega;exact hv e)).trans hb0
theorem Nwr.nb {vm vm':Value} {w:World} {n:Nat} (h:Nwr vm vm' w) (hv:vm.ownBlock≠some n) (hn:n < w.heap.size):vm'.ownBlock≠some n:=by
 rcases h with h | ⟨k,h,hk⟩
 ·rw [h];exact hv
 ·rw [h];intro e;cases e;omega
theorem Wr.box {enc:Int} {L:List Int} {g bo:Nat} {wr wb w':World} {lv vo vm:Value} {os ms:List PG} {o:Obj} (h:Wr enc L g bo wr lv vo vm os ms) (hb:wb.heap[wr.heap.size]?=some o) (hk:Kps (ow g bo vm) wb w'):w'.heap[wr.heap.size]?=some o :=
 (hk.same _ (Array.getElem?_eq_some_iff.1 hb).1 (fun e=>by have:=h.own_lt e;omega)).trans hb
set_option maxHeartbeats 8000000 in
theorem rewrite_any (enc lim:Int) (L:List Int) (t:Nat) (ps0:List PG):RwOk enc lim L t ps0:=by
 intro w u v es qs hT hTT hP hE hne hr hf hl hle
 have hel:0 < es.length:=List.length_pos_iff.2 hne
 obtain ⟨e0,he0⟩:∃ e,es[0]?=some e:=⟨_,List.getElem?_eq_getElem hel⟩
 obtain ⟨e1,he1⟩:∃ e,es[es.length - 1]?=some e:=⟨_,List.getElem?_eq_getElem (by omega)⟩
 obtain ⟨f,tl,hf0,ht1,hft,htn,_⟩:=rg_ends es 0 (by omega) hr e0 e1 he0 he1
 have Fz:=zh (find_span hP f tl hft htn)
 obtain ⟨n1,hn1⟩:∃ n1,n1=rA.fnd 0 f Rs.zero (xsOf qs):=⟨_,rfl⟩
 obtain ⟨n2,hn2⟩:∃ n2,n2=rA.fnd 0 ((tl:Int) + 1) Rs.zero (xsOf qs):=⟨_,rfl⟩
 rw [← hn1,← hn2] at Fz
 have hql:qs.length≤1000000:=by have:=hP.len;have:=ln_ge enc (asOf qs);omega
 have hwt:wt (xsOf qs)≤4000000:=by have:=hP.wt;omega
 have hsl:(sh enc qs).length≤1000000:=by rw [sh_len];have:=ln_ge enc (asOf qs);omega
 have hn1l:n1≤qs.length + 1:=by have:=rA.fnd_le 0 f (xsOf qs) Rs.zero;rw [xsOf_len] at this;omega
 have hn2l:n2≤qs.length + 1:=by have:=rA.fnd_le 0 ((tl:Int) + 1) (xsOf qs) Rs.zero;rw [xsOf_len] at this;omega
 have FD1:Hid (∀ w',Below w.heap.size w w'→Calls Tryz.prog 93 #[.agg #[.pointer u],.int .i64 0,.int .i64 f] w' fun e w''=>e=.returned (.int .i64 (n1:Nat))∧Below w'.heap.size w' w''):=fun w' hb=>by rw [hn1];exact Find_any u (xsOf qs) 0 f w' (hTT.ext hb) (by omega)
 have FD2:Hid (∀ w',Below w.heap.size w w'→Calls Tryz.prog 93 #[.agg #[.pointer u],.int .i64 0,.int .i64 ((tl:Int) + 1)] w' fun e w''=>e=.returned (.int .i64 (n2:Nat))∧Below w'.heap.size w' w''):=fun w' hb=>by rw [hn2];exact Find_any u (xsOf qs) 0 ((tl:Int) + 1) w' (hTT.ext hb) (by omega)
 have SZ:Hid (∀ w',Below w.heap.size w w'→Calls Tryz.prog 94 #[.agg #[.pointer u]] w' fun e w''=>e=.returned (.int .i64 (qs.length:Nat))∧Below w'.heap.size w' w''):=fun w' hb=>by have:=Size_any u (xsOf qs) w' (hTT.ext hb);rwa [xsOf_len] at this
 obtain ⟨fr,hfr⟩:∃ fr,fr=n1 - 1:=⟨_,rfl⟩
 obtain ⟨tt,htt⟩:∃ tt,tt=min n2 qs.length:=⟨_,rfl⟩
 rw [← hfr,← htt] at Fz
 have hfrl:fr≤1000000:=by omega
 have httl:tt≤qs.length:=by omega
 have UP:Hid (∀ w',Below w.heap.size w w'→Calls Tryz.prog 95 #[.agg #[.pointer u],.int .i64 (fr:Nat)] w' fun e w''=>∃ s,Hid (s=rA.su ((xsOf qs).take fr))∧e=.returned (.agg #[.int .i64 s.a,.int .i64 s.s,.int .i64 s.b,.bool s.lf,.bool s.cr])∧Below w'.heap.size w' w''):=fun w' hb=>by have:=Upto_any u (xsOf qs) (fr:Nat) w' (hTT.ext hb) (by omega) (by omega);rwa [Int.toNat_natCast] at this
 obtain ⟨lv,u0,⟨c0w,_,c2w,_⟩,hld,_,htl⟩:=hT.cells
 obtain ⟨bl,ol,cl,hlv,_,_,_⟩:=id hld
 have HLD:=zh hld
 subst hlv
 clear hld
 have HT:=zh hT
 obtain ⟨ml,hml⟩:∃ ml,es.length=ml + 1:=⟨es.length - 1,by omega⟩
 obtain ⟨ao,cap,hv,hcap1,hcap2,hed⟩:=id hE
 rw [hml] at hv hcap1
 subst hv
 obtain ⟨eb,eo,rfl,heb,hec⟩:=hed hne
 have d0:=(hec 0 e0 he0).1
 rw [hml,Nat.add_sub_cancel] at he1
 have d1:=(hec ml e1 he1).2.1
 rw [hf0] at d0
 rw [ht1] at d1
 rw [Nat.zero_mul,Nat.add_zero] at d0
 have HE:=zh hE
 have HTT:=zh hTT
 have HP:=zh hP
 have HEC:Hid (∀ w',Below w.heap.size w w'→w'.cell? ⟨eb,eo,none⟩=some (.int .i64 f)∧w'.cell? ⟨eb,eo + ml * 3 + 1,none⟩=some (.int .i64 tl)):=fun w' hb=>⟨(hb.cell (p:=⟨eb,_,none⟩) heb).trans d0,(hb.cell (p:=⟨eb,_,none⟩) heb).trans d1⟩
 have HR:=zh hr
 have hml2:ml≤1000000:=by omega
 have HML:=zh hml
 have HRG:Hid (∀ (b:Nat) (m:Nat),b≤f→tl≤m→rg m b es=true):=fun b m h1 h2=>rg_head (rg_last es 0 m hr (fun e he=>by rw [List.getLast?_eq_getElem?,hml,Nat.add_sub_cancel,he1] at he;cases he;rw [ht1];omega)) he0 (by rw [hf0];omega)
 have HFR:=zh hfr
 have HTM:=zh htt
 have hmlt:(ml:Int) < (ml:Int) + 1:=by omega
 have hwm:IntKind.i64.wrap (ml:Int)=(ml:Int):=by rw [IntKind.wrap_i64];omega
 clear hT hTT hP hE hed hec hr hn1 hn2 hml he0 he1 hle hel hne hfr htt hf0 ht1
 refine (callsIn_wide (n:=9)).1 ?_
 refine callsIn_of_wp_marks Tryz.func64 rfl trivial ?_ rfl
 simp only [Tryz.ntmps64,List.size_toArray,List.length_cons,List.length_nil,Nat.reduceAdd,Nat.reduceSub,Array.replicate_succ,Array.replicate_zero,List.push_toArray,List.append_toArray,List.nil_append,List.cons_append]
 refine wpIn_mono (Q:=calm _) ?_ (fun _ _ _ h=>calm_imp h)
 refine wpIn_wide.2 ?_
 go_upto_region 1 with fail
 obtain ⟨w0,hw0,k4,k6,hb0,hs0⟩:∃ w0,w0=(w.alloc (.cells #[.pointer u] 90)).alloc (.cells #[.pointer none] 90)∧w0.heap[w.heap.size]?=some (.cells #[.pointer u] 90 (0,0))∧w0.heap[w.heap.size + 1]?=some (.cells #[.pointer none] 90 (0,0))∧Below w.heap.size w w0∧w0.heap.size=w.heap.size + 2:=by
  refine ⟨_,rfl,?_,?_,zxa (zxa (Below.refl _ _) _) _,by simp⟩
  ·exact (Below.heap_alloc _ _ _ (by simp)).trans (heap_alloc_new _ _)
  ·have e:w.heap.size + 1=(w.alloc (.cells #[.pointer u] 90)).heap.size:=by simp
   rw [e]
   exact heap_alloc_new _ _
 rw [← hw0]
 clear hw0
 have HK4:=zh k4
 have HK6:=zh k6
 have HB0:=zh hb0
 have HS0:=zh hs0
 clear k4 k6 hb0 hs0 d0 d1
 obtain ⟨d0,d1⟩:=HEC.out w0 HB0.out
 refine wp_region_held_drew (S:=fun w''=>w''.cell? ⟨eb,eo,none⟩=some (.int .i64 f)∧w''.cell? ⟨eb,eo + ml * 3 + 1,none⟩=some (.int .i64 tl)) (by kernel_rfl) (⟨d0,d1⟩) (fun _=>?_)
 refine tkH 0 rfl ?_
 refine tkH 1 rfl ?_
 refine tkH 2 rfl ?_
 refine tkH 3 rfl ?_
 refine tkH 4 rfl ?_
 refine tkH 5 rfl ?_
 refine tkH 6 rfl ?_
 refine tkH 7 rfl ?_
 refine tkH 8 rfl ?_
 refine tkH 9 rfl ?_
 refine tkH 10 rfl ?_
 refine tkH 11 rfl ?_
 refine tkH 12 rfl ?_
 refine dnH ?_
 skip
 clear d0 d1
 generalize hwd:World.drew _=v0
 have HK4:Hid (v0.heap[w.heap.size]?=some (.cells #[.pointer u] 90 (0,0))):=by unfold Hid;rw [← hwd];exact HK4.out
 have HK6:Hid (v0.heap[w.heap.size + 1]?=some (.cells #[.pointer none] 90 (0,0))):=by unfold Hid;rw [← hwd];exact HK6.out
 have HB0:Hid (Below w.heap.size w v0):=by unfold Hid;rw [← hwd];exact HB0.out.drew
 have HS0:Hid (v0.heap.size=w.heap.size + 2):=by unfold Hid;rw [← hwd];exact HS0.out
 clear hwd
 have HC4:Hid (∀ w',Below v0.heap.size v0 w'→w'.cell? ⟨w.heap.size,0,none⟩=some (.pointer u)):=fun w' hb=>by
  have e:=(hb.block w.heap.size (Array.getElem?_eq_some_iff.1 HK4.out).1).trans HK4.out
  rw [cell_of_row w' _ _ _ _ _ e];rfl
 have hnx:∀ (w1:World) (x:Int),Below v0.heap.size v0 w1→(w1.alloc (.cells #[.int .i64 x] 3)).heap[w1.heap.size]?=some (.cells #[.int .i64 x] 3 (0,0))∧Below v0.heap.size v0 (w1.alloc (.cells #[.int .i64 x] 3)):=fun w1 x hb=>⟨heap_alloc_new _ _,zxa hb _⟩
 have HNX:=zh hnx
 clear hnx
 go_upto_region 2 with fail
 go_cut [9] from 31 to 35 (fun p wF=>∃ b9:Nat,p=.pointer (some ⟨b9,0,none⟩)∧Hid (v0.heap.size≤b9∧wF.heap[b9]?=some (.cells #[.int .i64 fr] 3 (0,0))∧Below v0.heap.size v0 wF))
 ·have c4:=HC4.out v0 (Below.refl _ _)
  rcases Nat.eq_zero_or_pos n1 with h0 | h0
  ·subst h0
   obtain rfl:fr=0:=HFR.out
   go_wp2_with (go_at_call 93;refine (FD1.out _ HB0.out).mono ?_;rintro e w1 ⟨rfl,hb1⟩;have HB1:=zh hb1;clear hb1;(try dsimp only))
   go_meet
   case rel=>exact ⟨w1.heap.size,rfl,HB1.out.size,HNX.out w1 0 HB1.out⟩
  ·obtain rfl:n1=fr + 1:=by have:=HFR.out;omega
   go_wp2_with (go_at_call 93;refine (FD1.out _ HB0.out).mono ?_;rintro e w1 ⟨rfl,hb1⟩;have HB1:=zh hb1;clear hb1;(try dsimp only))
   go_meet
   case rel=>exact ⟨w1.heap.size,rfl,HB1.out.size,HNX.out w1 fr HB1.out⟩
 obtain ⟨b9,rfl,H9⟩:=hcut
 obtain ⟨v1,rfl⟩:∃ v1,v1=wc:=⟨_,rfl⟩
 have HB1:=zh (zxt HB0.out H9.out.2.2)
 have HC4':Hid (∀ w',Below v1.heap.size v1 w'→w'.cell? ⟨w.heap.size,0,none⟩=some (.pointer u)):=fun w' hb=>HC4.out w' (zxt H9.out.2.2 hb)
 have hwt2:IntKind.i64.wrap ((tl:Int) + 1)=(tl:Int) + 1:=by rw [IntKind.wrap_i64];omega
 go_upto_region 3 with fail
 go_cut [10] from 36 to 42 (fun p wF=>∃ b10:Nat,p=.pointer (some ⟨b10,0,none⟩)∧Hid (v1.heap.size≤b10∧wF.heap[b10]?=some (.cells #[.int .i64 tt] 3 (0,0))∧Below v1.heap.size v1 wF))
 ·have HBc:=zh (Below.refl v1.heap.size v1)
  have c4:=HC4'.out v1 HBc.out
  rcases Nat.lt_or_ge qs.length n2 with hm | hm
  ·have HTV:=zh (show tt=qs.length by have:=HTM.out;omega)
   have hm':(qs.length:Int) < (n2:Int):=by omega
   have hm2:¬ (n2:Int)≤(qs.length:Int):=by omega
   refine wp_region_held_drew (S:=fun w''=>w''.cell? ⟨w.heap.size,0,none⟩=some (.pointer u)) (by kernel_rfl) (c4) (fun _=>?_)
   refine tkH 0 rfl ?_
   refine tkH 1 rfl ?_
   refine tkH 2 rfl ?_
   refine tkH 4 rfl ?_
   refine wpAnyH_ready (rs:=[3,7]) (by kernel_rfl) (by simp) ?_
   refine (AllReadyH.cons (o:=_) rfl (fun K hK=>?_) (AllReadyH.cons (o:=_) rfl (fun K hK=>?_) AllReadyH.nil))
   ·skip
    go_simp
    refine (FD2.out _ (zxt HB1.out HBc.out).drew).mono ?_;clear c4;rintro e x1 ⟨rfl,hb⟩;have hst:Below v1.heap.size v1 x1:=zxt (Below.drew (Below.refl _ _)) hb;clear hb;have HBn:=zh (zxt HBc.out hst);clear HBc;have HBc:=HBn;clear HBn;have c4:=HC4'.out x1 HBc.out;clear hst;try dsimp only
    refine hK.out _ _ ?_ (fun _=>?_)
    ·(try simp only [World.cell?_drew]);exact HC4'.out x1 HBc.out
    clear hK K
    try simp only [Act.put,tS]
    refine wpAnyH_ready (rs:=[5,7]) (by kernel_rfl) (by simp) ?_
    refine (AllReadyH.cons (o:=_) rfl (fun K hK=>?_) (AllReadyH.cons (o:=_) rfl (fun K hK=>?_) AllReadyH.nil))
    ·skip
     go_simp
     refine (SZ.out _ (zxt HB1.out HBc.out)).mono ?_;clear c4;rintro e x2 ⟨rfl,hb⟩;have hst:Below x1.heap.size x1 x2:=hb;clear hb;have HBn:=zh (zxt HBc.out hst);clear HBc;have HBc:=HBn;clear HBn;have c4:=HC4'.out x2 HBc.out;clear hst;try dsimp only
     refine hK.out _ _ ?_ (fun _=>?_)
     ·(try simp only [World.cell?_drew]);exact HC4'.out x2 HBc.out
     clear hK K
     try simp only [Act.put,tS]
     refine tkH 6 rfl ?_
     refine rdH 7 rfl fun K hK=>?_
     go_simp
     generalize hwN:World.alloc _ _=x3;have hst:Below x2.heap.size x2 x3:=(by rw [← hwN];exact zxa (Below.refl _ _) _);have hsz:=HBc.out.size;have HLB:=zh hsz;clear hsz;have HBn:=zh (zxt HBc.out hst);clear HBc;have HBc:=HBn;clear HBn;have HA:Hid (x3.heap[x2.heap.size]?=some (.cells #[.int .i64 0] 3 (0,0))):=(by unfold Hid;rw [← hwN];exact heap_alloc_new _ _);clear hwN hst;clear c4;have c4:=HC4'.out x3 HBc.out;have zf:∀ i,x3.frozen? ⟨x2.heap.size,i,none⟩=false:=(fun i=>by simp [World.frozen?,HA.out]);have zc:x3.cell? ⟨x2.heap.size,0,none⟩=some (.int .i64 0):=(by rw [cell_of_row x3 _ _ _ _ _ HA.out];rfl)
     refine hK.out _ _ ?_ (fun _=>?_)
     ·(try simp only [World.cell?_drew]);exact HC4'.out x3 HBc.out
     clear hK K
     try simp only [Act.put,tS]
     refine rdH 8 rfl fun K hK=>?_
     go_simp
     generalize hwN:World.setCell _ _ _=x4;obtain ⟨p1,p2⟩:=set1 HA.out 0 (.int .i64 (qs.length:Nat));rw [hwN] at p1 p2;have HBn:=zh (zbp HBc.out HBc.out.size p2 HLB.out);clear HBc;have HBc:=HBn;clear HBn;clear hwN;have HP1:=zh p1;clear p1 p2 zf zc
     refine hK.out _ _ ?_ (fun _=>?_)
     ·(try simp only [World.cell?_drew]);exact HC4'.out x4 HBc.out
     clear hK K
     try simp only [Act.put,tS]
     refine dnH ?_
     go_wp2_with fail
     go_meet
     case rel=>exact ⟨x2.heap.size,rfl,HLB.out,by rw [HTV.out];exact HP1.out,HBc.out⟩
    ·skip
     go_simp
     generalize hwN:World.alloc _ _=x2;have hst:Below x1.heap.size x1 x2:=(by rw [← hwN];exact zxa (Below.refl _ _) _);have hsz:=HBc.out.size;have HLB:=zh hsz;clear hsz;have HBn:=zh (zxt HBc.out hst);clear HBc;have HBc:=HBn;clear HBn;have HA:Hid (x2.heap[x1.heap.size]?=some (.cells #[.int .i64 0] 3 (0,0))):=(by unfold Hid;rw [← hwN];exact heap_alloc_new _ _);clear hwN hst;clear c4;have c4:=HC4'.out x2 HBc.out;have zf:∀ i,x2.frozen? ⟨x1.heap.size,i,none⟩=false:=(fun i=>by simp [World.frozen?,HA.out]);have zc:x2.cell? ⟨x1.heap.size,0,none⟩=some (.int .i64 0):=(by rw [cell_of_row x2 _ _ _ _ _ HA.out];rfl)
     refine hK.out _ _ ?_ (fun _=>?_)
     ·(try simp only [World.cell?_drew]);exact HC4'.out x2 HBc.out
     clear hK K
     try simp only [Act.put,tS]
     refine rdH 5 rfl fun K hK=>?_
     go_simp
     refine (SZ.out _ (zxt HB1.out HBc.out)).mono ?_;clear c4;rintro e x3 ⟨rfl,hb⟩;have hst:Below x2.heap.size x2 x3:=hb;clear hb;have HBn:=zh (zxt HBc.out hst);clear HBc;have HBc:=HBn;clear HBn;have HAn:=zh ((hst.block _ (Array.getElem?_eq_some_iff.1 HA.out).1).trans HA.out);clear HA;have HA:=HAn;clear HAn;have c4:=HC4'.out x3 HBc.out;clear zf zc;have zf:∀ i,x3.frozen? ⟨x1.heap.size,i,none⟩=false:=(fun i=>by simp [World.frozen?,HA.out]);have zc:x3.cell? ⟨x1.heap.size,0,none⟩=some (.int .i64 0):=(by rw [cell_of_row x3 _ _ _ _ _ HA.out];rfl);clear hst;try dsimp only
     refine hK.out _ _ ?_ (fun _=>?_)
     ·(try simp only [World.cell?_drew]);exact HC4'.out x3 HBc.out
     clear hK K
     try simp only [Act.put,tS]
     refine tkH 6 rfl ?_
     refine rdH 8 rfl fun K hK=>?_
     go_simp
     generalize hwN:World.setCell _ _ _=x4;obtain ⟨p1,p2⟩:=set1 HA.out 0 (.int .i64 (qs.length:Nat));rw [hwN] at p1 p2;have HBn:=zh (zbp HBc.out HBc.out.size p2 HLB.out);clear HBc;have HBc:=HBn;clear HBn;clear hwN;have HP1:=zh p1;clear p1 p2 zf zc
     refine hK.out _ _ ?_ (fun _=>?_)
     ·(try simp only [World.cell?_drew]);exact HC4'.out x4 HBc.out
     clear hK K
     try simp only [Act.put,tS]
     refine dnH ?_
     go_wp2_with fail
     go_meet
     case rel=>exact ⟨x1.heap.size,rfl,HLB.out,by rw [HTV.out];exact HP1.out,HBc.out⟩
   ·skip
    go_simp
    generalize hwN:World.alloc _ _=x1;have hst:Below v1.heap.size v1 x1:=(by rw [← hwN];exact zxa (Below.refl _ _) _);have hsz:=HBc.out.size;have HLB:=zh hsz;clear hsz;have HBn:=zh (zxt HBc.out hst);clear HBc;have HBc:=HBn;clear HBn;have HA:Hid (x1.heap[v1.heap.size]?=some (.cells #[.int .i64 0] 3 (0,0))):=(by unfold Hid;rw [← hwN];exact heap_alloc_new _ _);clear hwN hst;clear c4;have c4:=HC4'.out x1 HBc.out;have zf:∀ i,x1.frozen? ⟨v1.heap.size,i,none⟩=false:=(fun i=>by simp [World.frozen?,HA.out]);have zc:x1.cell? ⟨v1.heap.size,0,none⟩=some (.int .i64 0):=(by rw [cell_of_row x1 _ _ _ _ _ HA.out];rfl)
    refine hK.out _ _ ?_ (fun _=>?_)
    ·(try simp only [World.cell?_drew]);exact HC4'.out x1 HBc.out
    clear hK K
    try simp only [Act.put,tS]
    refine rdH 3 rfl fun K hK=>?_
    go_simp
    refine (FD2.out _ (zxt HB1.out HBc.out).drew).mono ?_;clear c4;rintro e x2 ⟨rfl,hb⟩;have hst:Below x1.heap.size x1 x2:=zxt (Below.drew (Below.refl _ _)) hb;clear hb;have HBn:=zh (zxt HBc.out hst);clear HBc;have HBc:=HBn;clear HBn;have HAn:=zh ((hst.block _ (Array.getElem?_eq_some_iff.1 HA.out).1).trans HA.out);clear HA;have HA:=HAn;clear HAn;have c4:=HC4'.out x2 HBc.out;clear zf zc;have zf:∀ i,x2.frozen? ⟨v1.heap.size,i,none⟩=false:=(fun i=>by simp [World.frozen?,HA.out]);have zc:x2.cell? ⟨v1.heap.size,0,none⟩=some (.int .i64 0):=(by rw [cell_of_row x2 _ _ _ _ _ HA.out];rfl);clear hst;try dsimp only
    refine hK.out _ _ ?_ (fun _=>?_)
    ·(try simp only [World.cell?_drew]);exact HC4'.out x2 HBc.out
    clear hK K
    try simp only [Act.put,tS]
    refine rdH 5 rfl fun K hK=>?_
    go_simp
    refine (SZ.out _ (zxt HB1.out HBc.out)).mono ?_;clear c4;rintro e x3 ⟨rfl,hb⟩;have hst:Below x2.heap.size x2 x3:=hb;clear hb;have HBn:=zh (zxt HBc.out hst);clear HBc;have HBc:=HBn;clear HBn;have HAn:=zh ((hst.block _ (Array.getElem?_eq_some_iff.1 HA.out).1).trans HA.out);clear HA;have HA:=HAn;clear HAn;have c4:=HC4'.out x3 HBc.out;clear zf zc;have zf:∀ i,x3.frozen? ⟨v1.heap.size,i,none⟩=false:=(fun i=>by simp [World.frozen?,HA.out]);have zc:x3.cell? ⟨v1.heap.size,0,none⟩=some (.int .i64 0):=(by rw [cell_of_row x3 _ _ _ _ _ HA.out];rfl);clear hst;try dsimp only
    refine hK.out _ _ ?_ (fun _=>?_)
    ·(try simp only [World.cell?_drew]);exact HC4'.out x3 HBc.out
    clear hK K
    try simp only [Act.put,tS]
    refine tkH 6 rfl ?_
    refine rdH 8 rfl fun K hK=>?_
    go_simp
    generalize hwN:World.setCell _ _ _=x4;obtain ⟨p1,p2⟩:=set1 HA.out 0 (.int .i64 (qs.length:Nat));rw [hwN] at p1 p2;have HBn:=zh (zbp HBc.out HBc.out.size p2 HLB.out);clear HBc;have HBc:=HBn;clear HBn;clear hwN;have HP1:=zh p1;clear p1 p2 zf zc
    refine hK.out _ _ ?_ (fun _=>?_)
    ·(try simp only [World.cell?_drew]);exact HC4'.out x4 HBc.out
    clear hK K
    try simp only [Act.put,tS]
    refine dnH ?_
    go_wp2_with fail
    go_meet
    case rel=>exact ⟨v1.heap.size,rfl,HLB.out,by rw [HTV.out];exact HP1.out,HBc.out⟩
  ·have HTV:=zh (show tt=n2 by have:=HTM.out;omega)
   have hm':(n2:Int)≤(qs.length:Int):=by omega
   have hm2:¬ (qs.length:Int) < (n2:Int):=by omega
   refine wp_region_held_drew (S:=fun w''=>w''.cell? ⟨w.heap.size,0,none⟩=some (.pointer u)) (by kernel_rfl) (c4) (fun _=>?_)
   refine tkH 0 rfl ?_
   refine tkH 1 rfl ?_
   refine tkH 2 rfl ?_
   refine tkH 4 rfl ?_
   refine wpAnyH_ready (rs:=[3,7]) (by kernel_rfl) (by simp) ?_
   refine (AllReadyH.cons (o:=_) rfl (fun K hK=>?_) (AllReadyH.cons (o:=_) rfl (fun K hK=>?_) AllReadyH.nil))
   ·skip
    go_simp
    refine (FD2.out _ (zxt HB1.out HBc.out).drew).mono ?_;clear c4;rintro e x1 ⟨rfl,hb⟩;have hst:Below v1.heap.size v1 x1:=zxt (Below.drew (Below.refl _ _)) hb;clear hb;have HBn:=zh (zxt HBc.out hst);clear HBc;have HBc:=HBn;clear HBn;have c4:=HC4'.out x1 HBc.out;clear hst;try dsimp only
    refine hK.out _ _ ?_ (fun _=>?_)
    ·(try simp only [World.cell?_drew]);exact HC4'.out x1 HBc.out
    clear hK K
    try simp only [Act.put,tS]
    refine wpAnyH_ready (rs:=[5,7]) (by kernel_rfl) (by simp) ?_
    refine (AllReadyH.cons (o:=_) rfl (fun K hK=>?_) (AllReadyH.cons (o:=_) rfl (fun K hK=>?_) AllReadyH.nil))
    ·skip
     go_simp
     refine (SZ.out _ (zxt HB1.out HBc.out)).mono ?_;clear c4;rintro e x2 ⟨rfl,hb⟩;have hst:Below x1.heap.size x1 x2:=hb;clear hb;have HBn:=zh (zxt HBc.out hst);clear HBc;have HBc:=HBn;clear HBn;have c4:=HC4'.out x2 HBc.out;clear hst;try dsimp only
     refine hK.out _ _ ?_ (fun _=>?_)
     ·(try simp only [World.cell?_drew]);exact HC4'.out x2 HBc.out
     clear hK K
     try simp only [Act.put,tS]
     refine tkH 6 rfl ?_
     refine rdH 7 rfl fun K hK=>?_
     go_simp
     generalize hwN:World.alloc _ _=x3;have hst:Below x2.heap.size x2 x3:=(by rw [← hwN];exact zxa (Below.refl _ _) _);have hsz:=HBc.out.size;have HLB:=zh hsz;clear hsz;have HBn:=zh (zxt HBc.out hst);clear HBc;have HBc:=HBn;clear HBn;have HA:Hid (x3.heap[x2.heap.size]?=some (.cells #[.int .i64 0] 3 (0,0))):=(by unfold Hid;rw [← hwN];exact heap_alloc_new _ _);clear hwN hst;clear c4;have c4:=HC4'.out x3 HBc.out;have zf:∀ i,x3.frozen? ⟨x2.heap.size,i,none⟩=false:=(fun i=>by simp [World.frozen?,HA.out]);have zc:x3.cell? ⟨x2.heap.size,0,none⟩=some (.int .i64 0):=(by rw [cell_of_row x3 _ _ _ _ _ HA.out];rfl)
     refine hK.out _ _ ?_ (fun _=>?_)
     ·(try simp only [World.cell?_drew]);exact HC4'.out x3 HBc.out
     clear hK K
     try simp only [Act.put,tS]
     refine rdH 8 rfl fun K hK=>?_
     go_simp
     generalize hwN:World.setCell _ _ _=x4;obtain ⟨p1,p2⟩:=set1 HA.out 0 (.int .i64 (n2:Nat));rw [hwN] at p1 p2;have HBn:=zh (zbp HBc.out HBc.out.size p2 HLB.out);clear HBc;have HBc:=HBn;clear HBn;clear hwN;have HP1:=zh p1;clear p1 p2 zf zc
     refine hK.out _ _ ?_ (fun _=>?_)
     ·(try simp only [World.cell?_drew]);exact HC4'.out x4 HBc.out
     clear hK K
     try simp only [Act.put,tS]
     refine dnH ?_
     go_wp2_with fail
     go_meet
     case rel=>exact ⟨x2.heap.size,rfl,HLB.out,by rw [HTV.out];exact HP1.out,HBc.out⟩
    ·skip
     go_simp
     generalize hwN:World.alloc _ _=x2;have hst:Below x1.heap.size x1 x2:=(by rw [← hwN];exact zxa (Below.refl _ _) _);have hsz:=HBc.out.size;have HLB:=zh hsz;clear hsz;have HBn:=zh (zxt HBc.out hst);clear HBc;have HBc:=HBn;clear HBn;have HA:Hid (x2.heap[x1.heap.size]?=some (.cells #[.int .i64 0] 3 (0,0))):=(by unfold Hid;rw [← hwN];exact heap_alloc_new _ _);clear hwN hst;clear c4;have c4:=HC4'.out x2 HBc.out;have zf:∀ i,x2.frozen? ⟨x1.heap.size,i,none⟩=false:=(fun i=>by simp [World.frozen?,HA.out]);have zc:x2.cell? ⟨x1.heap.size,0,none⟩=some (.int .i64 0):=(by rw [cell_of_row x2 _ _ _ _ _ HA.out];rfl)
     refine hK.out _ _ ?_ (fun _=>?_)
     ·(try simp only [World.cell?_drew]);exact HC4'.out x2 HBc.out
     clear hK K
     try simp only [Act.put,tS]
     refine rdH 5 rfl fun K hK=>?_
     go_simp
     refine (SZ.out _ (zxt HB1.out HBc.out)).mono ?_;clear c4;rintro e x3 ⟨rfl,hb⟩;have hst:Below x2.heap.size x2 x3:=hb;clear hb;have HBn:=zh (zxt HBc.out hst);clear HBc;have HBc:=HBn;clear HBn;have HAn:=zh ((hst.block _ (Array.getElem?_eq_some_iff.1 HA.out).1).trans HA.out);clear HA;have HA:=HAn;clear HAn;have c4:=HC4'.out x3 HBc.out;clear zf zc;have zf:∀ i,x3.frozen? ⟨x1.heap.size,i,none⟩=false:=(fun i=>by simp [World.frozen?,HA.out]);have zc:x3.cell? ⟨x1.heap.size,0,none⟩=some (.int .i64 0):=(by rw [cell_of_row x3 _ _ _ _ _ HA.out];rfl);clear hst;try dsimp only
     refine hK.out _ _ ?_ (fun _=>?_)
     ·(try simp only [World.cell?_drew]);exact HC4'.out x3 HBc.out
     clear hK K
     try simp only [Act.put,tS]
     refine tkH 6 rfl ?_
     refine rdH 8 rfl fun K hK=>?_
     go_simp
     generalize hwN:World.setCell _ _ _=x4;obtain ⟨p1,p2⟩:=set1 HA.out 0 (.int .i64 (n2:Nat));rw [hwN] at p1 p2;have HBn:=zh (zbp HBc.out HBc.out.size p2 HLB.out);clear HBc;have HBc:=HBn;clear HBn;clear hwN;have HP1:=zh p1;clear p1 p2 zf zc
     refine hK.out _ _ ?_ (fun _=>?_)
     ·(try simp only [World.cell?_drew]);exact HC4'.out x4 HBc.out
     clear hK K
     try simp only [Act.put,tS]
     refine dnH ?_
     go_wp2_with fail
     go_meet
     case rel=>exact ⟨x1.heap.size,rfl,HLB.out,by rw [HTV.out];exact HP1.out,HBc.out⟩
   ·skip
    go_simp
    generalize hwN:World.alloc _ _=x1;have hst:Below v1.heap.size v1 x1:=(by rw [← hwN];exact zxa (Below.refl _ _) _);have hsz:=HBc.out.size;have HLB:=zh hsz;clear hsz;have HBn:=zh (zxt HBc.out hst);clear HBc;have HBc:=HBn;clear HBn;have HA:Hid (x1.heap[v1.heap.size]?=some (.cells #[.int .i64 0] 3 (0,0))):=(by unfold Hid;rw [← hwN];exact heap_alloc_new _ _);clear hwN hst;clear c4;have c4:=HC4'.out x1 HBc.out;have zf:∀ i,x1.frozen? ⟨v1.heap.size,i,none⟩=false:=(fun i=>by simp [World.frozen?,HA.out]);have zc:x1.cell? ⟨v1.heap.size,0,none⟩=some (.int .i64 0):=(by rw [cell_of_row x1 _ _ _ _ _ HA.out];rfl)
    refine hK.out _ _ ?_ (fun _=>?_)
    ·(try simp only [World.cell?_drew]);exact HC4'.out x1 HBc.out
    clear hK K
    try simp only [Act.put,tS]
    refine rdH 3 rfl fun K hK=>?_
    go_simp
    refine (FD2.out _ (zxt HB1.out HBc.out).drew).mono ?_;clear c4;rintro e x2 ⟨rfl,hb⟩;have hst:Below x1.heap.size x1 x2:=zxt (Below.drew (Below.refl _ _)) hb;clear hb;have HBn:=zh (zxt HBc.out hst);clear HBc;have HBc:=HBn;clear HBn;have HAn:=zh ((hst.block _ (Array.getElem?_eq_some_iff.1 HA.out).1).trans HA.out);clear HA;have HA:=HAn;clear HAn;have c4:=HC4'.out x2 HBc.out;clear zf zc;have zf:∀ i,x2.frozen? ⟨v1.heap.size,i,none⟩=false:=(fun i=>by simp [World.frozen?,HA.out]);have zc:x2.cell? ⟨v1.heap.size,0,none⟩=some (.int .i64 0):=(by rw [cell_of_row x2 _ _ _ _ _ HA.out];rfl);clear hst;try dsimp only
    refine hK.out _ _ ?_ (fun _=>?_)
    ·(try simp only [World.cell?_drew]);exact HC4'.out x2 HBc.out
    clear hK K
    try simp only [Act.put,tS]
    refine rdH 5 rfl fun K hK=>?_
    go_simp
    refine (SZ.out _ (zxt HB1.out HBc.out)).mono ?_;clear c4;rintro e x3 ⟨rfl,hb⟩;have hst:Below x2.heap.size x2 x3:=hb;clear hb;have HBn:=zh (zxt HBc.out hst);clear HBc;have HBc:=HBn;clear HBn;have HAn:=zh ((hst.block _ (Array.getElem?_eq_some_iff.1 HA.out).1).trans HA.out);clear HA;have HA:=HAn;clear HAn;have c4:=HC4'.out x3 HBc.out;clear zf zc;have zf:∀ i,x3.frozen? ⟨v1.heap.size,i,none⟩=false:=(fun i=>by simp [World.frozen?,HA.out]);have zc:x3.cell? ⟨v1.heap.size,0,none⟩=some (.int .i64 0):=(by rw [cell_of_row x3 _ _ _ _ _ HA.out];rfl);clear hst;try dsimp only
    refine hK.out _ _ ?_ (fun _=>?_)
    ·(try simp only [World.cell?_drew]);exact HC4'.out x3 HBc.out
    clear hK K
    try simp only [Act.put,tS]
    refine tkH 6 rfl ?_
    refine rdH 8 rfl fun K hK=>?_
    go_simp
    generalize hwN:World.setCell _ _ _=x4;obtain ⟨p1,p2⟩:=set1 HA.out 0 (.int .i64 (n2:Nat));rw [hwN] at p1 p2;have HBn:=zh (zbp HBc.out HBc.out.size p2 HLB.out);clear HBc;have HBc:=HBn;clear HBn;clear hwN;have HP1:=zh p1;clear p1 p2 zf zc
    refine hK.out _ _ ?_ (fun _=>?_)
    ·(try simp only [World.cell?_drew]);exact HC4'.out x4 HBc.out
    clear hK K
    try simp only [Act.put,tS]
    refine dnH ?_
    go_wp2_with fail
    go_meet
    case rel=>exact ⟨v1.heap.size,rfl,HLB.out,by rw [HTV.out];exact HP1.out,HBc.out⟩
 obtain ⟨b10,rfl,H10⟩:=hcut
 obtain ⟨v2,rfl⟩:∃ v2,v2=wc:=⟨_,rfl⟩
 have HB2:=zh (zxt HB1.out H10.out.2.2)
 have HCT:Hid (∀ w',Below v2.heap.size v2 w'→w'.cell? ⟨t,0,none⟩=some (.int .i64 enc)∧w'.cell? ⟨t,2,none⟩=some (.slice (some ⟨bl,ol,none⟩) L.length cl)):=fun w' hb=>by
  have hb':=zxt HB2.out hb
  exact ⟨(hb'.cell (p:=⟨t,_,none⟩) htl).trans c0w,(hb'.cell (p:=⟨t,_,none⟩) htl).trans c2w⟩
 go_upto_region 4 with fail
 go_cut [11] from 43 to 51 (fun p wF=>∃ g:Nat,p=.pointer (some ⟨g,0,none⟩)∧Hid (v2.heap.size≤g∧wF.heap[g]?=some (.cells #[.int .i64 enc,(.slice (some ⟨bl,ol,none⟩) L.length cl),.slice none 0 0,.slice none 0 0] 156 (0,0))∧Below v2.heap.size v2 wF))
 ·have HBc:=zh (Below.refl v2.heap.size v2)
  obtain ⟨c0,c2⟩:=HCT.out v2 HBc.out
  refine wp_region_held_drew (S:=fun w''=>w''.cell? ⟨t,0,none⟩=some (.int .i64 enc)∧w''.cell? ⟨t,2,none⟩=some (.slice (some ⟨bl,ol,none⟩) L.length cl)) (by kernel_rfl) (⟨c0,c2⟩) (fun _=>?_)
  refine tkH 0 rfl ?_
  refine tkH 1 rfl ?_
  refine tkH 2 rfl ?_
  refine tkH 3 rfl ?_
  refine tkH 4 rfl ?_
  refine tkH 5 rfl ?_
  refine tkH 6 rfl ?_
  refine tkH 7 rfl ?_
  refine tkH 8 rfl ?_
  refine rdH 9 rfl fun K hK=>?_
  go_simp
  generalize hwN:World.alloc _ _=x1;have hst:Below v2.heap.size v2 x1:=(by rw [← hwN];exact zxa (Below.refl _ _) _);clear HBc;have HBc:=zh hst;have HA:Hid (x1.heap[v2.heap.size]?=some (.cells #[.int .i64 0,.slice none 0 0,.slice none 0 0,.slice none 0 0] 156 (0,0))):=(by unfold Hid;rw [← hwN];exact heap_alloc_new _ _);clear hwN hst;obtain ⟨c0,c2⟩:=HCT.out x1 HBc.out;have zf:∀ i,x1.frozen? ⟨v2.heap.size,i,none⟩=false:=(fun i=>by simp [World.frozen?,HA.out]);have zc:x1.cell? ⟨v2.heap.size,0,none⟩=some (.int .i64 0)∧x1.cell? ⟨v2.heap.size,1,none⟩=some (.slice none 0 0)∧x1.cell? ⟨v2.heap.size,2,none⟩=some (.slice none 0 0)∧x1.cell? ⟨v2.heap.size,3,none⟩=some (.slice none 0 0):=(by refine ⟨?_,?_,?_,?_⟩ <;> (rw [cell_of_row x1 _ _ _ _ _ HA.out];rfl))
  refine hK.out _ _ ?_ (fun _=>?_)
  ·(try simp only [World.cell?_drew]);exact ⟨c0,c2⟩
  clear hK K
  try simp only [Act.put,tS]
  refine rdH 10 rfl fun K hK=>?_
  go_simp
  generalize hwN:World.setCell _ _ _=x2;obtain ⟨p1,p2⟩:=put4 HA.out (.int .i64 enc) (.slice (some ⟨bl,ol,none⟩) L.length cl) (.slice none 0 0) (.slice none 0 0);rw [hwN] at p1 p2;have hst:Below v2.heap.size v2 x2:=HBc.out.trans (Kps.below p2 HBc.out.size (fun k hk=>Nat.le_of_eq hk.symm));clear HBc;have HBc:=zh hst;have HP1:=zh p1;clear hwN hst p1 p2 zf zc
  refine hK.out _ _ ?_ (fun _=>?_)
  ·(try simp only [World.cell?_drew]);exact HCT.out x2 HBc.out
  clear hK K
  try simp only [Act.put,tS]
  refine dnH ?_
  go_wp2_with fail
  go_meet
  case rel=>exact ⟨v2.heap.size,rfl,Nat.le_refl _,HP1.out,HBc.out.drew⟩
 obtain ⟨g,rfl,HG⟩:=hcut
 obtain ⟨v3,rfl⟩:∃ v3,v3=wc:=⟨_,rfl⟩
 have HB3:=zh (zxt HB2.out HG.out.2.2)
 have z0:=HB0.out.size
 have z0':=HS0.out
 have z1:=H9.out.2.2.size
 have z2:=H10.out.2.2.size
 have z3:=HG.out.2.2.size
 have l9:=H9.out.1
 have l10:=H10.out.1
 have lg:=HG.out.1
 have m9:=(Array.getElem?_eq_some_iff.1 H9.out.2.1).1
 have m10:=(Array.getElem?_eq_some_iff.1 H10.out.2.1).1
 have mg:=(Array.getElem?_eq_some_iff.1 HG.out.2.1).1
 have HK9:=zh (show v3.heap[b9]?=some (.cells #[.int .i64 fr] 3 (0,0)) from (HG.out.2.2.block b9 (by omega)).trans ((H10.out.2.2.block b9 m9).trans H9.out.2.1))
 have HK10:=zh (show v3.heap[b10]?=some (.cells #[.int .i64 tt] 3 (0,0)) from (HG.out.2.2.block b10 m10).trans H10.out.2.1)
 have HK4':=zh (show v3.heap[w.heap.size]?=some (.cells #[.pointer u] 90 (0,0)) from (HG.out.2.2.block _ (by omega)).trans ((H10.out.2.2.block _ (by omega)).trans ((H9.out.2.2.block _ (by omega)).trans HK4.out)))
 have HK6':=zh (show v3.heap[w.heap.size + 1]?=some (.cells #[.pointer none] 90 (0,0)) from (HG.out.2.2.block _ (by omega)).trans ((H10.out.2.2.block _ (by omega)).trans ((H9.out.2.2.block _ (by omega)).trans HK6.out)))
 have HKG:=zh HG.out.2.1
 have hdist:b9 < b10∧b10 < g∧w.heap.size + 2≤b9∧g < v3.heap.size:=⟨by omega,by omega,by omega,mg⟩
 have HDI:=zh hdist
 clear z0 z0' z1 z2 z3 l9 l10 lg m9 m10 mg hdist H9 H10 HG HK4 HK6 HC4 HC4' HNX HCT HEC FD1 FD2 SZ hwm hwt2 hmlt
 have c4:v3.cell? ⟨w.heap.size,0,none⟩=some (.pointer u):=by rw [cell_of_row v3 _ _ _ _ _ HK4'.out];rfl
 have c9:v3.cell? ⟨b9,0,none⟩=some (.int .i64 fr):=by rw [cell_of_row v3 _ _ _ _ _ HK9.out];rfl
 have IT:=zh (Items_any u fr fr v3 (by omega))
 go_upto_block 0 with (go_at_call 38;refine IT.out.mono ?_;rintro e v4 ⟨rfl,hv4⟩;have HV4:=zh hv4;clear hv4;(try dsimp only))
 clear c4 c9 IT
 have hv4s:v4.heap.size=v3.heap.size + 2:=by rw [HV4.out];simp
 have HB4:Hid (Below v3.heap.size v3 v4):=by unfold Hid;rw [HV4.out];exact zxa (zxa (Below.refl _ _) _) _
 have hA4:v4.heap[v3.heap.size]?=some (.cells #[.pointer u] 90 (0,0)):=by
  rw [HV4.out]
  exact (Below.heap_alloc _ _ _ (by simp)).trans (heap_alloc_new _ _)
 have hB4:v4.heap[v3.heap.size + 1]?=some (.cells #[.int .i64 (fr:Nat)] 3 (0,0)):=by
  rw [HV4.out]
  have e:v3.heap.size + 1=(v3.alloc (.cells #[.pointer u] 90)).heap.size:=by simp
  rw [e]
  exact heap_alloc_new _ _
 have HB4w:=zh (zxt HB3.out HB4.out)
 obtain ⟨u',tr,hu,htin,hlst,_⟩:=HTT.out
 simp only [Value.agg.injEq,Array.mk.injEq,List.cons.injEq,Value.pointer.injEq,and_true] at hu
 subst hu
 have HTI:=zh htin
 have HLS:=zh hlst
 clear htin hlst
 obtain ⟨os,hos⟩:∃ os,os=(qs.drop fr).take (tt - fr):=⟨_,rfl⟩
 have HOS:=zh hos
 clear hos
 obtain ⟨nn,hnn⟩:∃ nn,nn=tt - fr:=⟨_,rfl⟩
 have HNN:=zh hnn
 clear hnn
 have hD:=HDI.out
 refine range_cut { target:=.collected v4.heap.size,args:=#[] } (RwM enc g b9 b10 fr tt (.slice (some ⟨bl,ol,none⟩) L.length cl) (xsOf os) v4) ?behind ?ranging
 case ranging =>
  have SQ:=zh (items_stops 8 tr u fr v4 v3.heap.size (v3.heap.size + 1) w.heap.size HB4w.out.size (by omega) (by omega) w rfl HB4w.out HTI.out (by rw [HLS.out,xsOf_len];omega) (by omega) hA4 hB4)
  gi_wp2_with fail
  refine range_x (σ:=Value) rfl (by omega) (gf:=66) (lb:=#[.pointer (some ⟨v3.heap.size,0,none⟩),.pointer (some ⟨v3.heap.size + 1,0,none⟩)]) rfl trivial (enters_of Tryz.func66 (by kernel_rfl) rfl) SQ.out (Kps.refl _ _) (fun _=>rfl)
   (rwO g) (fun vo pre W=>RwG enc g b9 b10 fr tt (.slice (some ⟨bl,ol,none⟩) L.length cl) vo pre W) (fun c vo xs W=>c=.exit 0∧∃ pre x,xs=pre ++ [x]∧RwG enc g b9 b10 fr tt (.slice (some ⟨bl,ol,none⟩) L.length cl) vo pre W∧pre.length=tt - fr) (.slice none 0 0) ?rel (fun k=>k=b9∨k=b10) (fun k hk=>by rcases hk with rfl | rfl <;> omega) (fun _ _ _ _ h _ hk=>h.same hk) (fun c s xs W W' h _ hk=>by obtain ⟨h1,pre,x,h2,h3,h4⟩:=h;exact ⟨h1,pre,x,h2,h3.same hk,h4⟩) (fun _ _ _ h=>h.lives) ?h0
   (fun x a' W=>∃ g5,v4.heap.size + 2≤g5∧BlkI W g5 x∧a'={ tmps:=#[.pointer (some ⟨t,0,none⟩),.agg #[.pointer u],.slice (some ⟨eb,eo,none⟩) (ml + 1) cap,undef,.pointer (some ⟨w.heap.size,0,none⟩),undef,.pointer (some ⟨w.heap.size + 1,0,none⟩),.int .i64 f,.int .i64 tl,.pointer (some ⟨b9,0,none⟩),.pointer (some ⟨b10,0,none⟩),.pointer (some ⟨g,0,none⟩),.pointer (some ⟨g5,0,none⟩),undef,undef,undef,undef,undef,undef,undef,.slice (some ⟨eb,eo,none⟩) (ml + 1) cap,.pointer (some ⟨eb,eo,none⟩),.pointer (some ⟨eb,eo,none⟩),.int .i64 f,.slice (some ⟨eb,eo,none⟩) (ml + 1) cap,.slice (some ⟨eb,eo,none⟩) (ml + 1) cap,.int .i64 ((ml:Int) + 1),.int .i64 ml,.pointer (some ⟨eb,eo + ml * 3,none⟩),.pointer (some ⟨eb,eo + ml * 3 + 1,none⟩),.int .i64 tl,u31,u32,u33,u34,u35,u36,u37,u38,u39,u40,u41,u42,u43,u44,u45,u46,u47,u48,u49,u50,u51,.agg #[.pointer u],.int .i64 fr,.func (.func 66) #[] #[.pointer (some ⟨v3.heap.size,0,none⟩),.pointer (some ⟨v3.heap.size + 1,0,none⟩)],.agg #[.slice x.p x.n x.c,.int .i64 x.pl,.int .i64 x.sp.a,.int .i64 x.sp.s,.int .i64 x.sp.b,.bool x.sp.lf,.bool x.sp.cr],undef,undef,undef,undef,undef,undef,undef,undef,undef,undef,undef,undef,undef,undef,undef,undef,undef,undef,undef,undef,undef,undef,undef,undef,undef,undef,undef,undef,undef,undef,undef,undef,undef,undef,undef,undef,undef,undef,undef,undef,undef,undef,undef,undef,undef,undef,undef,undef,undef,undef,undef,undef,undef,undef,undef,undef,undef,undef,undef,undef],defers:=[] }) ?hAx ?assign ?body ?done ?stop
  case rel =>
   intro k hk
   have hng:∀ k,rwO g (.slice none 0 0) k→k=g:=fun k h=>by rcases h with h | h;exact h;simp [Value.ownBlock] at h
   rcases hk with hk | rfl | rfl
   ·exact ⟨by omega,fun h=>by have:=hng _ h;omega⟩
   ·exact ⟨by omega,fun h=>by have:=hng _ h;omega⟩
   ·exact ⟨by omega,fun h=>by have:=hng _ h;omega⟩
  case h0=>exact ⟨(HB4.out.block _ (by omega)).trans HKG.out,OwnR.nil _ _ _,(HB4.out.block _ (by omega)).trans HK9.out,(HB4.out.block _ (by omega)).trans HK10.out,Nat.zero_le _⟩
  case hAx =>
   rintro x a' W W' ⟨g5,h1,h2,h3⟩ hz hk
   exact ⟨g5,h1,h2.same9 (hk g5 h1 h2.lt),h3⟩
  case assign =>
   intro l x W K hz hK
   gi_wp2_with fail
   exact hK _ _ (zxa (Below.refl _ _) _) ⟨W.heap.size,hz,heap_alloc_new _ _,rfl⟩
  case body =>
   rintro l vo pre x a' W hI ⟨g5,hg5,hx5,rfl⟩ hSp hzW
   obtain ⟨aoo,capo,hvo⟩:=hI.own.form1
   subst hvo
   have HI:=zh hI
   have hgl:=hI.lives g (.inl rfl)
   have cg:W.cell? ⟨g,2,none⟩=some (.slice aoo pre.length capo):=by rw [cell_of_row W _ _ _ _ _ hI.wr];rfl
   have c9:W.cell? ⟨b9,0,none⟩=some (.int .i64 fr):=by rw [cell_of_row W _ _ _ _ _ hI.f];rfl
   have c10:W.cell? ⟨b10,0,none⟩=some (.int .i64 tt):=by rw [cell_of_row W _ _ _ _ _ hI.t];rfl
   have hFS:=Fz.out.2.2
   have hwtf:IntKind.i64.wrap ((tt:Int) - (fr:Int))=(nn:Nat):=by rw [IntKind.wrap_i64];have:=HNN.out;omega
   have hple:pre.length≤nn:=by rw [HNN.out];exact hI.le
   clear hI hFS
   refine wpIn_block ?_
   by_cases hpl:pre.length=nn
   ·have hpe:((pre.length:Int) == (nn:Int))=true:=by simp [hpl]
    have HPL:=zh hpl
    clear hpl hple
    gi_wp2_with fail
    exact ⟨_,⟨rfl,pre,x,rfl,HI.out,by rw [HPL.out];exact HNN.out⟩,Kps.refl _ _,fun k h=>.inl h⟩
   ·have hpe:((pre.length:Int) == (nn:Int))=false:=by simp;omega
    have hpe2:¬ (pre.length:Int)=(nn:Int):=by omega
    have HLT:=zh (show pre.length < tt - fr by have:=HNN.out;omega)
    have HPM:=zh (show pre.length + 1≤1099511627776 by have:=HNN.out;omega)
    have hx:=hx5.cells.1
    have NEW:Hid (∀ j u,(pcs x)[j]?=some u→(W.alloc (.cells #[.slice x.p x.n x.c,.int .i64 x.pl,.int .i64 x.sp.a,.int .i64 x.sp.s,.int .i64 x.sp.b,.bool x.sp.lf,.bool x.sp.cr] 97)).cell? ((⟨W.heap.size,0,none⟩:Addr).add j)=some u):=fun j u hj=>cell7_new W 97 x j u hj
    have HOW:Hid (OwnR (W.alloc (.cells #[.slice x.p x.n x.c,.int .i64 x.pl,.int .i64 x.sp.a,.int .i64 x.sp.s,.int .i64 x.sp.b,.bool x.sp.lf,.bool x.sp.cr] 97)) 0 97 (.slice aoo pre.length capo) pre):=HI.out.own.ext (zxa (Below.refl _ _) _)
    have CGF:Hid (∀ w',(W.alloc (.cells #[.slice x.p x.n x.c,.int .i64 x.pl,.int .i64 x.sp.a,.int .i64 x.sp.s,.int .i64 x.sp.b,.bool x.sp.lf,.bool x.sp.cr] 97)).grownBy w' (Value.ownBlock (.slice aoo pre.length capo))→w'.cell? ⟨g,2,none⟩=some (.slice aoo pre.length capo)∧(∀ i,w'.frozen? ⟨g,i,none⟩=false)):=fun w' hg=>by
     have e:w'.heap[g]?=W.heap[g]?:=(hg.block g (by simp;omega) (fun e=>absurd ((HI.out.own.typ e.symm).uniq ⟨_,HI.out.wr⟩) (by decide))).trans (Below.heap_alloc _ _ _ hgl)
     exact ⟨by rw [cell_same e];exact cg,fun i=>by simp [World.frozen?,e,HI.out.wr]⟩
    clear hpl hple
    gi_wp2_with (gi_at_builtin;refine wpListIn_plain rfl fun K hK=>?_;refine oper_in (fun c hc=>by cases hc) (fun _ _ h=>h) ?_;refine wp_append_pieceB (.tmp 64) (.tmp 66) 112 rfl 0 97 Tryz.info_piece Tryz.underlying112 _ pre rfl HOW.out x W.heap.size rfl NEW.out HPM.out (Nat.zero_le _) ?_;intro v' w9 hown' hg' hk';obtain ⟨n',ao',cap',hv'⟩:∃ n' ao' cap',v'=.slice ao' n' cap':=(let ⟨a,b,c⟩:=hown'.form1;⟨_,a,b,c⟩);subst hv';have PU:=zh (HI.out.push HLT.out (zxa (Below.refl _ _) _) hown' hg' hk');obtain ⟨cg9,cf9⟩:=CGF.out w9 hg';refine hK _ _ ?_;clear hK hown' hg' hk' cg c9 c10)
    exact ⟨_,PU.out.1,PU.out.2.1,PU.out.2.2⟩
  case done =>
   intro s xs W hk hnw hS hI hdf hno
   refine ⟨rfl,s,?_,?_,?_,hdf,fun e=>hno (.inr e)⟩
   ·have e:xs=xsOf os:=by
     have h1:=hI.le
     rw [hS,HLS.out] at h1 ⊢
     rw [HOS.out,xsOf,← List.map_drop,List.length_map] at *
     rw [List.take_of_length_le (by simpa using h1),xsOf,List.map_drop]
    rw [← e];exact hI
   ·exact hk.mono fun i _ h=>by rcases h with h | h;exact h;simp [Value.ownBlock] at h
   ·intro k e
    rcases hnw k (.inr e) with (h | h) | h
    ·exact absurd ((hI.own.typ e).uniq ⟨_,h ▸ hI.wr⟩) (by decide)
    ·simp [Value.ownBlock] at h
    ·exact h
  case stop =>
   rintro c s xs W hk hnw hS ⟨rfl,pre,x,rfl,hI,hpl⟩ hdf hno
   refine wpIn_exit ?_
   refine ⟨rfl,s,?_,?_,?_,hdf,fun e=>hno (.inr e)⟩
   ·have e:pre=xsOf os:=by
     obtain ⟨z,hz⟩:=hS
     rw [HLS.out] at hz
     rw [HOS.out,xsOf,List.map_take,← hpl,List.map_drop,← xsOf,← hz,List.append_assoc,List.take_left' rfl]
    rw [← e];exact hI
   ·exact hk.mono fun i _ h=>by rcases h with h | h;exact h;simp [Value.ownBlock] at h
   ·intro k e
    rcases hnw k (.inr e) with (h | h) | h
    ·exact absurd ((hI.own.typ e).uniq ⟨_,h ▸ hI.wr⟩) (by decide)
    ·simp [Value.ownBlock] at h
    ·exact h
 case behind =>
  rintro W ⟨vo,hG,hkp,hnb,hdf,hnd⟩
  dsimp only
  have zB4:=HB4w.out.size
  have hBW:Below w.heap.size w W:=HB4w.out.trans (hkp.below zB4 (fun k hk=>by omega))
  have HBW:=zh hBW
  have hPo:Pcs enc L W os:=fun q hq=>(HP.out.ext hBW) q (by rw [HOS.out] at hq;exact List.mem_of_mem_drop (List.mem_of_mem_take hq))
  obtain ⟨bo,hW,hbo⟩:=hG.wr' (HLD.out.ext hBW) hPo
  have hbow:w.heap.size + 2≤bo∧bo≠b9∧bo≠b10∧bo≠v4.heap.size:=by
   rcases hbo with rfl | e
   ·omega
   ·have:=hnb bo e
    have:bo≠v4.heap.size:=fun h=>hnd (h ▸ e)
    omega
  have HALL:Hid (∀ wr,Kps (ow g bo (.slice none 0 0)) W wr→Below w.heap.size w wr∧wr.heap[w.heap.size]?=some (.cells #[.pointer u] 90 (0,0))∧wr.heap[w.heap.size + 1]?=some (.cells #[.pointer none] 90 (0,0))∧wr.heap[b9]?=some (.cells #[.int .i64 fr] 3 (0,0))∧wr.heap[b10]?=some (.cells #[.int .i64 tt] 3 (0,0))∧wr.heap[v4.heap.size]?=some (.deferred (some []))):=fun wr hk=>by
   have zW:=hBW.size
   have zk:=hkp.size
   have e:∀ k,k < W.heap.size→k≠g→k≠bo→wr.heap[k]?=W.heap[k]?:=fun k h1 h2 h3=>hk.same k h1 (by rintro (h | h | h);exact h2 h;exact h3 h;simp [Value.ownBlock] at h)
   have e3:∀ k,k < v3.heap.size→k≠g→k≠bo→wr.heap[k]?=v3.heap[k]?:=fun k h1 h2 h3=>(e k (by omega) h2 h3).trans ((hkp.same k (by omega) h2).trans (HB4.out.block k h1))
   refine ⟨hBW.trans ⟨hk.os,hk.tape,hk.output,hk.size,fun k h=>e k (by omega) (by omega) (by omega)⟩,(e3 _ (by omega) (by omega) (by omega)).trans HK4'.out,(e3 _ (by omega) (by omega) (by omega)).trans HK6'.out,(e3 _ (by omega) (by omega) (by omega)).trans HK9.out,(e3 _ (by omega) (by omega) (by omega)).trans HK10.out,(e _ (Array.getElem?_eq_some_iff.1 hdf).1 (by omega) (by omega)).trans hdf⟩
  have HW:=zh hW
  obtain ⟨l,hl'⟩:∃ l,l=sh enc (qs.take tt):=⟨_,rfl⟩
  obtain ⟨base,hbs⟩:∃ b,b=(sh enc (qs.take fr)).length:=⟨_,rfl⟩
  have hFS:=Fz.out
  have h2:=sh_two enc qs fr tt hFS.2.2
  rw [← hl',← HOS.out] at h2
  have hbl:base≤l.length:=by rw [h2,List.length_append,hbs];omega
  have HJ0:Hid (RwJ enc l base es 0 base (sh enc []) (sh enc os)):=by
   unfold Hid
   have e:sh enc os=l.drop base:=by rw [h2,hbs,List.drop_left' rfl]
   rw [e]
   exact RwJ.zero hbl (HRG.out base l.length (by rw [hbs];exact hFS.1) (by rw [hl'];exact hFS.2.1))
  have HBD:Hid (ln enc (l.map Prod.fst) + ln enc (puts es)≤1000000):=by
   unfold Hid
   rw [hl',ln_fst]
   have e:=ln_app enc (asOf (qs.take tt)) (asOf (qs.drop tt))
   rw [← asOf_app,List.take_append_drop] at e
   omega
  have HUA:Hid ((rA.su ((xsOf qs).take fr)).a=(base:Int)):=by
   unfold Hid
   have h':Pcs enc L w (qs.take fr):=fun q hq=>HP.out q (List.mem_of_mem_take hq)
   rw [show (xsOf qs).take fr=xsOf (qs.take fr) by simp [xsOf,List.map_take],h'.su,hbs,sh_len]
   exact (spn_a enc _ h'.fit).1
  have hbase:base≤1000000:=by rw [hbs];have:=(sh_part enc qs fr).length_le;omega
  have hll:l.length≤1000000:=by rw [hl'];have:=(sh_part enc qs tt).length_le;omega
  have HL:=zh hl'
  have HBS:=zh hbs
  have HH2:=zh h2
  clear hW hPo hbo hbow hG hkp hnb hdf hnd hl' hbs h2 hFS hBW hbl
  obtain ⟨_,q4,_,q9,_⟩:=HALL.out W (Kps.refl _ _)
  have c4:W.cell? ⟨w.heap.size,0,none⟩=some (.pointer u):=by rw [cell_of_row W _ _ _ _ _ q4];rfl
  have c9:W.cell? ⟨b9,0,none⟩=some (.int .i64 fr):=by rw [cell_of_row W _ _ _ _ _ q9];rfl
  have fa:=field_atoms
  clear q4 q9
  go_upto_block 2 with (go_at_call 95;refine (UP.out _ HBW.out).mono ?_;rintro e W1 ⟨⟨sa,ss,sb,sf,sc⟩,hs,rfl,hb1⟩;obtain rfl:sa=(base:Int):=(congrArg Rs.a hs.out).trans HUA.out;have HB1':=zh hb1;clear hb1 hs;(try dsimp only))
  clear c4 c9 fa
  have HEN:=zh HT.out.en
  have HBY:=zh HT.out.by'
  have HLL:=zh (show L.length≤1073741824 by have:=HT.out.ll;omega)
  have HFI:=zh hf
  go_wp2_with fail
  go_loopg [13,75] (ml + 1) (fun gk av p wr=>∃ j q:Nat,j + gk=ml + 1∧p=.int .i64 (j:Nat)∧av=.int .i64 (q:Nat)∧q≤1000000∧Hid (RwL enc L g bo W (.slice (some ⟨bl,ol,none⟩) L.length cl) l base es j q wr))
  case atStart=>exact ⟨0,base,by omega,rfl,rfl,hbase,vo,.slice none 0 0,os,[],HW.out.ext HB1'.out,HJ0.out,Kps.of_below _ HB1'.out,.inl rfl⟩
  case round =>
   obtain ⟨j,q,hj,rfl,rfl,hq,HI⟩:=hrel
   obtain ⟨vo1,vm1,os1,ms1,hW1,hJ1,hK1,hN1⟩:=HI.out
   by_cases hi':j < ml + 1
   ·have hi2:(j:Int) < (ml:Int) + 1:=by omega
    obtain ⟨e,hej⟩:∃ e,es[j]?=some e:=⟨_,List.getElem?_eq_getElem (by have:=HML.out;omega)⟩
    obtain ⟨ff,t2,e1,e2,s1,s2,s3,s4,s5,s6,s7,hJ2⟩:=hJ1.step hej
    have hBr:=(HALL.out wr hK1).1
    obtain ⟨ao',cap',q1,_,_,q5⟩:=HE.out
    simp only [Value.slice.injEq] at q1
    obtain ⟨rfl,_,_⟩:=q1
    obtain ⟨b',o',k1,_,k3⟩:=q5 (by intro hn;subst hn;simp at hej)
    cases k1
    obtain ⟨c0,c1,pv,c2,hpv⟩:=k3 j e hej
    replace c0:=(hBr.cell (p:=⟨eb,_,none⟩) heb).trans c0
    replace c1:=(hBr.cell (p:=⟨eb,_,none⟩) heb).trans c1
    replace c2:=(hBr.cell (p:=⟨eb,_,none⟩) heb).trans c2
    obtain ⟨pa,pc,rfl,hp1,hp2,_⟩:=id hpv
    have hfp:∀ a ∈ e.2.2,Cx.fits enc a=true:=fun a ha=>HFI.out a (by unfold puts;rw [List.mem_flatMap];exact ⟨e,List.mem_of_getElem? hej,ha⟩)
    obtain ⟨ef,et,ep⟩:=e
    simp only at *
    subst e1 e2
    have hbd:=HBD.out
    have hb1:=hJ1.bd
    have hb2:=puts_take_le enc es j
    obtain ⟨kq,hkq⟩:∃ kq,kq=ff - q:=⟨_,rfl⟩
    obtain ⟨dq,hdq⟩:∃ dq,dq=t2 - ff:=⟨_,rfl⟩
    rw [← hkq] at s4 s5 s6 s7 hJ2
    rw [← hdq] at s5 hJ2
    have hw1:IntKind.i64.wrap ((ff:Int) - (q:Int))=(kq:Nat):=by rw [IntKind.wrap_i64];omega
    have hw2:IntKind.i64.wrap ((t2:Int) - (ff:Int))=(dq:Nat):=by rw [IntKind.wrap_i64];omega
    have hepl:ep.length≤1000000:=by
     have:=ln_ge enc ep
     omega
    obtain ⟨wb,hwb,kb,hbb⟩:∃ wb,wb=wr.alloc (.cells #[.int .i64 ff,.int .i64 t2,.slice pa ep.length pc] 87)∧wb.heap[wr.heap.size]?=some (.cells #[.int .i64 ff,.int .i64 t2,.slice pa ep.length pc] 87 (0,0))∧Below wr.heap.size wr wb:=⟨_,rfl,heap_alloc_new _ _,zxa (Below.refl _ _) _⟩
    have HCB:Hid (∀ w':World,w'.heap[wr.heap.size]?=some (.cells #[.int .i64 ff,.int .i64 t2,.slice pa ep.length pc] 87 (0,0))→w'.cell? ⟨wr.heap.size,0,none⟩=some (.int .i64 ff)∧w'.cell? ⟨wr.heap.size,1,none⟩=some (.int .i64 t2)∧w'.cell? ⟨wr.heap.size,2,none⟩=some (.slice pa ep.length pc)):=fun w' h=>by
     refine ⟨?_,?_,?_⟩ <;> (rw [cell_of_row w' _ _ _ _ _ h];rfl)
    have KP:=zh (keep_any enc HEN.out L HBY.out HLL.out g bo kq (.slice (some ⟨bl,ol,none⟩) L.length cl) vo1 vm1 os1 ms1 wb (hW1.ext hbb) (by rw [ln_app,← sh_fst enc ms1,← sh_fst enc os1];omega) s4)
    have HS:=zh (And.intro s5 (And.intro s6 (And.intro s7 hJ2)))
    have HKB:=zh kb
    have HBB:=zh hbb
    have HW1:=zh hW1
    have HKN:=zh (And.intro hK1 hN1)
    have HPV:=zh hpv
    have HFP:=zh hfp
    have HT2:=zh (And.intro s2 s3)
    have HKQ:=zh hkq
    have HDQ:=zh hdq
    clear hW1 hJ1 hK1 hN1 hBr q5 k3 hpv hfp s1 s2 s3 s4 s5 s6 s7 hJ2 hb1 hb2 hbd kb hbb hej HI hkq hdq
    go_upto_region 13 with fail
    rw [← hwb]
    clear hwb c0 c1 c2
    obtain ⟨d0,d1,d2⟩:=HCB.out wb HKB.out
    go_upto_region 14 with (go_at_call 96;refine KP.out.mono ?_;clear d0 d1 d2;rintro e x1 ⟨v1',vo2,vm2,os2,ms2,rfl,hW2,hm2,ho2,hk2,hn2⟩;have HX1:=zh (And.intro hW2 (And.intro hm2 (And.intro ho2 (And.intro hk2 hn2))));clear hW2 hm2 ho2 hk2 hn2;(try dsimp only))
    have HKB1:=zh (HW1.out.box HKB.out HX1.out.2.2.2.1)
    obtain ⟨d0,d1,d2⟩:=HCB.out x1 HKB1.out
    have DR:=zh (drop_any enc HEN.out L HBY.out HLL.out g bo dq (.slice (some ⟨bl,ol,none⟩) L.length cl) vo2 vm2 os2 ms2 x1 HX1.out.1 (by have:=HS.out.2.1;have:=HBD.out;rw [← sh_fst enc os2,HX1.out.2.2.1];omega) (by rw [HX1.out.2.2.1];exact HS.out.1))
    go_upto_region 15 with (go_at_call 97;refine DR.out.mono ?_;clear d0 d1 d2;rintro e x2 ⟨v2',vo3,vm3,os3,ms3,rfl,hW2,hm2,ho2,hk2,hn2⟩;have HX2:=zh (And.intro hW2 (And.intro hm2 (And.intro ho2 (And.intro hk2 hn2))));clear hW2 hm2 ho2 hk2 hn2;(try dsimp only))
    have HK2:=zh (show Kps (ow g bo (.slice none 0 0)) W x2∧Nwr (.slice none 0 0) vm3 W from by
     have n1:=HKN.out.2
     have k0:=HKN.out.1
     have kb:Kps (ow g bo (.slice none 0 0)) W wb:=k0.trans (Kps.of_below (ow g bo (.slice none 0 0)) HBB.out) (fun _ _ e=>e)
     have k1:=kb.trans HX1.out.2.2.2.1 n1.ow
     have n2:=n1.trans HX1.out.2.2.2.2 kb.size
     exact ⟨k1.trans HX2.out.2.2.2.1 n2.ow,n2.trans HX2.out.2.2.2.2 k1.size⟩)
    have HLW:=zh (show g < wr.heap.size∧bo < wr.heap.size∧wr.heap.size < wb.heap.size∧wb.heap.size≤x1.heap.size∧x1.heap.size≤x2.heap.size from ⟨HW1.out.lt,HW1.out.bl,(Array.getElem?_eq_some_iff.1 HKB.out).1,HX1.out.2.2.2.1.size,HX2.out.2.2.2.1.size⟩)
    have HN2:Hid (vm2.ownBlock≠some wr.heap.size):=HX1.out.2.2.2.2.nb (fun e=>by have:=HW1.out.own_lt (.inr (.inr e));omega) HLW.out.2.2.1
    have HN3:Hid (vm3.ownBlock≠some wr.heap.size):=HX2.out.2.2.2.2.nb HN2.out (by have:=HLW.out;omega)
    have HKB2:=zh (box2 HLW.out.1 HLW.out.2.1 HN2.out HKB1.out HX2.out.2.2.2.1)
    obtain ⟨d0,d1,d2⟩:=HCB.out x2 HKB2.out
    have PT:=zh (put_any enc HEN.out L HBY.out HLL.out g bo (.slice (some ⟨bl,ol,none⟩) L.length cl) vo3 vm3 (.slice pa ep.length pc) os3 ms3 ep x2 HX2.out.1 (HPV.out.ext (HALL.out x2 HK2.out.1).1) HFP.out (by have:=HS.out.2.2.1;have:=HBD.out;rw [← sh_fst enc ms3,HX2.out.2.1,HX1.out.2.1];omega))
    go_wp2_with (go_at_call 98;refine PT.out.mono ?_;clear d0 d1 d2;rintro e x3 ⟨v3',vo4,vm4,os4,ms4,rfl,hW2,hm2,ho2,hk2,hn2⟩;have HX3:=zh (And.intro hW2 (And.intro hm2 (And.intro ho2 (And.intro hk2 hn2))));clear hW2 hm2 ho2 hk2 hn2;have d1:=(HCB.out x3 (box2 HLW.out.1 HLW.out.2.1 HN3.out HKB2.out HX3.out.2.2.2.1)).2.1;(try dsimp only))
    go_roundg (ml + 1 - (j + 1))
    case rel =>
     refine ⟨j + 1,t2,by omega,by go_num,rfl,by have:=HT2.out.2;omega,vo4,vm4,os4,ms4,HX3.out.1,?_,?_,?_⟩
     ·rw [HX3.out.2.1,HX3.out.2.2.1,HX2.out.2.1,HX2.out.2.2.1,HX1.out.2.1,HX1.out.2.2.1]
      exact HS.out.2.2.2
     ·exact HK2.out.1.trans HX3.out.2.2.2.1 HK2.out.2.ow
     ·exact HK2.out.2.trans HX3.out.2.2.2.2 HK2.out.1.size
    case measure=>omega
   ·have hi2:¬ (j:Int) < (ml:Int) + 1:=by omega
    obtain rfl:j=ml + 1:=by omega
    have hJ1':RwJ enc l base es es.length q (sh enc ms1) (sh enc os1):=by rw [HML.out];exact hJ1
    have HFN:=zh hJ1'.fin
    obtain ⟨ao1,cp1,hvo1⟩:∃ ao cp,vo1=.slice ao os1.length cp:=by
     rcases hW1.old with ⟨e,p,c,h⟩ | ⟨o,c,h,_⟩
     ·have:=congrArg List.length e
      rw [xsOf_len] at this
      exact ⟨p,c,by rw [h,this];rfl⟩
     ·exact ⟨_,c,by rw [h,xsOf_len]⟩
    subst hvo1
    have cg2:=hW1.cells.1.2.2.1
    have HW1:=zh hW1
    have HKN:=zh (And.intro hK1 hN1)
    have HLO:=zh (show os1.length≤1000000 by
     have h1:=hJ1'.fin.2
     have h2:=HBD.out
     rw [ln_fst,ln_fst] at h1
     have:=HW1.out.po.len
     have:=ln_ge enc (asOf os1)
     omega)
    have hlo:=HLO.out
    clear hJ1 hJ1' hW1 hK1 hN1 HI
    go_upto_block 4 with fail
    clear cg2
    go_wp2_with fail
    go_loopg [99] os1.length (fun gk p wr2=>∃ i:Nat,i + gk=os1.length∧p=.int .i64 (i:Nat)∧Hid (RwE enc L g bo W (.slice (some ⟨bl,ol,none⟩) L.length cl) (.slice ao1 os1.length cp1) os1 (sh enc ms1) i wr2))
    case atStart=>exact ⟨0,by omega,rfl,vm1,ms1,HW1.out,by simp [sh],HKN.out.1,HKN.out.2⟩
    case round =>
     obtain ⟨i,hi,rfl,HI2⟩:=hrel
     obtain ⟨vm2,ms2,hW2,hs2,hK2,hN2⟩:=HI2.out
     by_cases hio:i < os1.length
     ·have hio2:(i:Int) < (os1.length:Int):=by omega
      obtain ⟨⟨x,gx⟩,hgx⟩:∃ q,os1[i]?=some q:=⟨_,List.getElem?_eq_getElem hio⟩
      rcases hW2.old with ⟨e,_⟩ | ⟨o,c,hv,hc1,hc2,hrw⟩
      ·exfalso
       have:=congrArg List.length e
       rw [xsOf_len,List.length_nil] at this
       omega
      ·simp only [Value.slice.injEq] at hv
       obtain ⟨rfl,_,rfl⟩:=hv
       have cx:=hrw.cell i (by rw [xsOf_len];exact hio)
       rw [show (xsOf os1)[i]?.getD It.zero=x by simp [xsOf,hgx]] at cx
       have hbnd:ln enc (asOf ms2) + ln enc gx≤1073741824:=by
        have h1:=HFN.out.2
        have h2:=HBD.out
        have e1:asOf ms2=asOf ms1 ++ asOf (os1.take i):=by rw [← sh_fst enc ms2,hs2,List.map_append,sh_fst,sh_fst]
        have e2:asOf os1=asOf (os1.take i) ++ (gx ++ asOf (os1.drop (i + 1))):=by
         conv=>lhs;rw [← List.take_append_drop i os1,drop_of hgx]
         rw [asOf_app];simp [asOf]
        rw [ln_fst,ln_fst,e2,ln_app,ln_app] at h1
        rw [e1,ln_app]
        omega
       have AD:Hid (∀ w2,Below wr.heap.size wr w2→Calls Tryz.prog 99 #[.pointer (some ⟨g,0,none⟩),.agg #[.slice x.p x.n x.c,.int .i64 x.pl,.int .i64 x.sp.a,.int .i64 x.sp.s,.int .i64 x.sp.b,.bool x.sp.lf,.bool x.sp.cr]] w2 fun e w'=>AdR enc L g bo w2 (.slice (some ⟨bl,ol,none⟩) L.length cl) (.slice (some ⟨bo,o,none⟩) os1.length cp1) vm2 os1 ms2 x gx e w'):=fun w2 hb=>add_any enc HEN.out L HBY.out HLL.out g bo _ _ vm2 x gx os1 ms2 w2 (hW2.ext hb) ((hW2.po (x,gx) (List.mem_of_getElem? hgx)).ext hb) hbnd
       have HS2:=zh (And.intro hs2 (And.intro hK2 hN2))
       have HGX:=zh hgx
       clear hW2 hs2 hK2 hN2 hrw hbnd HI2 hgx
       go_wp2_with (go_at_call 99;refine (AD.out _ (zxa (Below.refl _ _) _)).mono ?_;clear cx;rintro e x3 ⟨v,vm3,ms3,rfl,hW3,hs3,hm3,hk3,hn3⟩;have HG:=zh (And.intro hW3 (And.intro hs3 (And.intro hk3 hn3)));clear hW3 hs3 hm3 hk3 hn3;(try dsimp only))
       go_roundg (os1.length - (i + 1))
       case rel =>
        have kb:Kps (ow g bo (.slice none 0 0)) W (wr.alloc (.cells #[.slice x.p x.n x.c,.int .i64 x.pl,.int .i64 x.sp.a,.int .i64 x.sp.s,.int .i64 x.sp.b,.bool x.sp.lf,.bool x.sp.cr] 97)):=HS2.out.2.1.trans (Kps.of_below (ow g bo (.slice none 0 0)) (zxa (Below.refl _ _) _)) (fun _ _ e=>e)
        refine ⟨i + 1,by omega,by go_num,vm3,ms3,HG.out.1,?_,kb.trans HG.out.2.2.1 HS2.out.2.2.ow,HS2.out.2.2.trans HG.out.2.2.2 kb.size⟩
        rw [HG.out.2.1,HS2.out.1,sh_succ HGX.out,List.append_assoc]
       case measure=>omega
     ·have hio2:¬ (i:Int) < (os1.length:Int):=by omega
      obtain rfl:i=os1.length:=by omega
      obtain ⟨aBW,a4,a6,a9,a10,ad⟩:=HALL.out wr hK2
      obtain ⟨am,cm,hvm⟩:=hW2.made.form1
      rw [xsOf_len] at hvm
      subst hvm
      have c4:wr.cell? ⟨w.heap.size,0,none⟩=some (.pointer u):=by rw [cell_of_row wr _ _ _ _ _ a4];rfl
      have c9:wr.cell? ⟨b9,0,none⟩=some (.int .i64 fr):=by rw [cell_of_row wr _ _ _ _ _ a9];rfl
      have c10:wr.cell? ⟨b10,0,none⟩=some (.int .i64 tt):=by rw [cell_of_row wr _ _ _ _ _ a10];rfl
      have cg3:=hW2.cells.1.2.2.2
      rw [List.take_length] at hs2
      have hwm2:wt (xsOf ms2)≤4000000:=by
       have h1:=hW2.pm.wt
       have h2:=HFN.out.2
       have h3:=HBD.out
       rw [← sh_fst enc ms2,hs2,List.map_append,ln_app] at h1
       omega
      have RP:=zh (Replace_good u (xsOf qs) fr tt (.slice am ms2.length cm) (xsOf ms2) wr (HTT.out.ext aBW) hW2.made.rd Fz.out.2.2 (by rw [xsOf_len];exact httl) (by omega))
      have HPM:=zh hW2.pm
      have HS2:=zh hs2
      have HA:=zh (And.intro aBW (And.intro a6 ad))
      have hz6:=(Array.getElem?_eq_some_iff.1 a6).1
      have hzd:=(Array.getElem?_eq_some_iff.1 ad).1
      have HC6:Hid (∀ y:World,Below wr.heap.size wr y→y.cell? ⟨w.heap.size + 1,0,none⟩=some (.pointer none)∧(∀ i,y.frozen? ⟨w.heap.size + 1,i,none⟩=false)∧y.heap[w.heap.size + 1]?=some (.cells #[.pointer none] 90 (0,0))∧w.heap.size + 1 < y.heap.size):=fun y hb=>by
       have e:=(hb.block _ hz6).trans HA.out.2.1
       exact ⟨by rw [cell_of_row y _ _ _ _ _ e];rfl,fun i=>by simp [World.frozen?,e],e,Nat.lt_of_lt_of_le hz6 hb.size⟩
      clear hW2 hs2 hK2 hN2 HI2 aBW a4 a6 a9 a10 ad
      go_wp2_with (go_at_call 100;refine RP.out.mono ?_;clear c4 c9 c10 cg3;rintro e y1 ⟨u2,rfl,ht2,hb2⟩;have HTN:=zh ht2;have HBN:=zh hb2;obtain ⟨c6,f6,_,z6⟩:=HC6.out y1 hb2;clear ht2 hb2;(try dsimp only))
      clear c6 f6 z6
      generalize hwz:World.setCell _ _ _=z0
      obtain ⟨p1,p2⟩:=set1 (HC6.out _ HBN.out).2.2.1 0 (.pointer u2)
      rw [hwz] at p1 p2
      generalize hwF:World.alloc _ _=z
      have hBy:Below z0.heap.size z0 z:=by rw [← hwF];exact zxa (Below.refl _ _) _
      have zs1:=HBN.out.size
      have zs2:=p2.size
      have zs3:=hBy.size
      have e1:∀ k,k < y1.heap.size→k≠w.heap.size + 1→z.heap[k]?=y1.heap[k]?:=fun k h1 h2=>(hBy.block k (by omega)).trans (p2.block k h1 (by intro e;cases e;exact h2 rfl))
      have hdz:z.heap[v4.heap.size]?=some (.deferred (some [])):=(e1 _ (by omega) (by omega)).trans ((HBN.out.block _ hzd).trans HA.out.2.2)
      have hdz2:z.heap[v3.heap.size + 2]?=some (.deferred (some [])):=by rw [← hv4s];exact hdz
      refine ⟨by simp,.inl ⟨_,_,rfl,run_takeDeferred hdz2,?_⟩⟩
      generalize hwy:World.putObj _ _ _=zz
      have hzz:zz.os=z.os∧zz.tape=z.tape∧zz.output=z.output∧zz.heap.size=z.heap.size:=by rw [← hwy];exact ⟨rfl,rfl,rfl,by simp⟩
      have ezz:∀ k,k≠v4.heap.size→zz.heap[k]?=z.heap[k]?:=fun k hk=>by rw [← hwy];exact World.putObj_heap_other (by omega)
      have crz:zz.cell? ⟨w.heap.size + 1,0,none⟩=some (.pointer u2):=by rw [cell_of_row zz _ _ _ _ _ ((ezz _ (by omega)).trans ((hBy.block _ (by omega)).trans p1))];rfl
      refine ⟨.agg #[.pointer u2],by simp [results,Tryz.results64,go_sem,crz],?_⟩
      have ez:∀ T,T≠90→∀ b,Typ T y1 b→zz.heap[b]?=y1.heap[b]?:=fun T hT b hb=>by
       have hbl:=hb.lt
       have n1:b≠w.heap.size + 1:=fun e=>by subst e;exact hT (hb.uniq ⟨_,(HC6.out y1 HBN.out).2.2.1⟩)
       have n2:b≠v4.heap.size:=fun e=>by
        subst e
        obtain ⟨cs,e1⟩:=hb
        rw [(HBN.out.block _ hzd).trans HA.out.2.2] at e1
        cases e1
       exact (ezz b n2).trans (e1 b hbl n1)
      refine ⟨u2,qs.take fr ++ ms2 ++ qs.drop tt,rfl,?_,?_,?_,?_⟩
      ·refine TT.same ?_ (ez _ (by decide))
       rw [xsOf_app,xsOf_app]
       have h:=HTN.out
       rwa [show (xsOf qs).take fr=xsOf (qs.take fr) by simp [xsOf,List.map_take],show (xsOf qs).drop tt=xsOf (qs.drop tt) by simp [xsOf,List.map_drop]] at h
      ·have hq:Pcs enc L y1 qs:=HP.out.ext (zxt HA.out.1 HBN.out)
       refine Pcs.same (w:=y1) ?_ (ez _ (by decide))
       exact (Pcs.app (fun q hq'=>hq q (List.mem_of_mem_take hq')) (HPM.out.ext HBN.out)).app (fun q hq'=>hq q (List.mem_of_mem_drop hq'))
      ·rw [sh_app,sh_app,HS2.out,HFN.out.1,sh_three enc qs fr tt Fz.out.2.2,← HOS.out]
       have h2:=HH2.out
       have hr2:=HRG.out base l.length (by rw [HBS.out];exact Fz.out.1) (by rw [HL.out];exact Fz.out.2.1)
       rw [HBS.out] at hr2 ⊢
       rw [h2] at hr2 ⊢
       exact (ap_mid _ _ _ es hr2).symm
      ·have aB:=HA.out.1
       have zaB:=aB.size
       refine ⟨?_,?_,?_,by omega,fun k hk=>?_⟩
       ·exact hzz.1.trans (hBy.os.trans (p2.os.trans (HBN.out.os.trans aB.os)))
       ·exact hzz.2.1.trans (hBy.tape.trans (p2.tape.trans (HBN.out.tape.trans aB.tape)))
       ·exact hzz.2.2.1.trans (hBy.output.trans (p2.output.trans (HBN.out.output.trans aB.output)))
       ·exact (ezz k (by omega)).trans ((e1 k (by omega) (by omega)).trans ((HBN.out.block k (by omega)).trans (aB.block k hk)))
end Go.Proofs.YtdhciadajendnaaGreat.P
