import Derived.Test.YtdhciadajendnaaGreatK06
import Derived.OwnWalkIn
import Derived.OrdersHeld
import Derived.ControlIn
set_option maxRecDepth 100000
namespace Go.Proofs.YtdhciadajendnaaGreat.P
open Go.RowKit
def Quiet (P:Program) (o:Oper):Prop:=(∀ c,o.op≠.defer c)∧∀ ρ w y w',(execOp ρ o).run P w=.ok y w'→(∃ v,y=.value v)∨y=.skip
theorem ops_in {F:Fence} {n:Nat} {P:Program} {ops:Array Oper} {Q:Exit→Act→World→Prop} (hfn:∀ f,F.fn f) (hq:∀ (i:Nat) (o:Oper),ops[i]?=some o→Quiet P o) (hlo:¬ LetsOut Q) :
  ∀ (l:List Nat) (a:Act) (w:World),wpOps P ops Q l a w→wpOpsIn F n P ops Q l a w:=by
 intro l
 induction l with
 | nil=>intro a w h;exact h
 | cons i rest ih =>
   intro a w h
   unfold wpOps at h
   unfold wpOpsIn
   cases ho:ops[i]? with
   | none=>rw [ho] at h;exact ih a w h
   | some o =>
     rw [ho] at h
     simp only at h ⊢
     obtain ⟨q1,q2⟩:=hq i o ho
     by_cases hw:Region.wanted o (yielded ops a.tmps)=true
     ·rw [if_pos hw] at h ⊢
      rcases h with h | h
      ·refine ⟨fun f _=>hfn f,?_⟩
       rw [Oper.semAt_plain F _ _ q1]
       unfold Oper.wp at h
       cases hr:(execOp a.eval o).run P w with
       | ok y w' =>
         rw [hr] at h
         rcases q2 a.eval w y w' hr with ⟨v,rfl⟩ | rfl
         ·exact ih _ _ h
         ·exact ih _ _ h
       | halt k w' =>
         rw [hr] at h
         cases k with
         | panic v=>exact h
         | _=>exact h.elim
      ·exact absurd h.2 hlo
     ·rw [if_neg hw] at h ⊢
      exact ⟨fun f _=>hfn f,ih _ _ h⟩
theorem wpIn_held {F:Fence} {n:Nat} {P:Program} {ops:Array Oper} {Q:Exit→Act→World→Prop} {S:World→Prop} {id:Nat} {a:Act} {w:World} (hfn:∀ f,F.fn f) (hq:∀ (i:Nat) (o:Oper),ops[i]?=some o→Quiet P o) (hlo:¬ LetsOut Q) (hm:P.follows .mixedOrders=true) (hS:S w.drew)
  (h:S w.drew→wpAnyH P .any ops Q S ops.size (Array.replicate ops.size false) a w.drew):(Code.region id ops true).wpIn F n P Q a w :=
 wpIn_region_draw fun t=>by
  simp only [Region.schedule,hm,Bool.true_or,if_true]
  exact ops_in hfn hq hlo _ _ _ (wpAny_sound ops.size t _ a _ (wpAny_of_held _ _ _ _ (h hS)))
theorem quiet_val {P:Program} {o:Oper} (h1:∀ c,o.op≠.defer c) (f:(Operand→Value)→Sem Value) (h2:∀ ρ,execOp ρ o=(do pure (.value (← f ρ)))):Quiet P o:=by
 refine ⟨h1,fun ρ w y w' h=>?_⟩
 rw [h2] at h
 simp only [Sem.run_bind,Sem.run_pure] at h
 cases e:(f ρ).run P w with
 | ok v w1=>rw [e] at h;simp only [Result.andThen_ok] at h;cases h;exact .inl ⟨v,rfl⟩
 | halt k w1=>rw [e] at h;cases h
theorem quiet_unit {P:Program} {o:Oper} (h1:∀ c,o.op≠.defer c) (f:(Operand→Value)→Sem Unit) (h2:∀ ρ,execOp ρ o=(do f ρ;pure .skip)):Quiet P o:=by
 refine ⟨h1,fun ρ w y w' h=>?_⟩
 rw [h2] at h
 simp only [Sem.run_bind,Sem.run_pure] at h
 cases e:(f ρ).run P w with
 | ok v w1=>rw [e] at h;simp only [Result.andThen_ok] at h;cases h;exact .inr rfl
 | halt k w1=>rw [e] at h;cases h
open Go.RowKit
theorem oper_in {l n:Nat} {P:Program} {o:Oper} {a:Act} {w:World} {next next':Act→World→Prop} {Q:Exit→Act→World→Prop} (hd:∀ c,o.op≠.defer c) (hn:∀ a w,next a w→next' a w) (h:o.wp P a w next Q):o.wpIn (Fence.wide.inRound l) n P a w next' Q:=by
 refine ⟨fun f _=>trivial,?_⟩
 rw [Oper.semAt_plain _ _ _ hd]
 unfold Oper.wp at h
 cases hr:(execOp a.eval o).run P w with
 | ok y w' =>
   rw [hr] at h
   cases y with
   | value v=>exact hn _ _ h
   | skip=>exact hn _ _ h
   | defer d=>exact hn _ _ h
   | enter f args =>
     refine ⟨(fun e=>by cases e),?_⟩
     refine (callsIn_wide (n:=n - 1)).2 (Calls.mono h fun e w'' he=>?_)
     cases e with
     | returned v=>exact hn _ _ he
     | panicked c=>exact he
     | outgrown=>exact he
   | row r args =>
     refine ⟨(fun e=>by cases e),?_⟩
     exact fun c cs _=>let ⟨v,w',r,s⟩:=h c cs;⟨v,w',hn _ _ r,stepsIn_wide.2 s⟩
   | _=>exact h.elim
 | halt k w' =>
   rw [hr] at h
   cases k with
   | panic v=>exact h
   | _=>exact h.elim
theorem ops_inC {l n:Nat} {P:Program} {ops:Array Oper} {Q:Exit→Act→World→Prop} (hq:∀ (i:Nat) (o:Oper),ops[i]?=some o→∀ c,o.op≠.defer c) (hlo:¬ LetsOut Q) :
  ∀ (t:List Nat) (a:Act) (w:World),wpOps P ops Q t a w→wpOpsIn (Fence.wide.inRound l) n P ops Q t a w:=by
 intro t
 induction t with
 | nil=>intro a w h;exact h
 | cons i rest ih =>
   intro a w h
   unfold wpOps at h
   unfold wpOpsIn
   cases ho:ops[i]? with
   | none=>rw [ho] at h;exact ih a w h
   | some o =>
     rw [ho] at h
     simp only at h ⊢
     by_cases hw:Region.wanted o (yielded ops a.tmps)=true
     ·rw [if_pos hw] at h ⊢
      rcases h with h | h
      ·exact oper_in (hq i o ho) (fun a w h=>ih a w h) h
      ·exact absurd h.2 hlo
     ·rw [if_neg hw] at h ⊢
      exact ⟨fun f _=>trivial,ih _ _ h⟩
theorem wpIn_heldC {l n:Nat} {P:Program} {ops:Array Oper} {Q:Exit→Act→World→Prop} {S:World→Prop} {id:Nat} {a:Act} {w:World} (hq:∀ (i:Nat) (o:Oper),ops[i]?=some o→∀ c,o.op≠.defer c) (hlo:¬ LetsOut Q) (hm:P.follows .mixedOrders=true) (hS:S w.drew)
  (h:S w.drew→wpAnyH P .any ops Q S ops.size (Array.replicate ops.size false) a w.drew):(Code.region id ops true).wpIn (Fence.wide.inRound l) n P Q a w :=
 wpIn_region_draw fun t=>by
  simp only [Region.schedule,hm,Bool.true_or,if_true]
  exact ops_inC hq hlo _ _ _ (wpAny_sound ops.size t _ a _ (wpAny_of_held _ _ _ _ (h hS)))
open Go.RowKit
theorem wt_sub (xs:List It) (i:Nat):wt (xs.take i)≤wt xs∧wt (xs.drop i)≤wt xs:=by
 have:=wt_app (xs.take i) (xs.drop i)
 rw [List.take_append_drop] at this
 omega
set_option maxHeartbeats 2000000 in
theorem Replace_good (u:Option Addr) (xs:List It) (f t:Nat) (v:Value) (ys:List It) (w:World) (h:TT w (.agg #[.pointer u]) xs) (hv:RdR w v ys) (hft:f≤t) (htn:t≤xs.length) (hw:wt xs + wt ys≤4611686018427387904) :
  Calls Tryz.prog 100 #[.agg #[.pointer u],.int .i64 f,.int .i64 t,v] w fun e w'=>∃ u',e=.returned (.tuple #[.agg #[.pointer u'],.int .i64 0])∧TT w' (.agg #[.pointer u']) (xs.take f ++ ys ++ xs.drop t)∧Below w.heap.size w w':=by
 obtain ⟨w0,hw0⟩:∃ w0,w0=(w.alloc (.cells #[.pointer u] 90)).alloc (.cells #[.pointer none] 90):=⟨_,rfl⟩
 have hb0:Below w.heap.size w w0:=by rw [hw0];exact zxa (zxa (Below.refl _ _) _) _
 have hA:w0.heap[w.heap.size + 1]?=some (.cells #[.pointer none] 90 (0,0)):=by
  have:=heap_alloc_new (w.alloc (.cells #[.pointer u] 90)) (.cells #[.pointer none] 90)
  rw [World.size_alloc] at this
  rw [hw0];exact this
 have hlt:w.heap.size + 1 < w0.heap.size:=(Array.getElem?_eq_some_iff.1 hA).1
 have c0:w0.cell? ⟨w.heap.size,0,none⟩=some (.pointer u):=by first | trivial | (rw [hw0];simp)
 have K:Hid (Calls Tryz.prog 94 #[.agg #[.pointer u]] w0 fun e w''=>e=.returned (.int .i64 xs.length)∧Below w0.heap.size w0 w''):=Size_any u xs w0 (h.ext hb0)
 obtain ⟨u',tr,hu,ht,hl,hbal⟩:=h.ext hb0
 obtain rfl:u=u':=by simpa using hu
 have hwf:=wt_sub xs f
 have hwt:=wt_sub xs t
 have hsum:wt (xs.take f) + wt ys + wt (xs.drop t)≤4611686018427387904:=by
  have e1:wt (xs.take f)≤wt (xs.take t):=by
   have:=(wt_sub (xs.take t) f).1
   rw [List.take_take,Nat.min_eq_left hft] at this
   exact this
  have e2:=wt_app (xs.take t) (xs.drop t)
  rw [List.take_append_drop] at e2
  omega
 have HD:Hid (∀ w',Below w0.heap.size w0 w'→Calls Tryz.prog 126 #[.pointer u,.int .i64 f] w' fun e w''=>∃ a,e=.returned (.pointer a)∧Hid (∃ p,Tin w'' p a∧p.list=xs.take f∧p.Bal)∧Below w0.heap.size w0 w''):=fun w' hb=>(head_any tr f u w' (ht.ext hb) (by rw [hl];omega)).mono fun _ _ ⟨a,p,k1,k2,⟨k3,k4⟩,k5⟩=>⟨a,k1,⟨p,k2,by rw [k3,hl];rfl,k4 hbal⟩,zxt hb k5⟩
 have TL:Hid (∀ a w',Hid (∃ p,Tin w' p a∧p.list=xs.take f∧p.Bal)→Below w0.heap.size w0 w'→Calls Tryz.prog 127 #[.pointer u,.int .i64 t] w' fun e w''=>∃ b,e=.returned (.pointer b)∧Hid ((∃ p,Tin w'' p a∧p.list=xs.take f∧p.Bal)∧∃ p,Tin w'' p b∧p.list=xs.drop t∧p.Bal)∧Below w0.heap.size w0 w''):=fun a w' ha hb=>(tail_any tr t u w' (ht.ext hb) (by rw [hl];omega)).mono fun _ _ ⟨b,p,k1,k2,⟨k3,k4⟩,k5⟩=>by
  obtain ⟨q,q1,q2⟩:=ha.out
  exact ⟨b,k1,⟨⟨q,q1.ext k5,q2⟩,p,k2,by rw [k3,hl];rfl,k4 hbal⟩,zxt hb k5⟩
 have BL:Hid (∀ a b w',Hid ((∃ p,Tin w' p a∧p.list=xs.take f∧p.Bal)∧∃ p,Tin w' p b∧p.list=xs.drop t∧p.Bal)→Below w0.heap.size w0 w'→Calls Tryz.prog 74 #[v] w' fun e w''=>∃ c,e=.returned (.pointer c)∧Hid ((∃ p,Tin w'' p a∧p.list=xs.take f∧p.Bal)∧(∃ p,Tin w'' p b∧p.list=xs.drop t∧p.Bal)∧∃ p,Tin w'' p c∧p.list=ys∧p.Bal)∧Below w0.heap.size w0 w''):=fun a b w' hab hb=>(build_any _ ys v w' (Nat.le_refl _) ((hv.ext hb0).ext hb) (by omega)).mono fun _ _ ⟨c,p,k1,k2,k3,k5⟩=>by
  obtain ⟨⟨q,q1,q2⟩,r,r1,r2⟩:=hab.out
  exact ⟨c,k1,⟨⟨q,q1.ext k5,q2⟩,⟨r,r1.ext k5,r2⟩,p,k2,k3.1,k3.2.1⟩,zxt hb k5⟩
 have C1:Hid (∀ a b c w',Hid ((∃ p,Tin w' p a∧p.list=xs.take f∧p.Bal)∧(∃ p,Tin w' p b∧p.list=xs.drop t∧p.Bal)∧∃ p,Tin w' p c∧p.list=ys∧p.Bal)→Below w0.heap.size w0 w'→Calls Tryz.prog 128 #[.pointer a,.pointer c] w' fun e w''=>∃ d,e=.returned (.pointer d)∧Hid ((∃ p,Tin w'' p d∧p.list=xs.take f ++ ys∧p.Bal)∧∃ p,Tin w'' p b∧p.list=xs.drop t∧p.Bal)∧Below w0.heap.size w0 w''):=fun a b c w' habc hb=>by
  obtain ⟨⟨q,q1,q2,q3⟩,⟨r,r1,r2⟩,p,p1,p2,p3⟩:=habc.out
  exact (concat_any q p a c w' q1 p1 (by rw [q2,p2,wt_app];omega)).mono fun _ _ ⟨d,z,k1,k2,⟨k3,k4⟩,k5⟩=>⟨d,k1,⟨⟨z,k2,by rw [k3,q2,p2],k4 q3 p3⟩,r,r1.ext k5,r2⟩,zxt hb k5⟩
 have C2:Hid (∀ d b w',Hid ((∃ p,Tin w' p d∧p.list=xs.take f ++ ys∧p.Bal)∧∃ p,Tin w' p b∧p.list=xs.drop t∧p.Bal)→Below w0.heap.size w0 w'→Calls Tryz.prog 128 #[.pointer d,.pointer b] w' fun e w''=>∃ r,e=.returned (.pointer r)∧Hid (∃ p,Tin w'' p r∧p.list=xs.take f ++ ys ++ xs.drop t∧p.Bal)∧Below w0.heap.size w0 w''):=fun d b w' hdb hb=>by
  obtain ⟨⟨q,q1,q2,q3⟩,p,p1,p2,p3⟩:=hdb.out
  exact (concat_any q p d b w' q1 p1 (by rw [q2,p2,wt_app,wt_app];omega)).mono fun _ _ ⟨d,z,k1,k2,⟨k3,k4⟩,k5⟩=>⟨d,k1,⟨z,k2,by rw [k3,q2,p2],k4 q3 p3⟩,zxt hb k5⟩
 have HZ:Hid (∀ w1,Below w0.heap.size w0 w1→w1.heap[w.heap.size + 1]?=some (.cells #[.pointer none] 90 (0,0))):=fun w1 hb1=>by rw [hb1.block _ hlt];exact hA
 have HC:Hid (∀ w1,Below w0.heap.size w0 w1→w1.cell? ⟨w.heap.size,0,none⟩=some (.pointer u)):=fun w1 hb1=>(by first | trivial | exact C7.ext hb1 (by simp only;omega) c0 | exact C5.ext hb1 (by simp only;omega) c0 | exact (hb1.cell (p:=⟨w.heap.size,0,none⟩) (by simp only;omega)).trans c0 | exact (hb1.cell (p:=⟨w.heap.size,0,none⟩) (by simp only;omega)).trans c0)
 have HB0:=zh hb0
 obtain ⟨ao,cap,rfl,_⟩:=hv
 have t1:¬ (f:Int) < 0:=by omega
 have t2:¬ (t:Int) < (f:Int):=by omega
 have t3:¬ (xs.length:Int) < (t:Int):=by omega
 have t1':decide ((f:Int) < 0)=false:=by simp
 have t2':decide ((t:Int) < (f:Int))=false:=by simp;omega
 have t2n:¬ t < f:=by omega
 have t3n:¬ xs.length < t:=by omega
 clear hb0 hA h ht hl hbal hu hwf hwt hsum hw hft htn
 generalize xs.length=n at *
 go_enter Tryz.func100,Tryz.ntmps100
 go_wp2_with (rw [← hw0];go_at_call 94;refine K.out.mono ?_;clear hw0;rintro e w1 ⟨rfl,hb1⟩;have HB1:=zh hb1;clear c0;have c0:=HC.out w1 hb1;clear hb1)
 go_region_held3 (fun w'=>w'.cell? ⟨w.heap.size,0,none⟩=some (.pointer u)) (go_keep) (first
  | (go_at_call 126;refine (HD.out _ (by repeat (first | exact HB1.out | apply Below.drew))).mono ?_;rintro e w2 ⟨a,rfl,T1,hb2⟩;have HB2:=zh hb2;clear c0;have c0:=HC.out w2 hb2;clear hb2)
  | (go_at_call 127;refine (TL.out _ _ T1 (by repeat (first | exact HB2.out | apply Below.drew))).mono ?_;rintro e w3 ⟨b,rfl,T2,hb2⟩;have HB3:=zh hb2;clear c0;have c0:=HC.out w3 hb2;clear hb2))
 go_wp2_with (first
  | (go_at_call 74;refine (BL.out _ _ _ T2 HB3.out).mono ?_;rintro e w4 ⟨c,rfl,T3,hb2⟩;have HB4:=zh hb2;clear hb2)
  | (go_at_call 128;refine (C1.out _ _ _ _ T3 HB4.out).mono ?_;clear C1;rintro e w5 ⟨d,rfl,T4,hb2⟩;have HB5:=zh hb2;clear hb2)
  | (go_at_call 128;refine (C2.out _ _ _ T4 HB5.out).mono ?_;rintro e w6 ⟨r,rfl,T5,hb2⟩;have HB6:=zh hb2;have z0:w6.cell? ⟨w.heap.size + 1,0,none⟩=some (.pointer none):=by { rw [cell_of_row w6 _ 0 _ _ _ (HZ.out w6 hb2)];rfl };have zf:∀ i,w6.frozen? ⟨w.heap.size + 1,i,none⟩=false:=by { intro i;simp [World.frozen?,HZ.out w6 hb2] };clear hb2))
 obtain ⟨p1,p2⟩:=set1 (HZ.out w6 HB6.out) 0 (.pointer r)
 obtain ⟨p,k1,k2,k3⟩:=T5.out
 exact bodyPost_ret (v:=.tuple #[.agg #[.pointer r],.int .i64 0]) (by simp [results,Tryz.results100,go_sem,z0]) rfl ⟨r,rfl,⟨r,p,rfl,k1.put (HZ.out w6 HB6.out) (by decide) p2,k2,k3⟩,zbp (zxt HB0.out HB6.out) (by have:=HB6.out.size;omega) p2 (by omega)⟩
open Go.RowKit
def szAt (w:World):Value→Nat
 | .pointer (some a)=>match w.cell? ⟨a.block,9,none⟩ with
   | some (.int _ n)=>n.toNat
   | _=>0
 | _=>0
theorem szAt_tin {w:World} {t:Tr It} {u:Option Addr} (h:Tin w t u):szAt w (.pointer u)=t.list.length:=by
 cases t using Tr.ind with
 | nil=>simp only [Tin] at h;subst h;rfl
 | node l x r =>
   obtain ⟨g,lv,rv,rfl,hg,hl,hr⟩:=h
   have c4:w.cell? ⟨g,9,none⟩=some (.int .i64 ((l.list ++ x :: r.list).length:Nat)):=by (rw [cell_of_row w g _ _ _ _ hg];rfl)
   simp [szAt,c4,Tr.list]
   omega
def atL (l:List It) (i:Int):Option It:=if i < 0 then none else l[i.toNat]?
theorem atL_nil (i:Int):atL [] i=none:=by unfold atL;split <;> simp
theorem atL_here (l r:List It) (x:It):atL (l ++ x :: r) l.length=some x:=by
 unfold atL;rw [if_neg (by omega)];simp
theorem atL_left (l r:List It) (x:It) (i:Int) (h:i < l.length):atL (l ++ x :: r) i=atL l i:=by
 unfold atL
 split
 ·rfl
 ·rw [List.getElem?_append_left (by omega)]
theorem atL_right (l r:List It) (x:It) (i:Int) (h:l.length < i):atL (l ++ x :: r) i=atL r (i - (l.length + 1)):=by
 unfold atL
 rw [if_neg (by omega),if_neg (by omega),List.getElem?_append_right (by omega),show i.toNat - l.length=(i - (l.length + 1)).toNat + 1 by omega]
 rfl
def AtP (xs:List It) (i:Int) (x:It) (b:Bool):Prop:=(atL xs i=some x∧b=true)∨(atL xs i=none∧b=false∧x=It.zero)
set_option maxHeartbeats 2000000 in
theorem At_any (u:Option Addr) (xs:List It) (i:Int) (w:World) (h:TT w (.agg #[.pointer u]) xs) (hw:wt xs≤4611686018427387904) (hi:i≤9223372036854775807) :
  Calls Tryz.prog 114 #[.agg #[.pointer u],.int .i64 i] w fun e w'=>∃ x b,e=.returned (.tuple #[.agg #[.slice x.p x.n x.c,.int .i64 x.pl,.int .i64 x.sp.a,.int .i64 x.sp.s,.int .i64 x.sp.b,.bool x.sp.lf,.bool x.sp.cr],.bool b])∧AtP xs i x b∧Below w.heap.size w w':=by
 obtain ⟨u',tr,hu,ht,hl,_⟩:=h
 obtain rfl:u=u':=by simpa using hu
 obtain ⟨w0,hw0⟩:∃ w0,w0=(w.alloc (.cells #[.pointer u] 90)).alloc (.cells #[.slice none 0 0,.int .i64 0,.int .i64 0,.int .i64 0,.int .i64 0,.bool false,.bool false] 97):=⟨_,rfl⟩
 have hb0:Below w.heap.size w w0:=by rw [hw0];exact zxa (zxa (Below.refl _ _) _) _
 have hA:BlkI w0 (w.heap.size + 1) It.zero:=by
  have:=heap_alloc_new (w.alloc (.cells #[.pointer u] 90)) (.cells #[.slice none 0 0,.int .i64 0,.int .i64 0,.int .i64 0,.int .i64 0,.bool false,.bool false] 97)
  rw [World.size_alloc] at this
  rw [hw0];exact this
 have hlt:=hA.lt
 have HT:=zh (ht.ext hb0)
 have HL:=zh hl
 have HB0:=zh hb0
 have HW:=zh hw
 clear ht hl hb0 hu hw
 go_enter Tryz.func114,Tryz.ntmps114
 go_wp2_with fail
 rw [← hw0]
 clear hw0
 go_loopw [1,6] (fun i' p wr=>∃ (t:Tr It) (q:Option Addr) (j:Int),i'=.int .i64 j∧p=.pointer q∧Tin wr t q∧Hid (atL xs i=atL t.list j∧wt t.list≤4611686018427387904)∧j≤9223372036854775807∧wr=w0) (fun _ p wr=>szAt wr p)
 case atStart=>exact ⟨tr,u,i,rfl,rfl,HT.out,⟨by rw [HL.out],by rw [HL.out];exact HW.out⟩,hi,rfl⟩
 case round =>
  obtain ⟨t,q,j,rfl,rfl,htq,HA,hj,rfl⟩:=hrel
  obtain ⟨z0,z1,zf⟩:=hA.cells
  cases t using Tr.ind with
  | nil =>
    simp only [Tin] at htq
    subst htq
    go_wp2_with fail
    obtain ⟨p1,p2⟩:=hA.put It.zero
    have HN:atL xs i=none:=by rw [HA.out.1,Tr.list,atL_nil]
    exact bodyPost_ret (v:=.tuple #[.agg #[.slice none 0 0,.int .i64 0,.int .i64 0,.int .i64 0,.int .i64 0,.bool false,.bool false],.bool false]) (by simp [results,Tryz.results114,go_sem,z0,hlt]) rfl ⟨It.zero,false,rfl,.inr ⟨HN,rfl,rfl⟩,zxa (zbp HB0.out (by omega) p2 (by omega)) _⟩
  | node l x r =>
    have hsz:=szAt_tin htq
    have HTQ:=zh htq
    obtain ⟨g,lu,ru,rfl,hgl,h2,h3,c0,c1,c2,c3⟩:=htq.lt
    have hlen:l.list.length≤4611686018427387904:=by
     have:=HA.out.2
     have:=wt_len l.list
     rw [Tr.list,wt_app] at *
     omega
    have HLL:=zh h2
    have HRR:=zh h3
    have K:Hid (Calls Tryz.prog 101 #[.pointer lu] wr fun e w''=>e=.returned (.int .i64 l.list.length)∧w''=wr):=count_any l lu wr h2
    have sl:=szAt_tin h2
    have sr:=szAt_tin h3
    have HS:Hid (szAt wr (.pointer (some ⟨g,0,none⟩))=l.list.length + 1 + r.list.length∧szAt wr (.pointer lu)=l.list.length∧szAt wr (.pointer ru)=r.list.length):=⟨by rw [hsz,Tr.list];simp;omega,sl,sr⟩
    clear htq h2 h3 hsz sl sr
    rcases Int.lt_trichotomy j l.list.length with hj1 | hj1 | hj1
    ·have hne:¬ j=(l.list.length:Int):=by omega
     have HN:Hid (atL xs i=atL l.list j∧wt l.list≤4611686018427387904):=by
      obtain ⟨a1,a2⟩:=HA.out
      rw [Tr.list] at a1 a2
      rw [wt_app] at a2
      exact ⟨by rw [a1,atL_left _ _ _ _ hj1],by omega⟩
     generalize l.list.length=nl at *
     go_wp2_with (go_at_call 101;refine K.out.mono ?_;rintro e w1 ⟨rfl,rfl⟩)
     go_roundw
     case rel=>exact ⟨l,lu,j,rfl,rfl,HLL.out,HN,hj,trivial⟩
     case measure=>rw [HS.out.1,HS.out.2.1];omega
    ·have HN:Hid (atL xs i=some x):=by
      obtain ⟨a1,a2⟩:=HA.out
      rw [Tr.list] at a1
      unfold Hid
      rw [a1,hj1,atL_here]
     generalize l.list.length=nl at *
     subst hj1
     go_wp2_with (go_at_call 101;refine K.out.mono ?_;rintro e w1 ⟨rfl,rfl⟩)
     obtain ⟨p1,p2⟩:=hA.put x
     exact bodyPost_ret (v:=.tuple #[.agg #[.slice x.p x.n x.c,.int .i64 x.pl,.int .i64 x.sp.a,.int .i64 x.sp.s,.int .i64 x.sp.b,.bool x.sp.lf,.bool x.sp.cr],.bool true]) (by simp [results,Tryz.results114,go_sem,z0]) rfl ⟨x,true,rfl,.inl ⟨HN.out,rfl⟩,zbp HB0.out (by omega) p2 (by omega)⟩
    ·have hne:¬ j=(l.list.length:Int):=by omega
     have hge:¬ j < (l.list.length:Int):=by omega
     have HN:Hid (atL xs i=atL r.list (j - (l.list.length + 1))∧wt r.list≤4611686018427387904):=by
      obtain ⟨a1,a2⟩:=HA.out
      rw [Tr.list] at a1 a2
      rw [wt_app,wt_cons] at a2
      exact ⟨by rw [a1,atL_right _ _ _ _ hj1],by omega⟩
     generalize l.list.length=nl at *
     go_wp2_with (go_at_call 101;refine K.out.mono ?_;rintro e w1 ⟨rfl,rfl⟩)
     go_roundw
     case rel=>exact ⟨r,ru,_,rfl,rfl,HRR.out,HN,by omega,trivial⟩
     case measure=>rw [HS.out.1,HS.out.2.2];omega
end Go.Proofs.YtdhciadajendnaaGreat.P
