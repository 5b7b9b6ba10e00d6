import Derived.Test.YtjomfbegghgbdaaGreatK45
import Derived.Test.YtjomfbegghgbdaaGreatK40
import Derived.Laws.EntriesVeiled
set_option maxRecDepth 100000
namespace Go.Proofs.YtjomfbegghgbdaaGreat.P
open Go.RowKit
theorem no_stop (k:Nat):((k:Int) + 1 == -1)=false:=by simp;omega
theorem inner_any (enc:Int) (A:List Int) (t:Nat) {w:World} (hT:Tz enc w t A) {ba bx q gr m cap n:Nat} (hba:w.heap[ba]?=some (.cells #[.pointer (some ⟨t,0,none⟩)] 26 (0,0))) (hbx:w.heap[bx]?=some (.cells #[.pointer (some ⟨q,0,none⟩)] 78 (0,0)))
  (hi:Wg w q gr m cap n (-1) 0 false) (hrow:∀ k,k < n→Rw4 w gr k (lnK enc A (k:Nat))) (hn:(n:Int)=cnt enc A) (hnm:n≤m) (hm:m≤65537) (hcap:m≤cap) (hcap2:cap≤9223372036854775807) (hgq:gr≠q) (hgl:gr < w.heap.size) :
  Calls Tryz.prog 67 #[.func (.func 130) #[] #[.pointer (some ⟨bx,0,none⟩)],.pointer (some ⟨ba,0,none⟩)] w fun e w'=>(∃ v,e=.returned v)∧Wg w' q gr m cap n (-1) n false∧Kps (fun j=>j=q) w w':=by
 have hql:=hi.cs.1
 have hbq:bx≠q:=fun e=>by
  have h1:Typ 78 w bx:=⟨_,hbx⟩
  rw [e] at h1
  exact absurd (Typ.uniq h1 hi.typ) (by decide)
 refine (allGx 130 (.inr (.inr rfl)) enc A t w hT ba bx n hba (fun j=>j=q) (fun k w'=>Wg w' q gr m cap n (-1) k false) (fun _=>true) hn (fun j e=>by rw [e];exact hql) (fun w' hk=>hT.wk hk hi.typ) (fun k w1 w2 h1 h2=>(h2 q hql).trans h1) ?_ hi).mono ?_
 ·intro k w' hk _ hj hkp
  refine (alls3x1_any ((hkp.same bx (Array.getElem?_eq_some_iff.1 hbx).1 hbq).trans hbx) hj _ ((hrow k hk).same (hkp.same gr hgl hgq)) hk hnm hm hcap hcap2 hgq).mono ?_
  rintro e w2 ⟨rfl,h1,h2⟩
  rw [no_stop] at h1
  exact ⟨by rw [no_stop];rfl,h1,h2⟩
 ·rintro e w' ⟨hv,⟨kf,_,h2,h3⟩,h4⟩
  rcases h2 with rfl | ⟨_,h⟩
  ·exact ⟨hv,h3,h4⟩
  ·cases h
set_option maxHeartbeats 8000000 in
theorem alls3_any (enc:Int) (A:List Int) (t:Nat) {w:World} (hT:Tz enc w t A) {bi bx bz ba qi qo gr m cap n k:Nat} (hbi:w.heap[bi]?=some (.cells #[.func (.func 67) #[] #[.pointer (some ⟨ba,0,none⟩)]] 72 (0,0))) (hba:w.heap[ba]?=some (.cells #[.pointer (some ⟨t,0,none⟩)] 26 (0,0))) (hbx:w.heap[bx]?=some (.cells #[.pointer (some ⟨qi,0,none⟩)] 78 (0,0))) (hbz:w.heap[bz]?=some (.cells #[.pointer (some ⟨qo,0,none⟩)] 78 (0,0)))
  (hi:Wg w qi gr m cap n (-1) (if k=0 then 0 else n) false) (ho:Wg w qo gr m cap n (-1) k false) (hrow:∀ k,k < n→Rw4 w gr k (lnK enc A (k:Nat))) (hn:(n:Int)=cnt enc A) (hkn:k < n) (hnm:n≤m) (hm:m≤65537) (hcap:m≤cap) (hcap2:cap≤9223372036854775807) (hqq:qi≠qo) (hg1:gr≠qi) (hg2:gr≠qo) (hgl:gr < w.heap.size) :
  Calls Tryz.prog 129 #[.int .i64 (k:Nat),lnV (lnK enc A (k:Nat)),.pointer (some ⟨bi,0,none⟩),.pointer (some ⟨bx,0,none⟩),.pointer (some ⟨bz,0,none⟩)] w fun e w'=>e=.returned (.bool true)∧(Wg w' qi gr m cap n (-1) n false∧Wg w' qo gr m cap n (-1) (k + 1) false)∧Kps (fun j=>j=qi∨j=qo) w w':=by
 obtain ⟨L,hL⟩:∃ L,lnK enc A (k:Nat)=L:=⟨_,rfl⟩
 obtain ⟨w0,hw0,hlx,hb0⟩:∃ w0,w0=w.alloc (.cells #[.int .i64 L.f,.int .i64 L.t,.int .i64 L.n,.int .i64 L.b] 50)∧w0.heap[w.heap.size]?=some (.cells #[.int .i64 L.f,.int .i64 L.t,.int .i64 L.n,.int .i64 L.b] 50 (0,0))∧Below w.heap.size w w0:=⟨_,rfl,heap_alloc_new _ _,zxa (Below.refl _ _) _⟩
 have hbzq:bz≠qi:=fun e=>by
  have h1:Typ 78 w bz:=⟨_,hbz⟩
  rw [e] at h1
  exact absurd (Typ.uniq h1 hi.typ) (by decide)
 have h3:=hrow k hkn
 rw [hL] at h3 ⊢
 have hol:=ho.cs.1
 have hil:=hi.cs.1
 -- what is done behind the inner going through,in whatever world
 have ME:Hid (∀ w',Kps (fun j=>j=qi) w0 w'→Calls Tryz.prog 42 #[.pointer (some ⟨qo,0,none⟩),.int .i64 (k:Nat),.agg #[.int .i64 L.f,.int .i64 L.t,.int .i64 L.n,.int .i64 L.b]] w' fun e w''=>e=.returned (.bool true)∧Wg w'' qo gr m cap n (-1) (k + 1) false∧Kps (fun j=>j=qo) w' w''):=fun w' hk=>by
  have e1:Wg w' qo gr m cap n (-1) k false:=(hk.same qo (Nat.lt_of_lt_of_le hol hb0.size) (Ne.symm hqq)).trans (ho.ext hb0)
  refine (metG_any e1 L ((h3.same (hb0.block gr hgl)).same (hk.same gr (Nat.lt_of_lt_of_le hgl hb0.size) hg1)) hkn hnm hm hcap hcap2 hg2).mono ?_
  rintro e w2 ⟨rfl,h1,h2⟩
  rw [no_stop] at h1
  exact ⟨by rw [no_stop];rfl,h1,h2⟩
 have CZ:Hid (∀ w',Kps (fun j=>j=qi) w0 w'→w'.cell? ⟨bz,0,none⟩=some (.pointer (some ⟨qo,0,none⟩))∧w'.cell? ⟨w.heap.size,0,none⟩=some (.int .i64 L.f)∧w'.cell? ⟨w.heap.size,1,none⟩=some (.int .i64 L.t)∧w'.cell? ⟨w.heap.size,2,none⟩=some (.int .i64 L.n)∧w'.cell? ⟨w.heap.size,3,none⟩=some (.int .i64 L.b)):=fun w' hk=>by
  have lz:=(Array.getElem?_eq_some_iff.1 hbz).1
  have e1:=(hk.same bz (Nat.lt_of_lt_of_le lz hb0.size) hbzq).trans ((hb0.block bz lz).trans hbz)
  obtain ⟨_,x0,x1,x2,x3,_⟩:=cells4 ((hk.same w.heap.size (Array.getElem?_eq_some_iff.1 hlx).1 (by omega)).trans hlx)
  exact ⟨by simp [World.cell?,e1],x0,x1,x2,x3⟩
 have cb:w0.cell? ⟨bi,0,none⟩=some (.func (.func 67) #[] #[.pointer (some ⟨ba,0,none⟩)]):=by simp [World.cell?,(hb0.block bi (Array.getElem?_eq_some_iff.1 hbi).1).trans hbi]
 have HW0:=zh hw0
 have HB0:=zh hb0
 have HI:=zh hi
 have IN:Hid (k=0→Calls Tryz.prog 67 #[.func (.func 130) #[] #[.pointer (some ⟨bx,0,none⟩)],.pointer (some ⟨ba,0,none⟩)] w0 fun e w'=>(∃ v,e=.returned v)∧Wg w' qi gr m cap n (-1) n false∧Kps (fun j=>j=qi) w0 w'):=fun h0=>by
  rw [if_pos h0] at hi
  exact inner_any enc A t (hT.ext hb0) ((hb0.block ba (Array.getElem?_eq_some_iff.1 hba).1).trans hba) ((hb0.block bx (Array.getElem?_eq_some_iff.1 hbx).1).trans hbx) (hi.ext hb0) (fun j hj=>(hrow j hj).same (hb0.block gr hgl)) hn hnm hm hcap hcap2 hg1 (Nat.lt_of_lt_of_le hgl hb0.size)
 have FIN:Hid (∀ w1 w2,Kps (fun j=>j=qi) w0 w1→Wg w1 qi gr m cap n (-1) n false→Wg w2 qo gr m cap n (-1) (k + 1) false→Kps (fun j=>j=qo) w1 w2→(Wg w2 qi gr m cap n (-1) n false∧Wg w2 qo gr m cap n (-1) (k + 1) false)∧Kps (fun j=>j=qi∨j=qo) w w2):=fun w1 w2 h1 h2 h4 h5 =>
  ⟨⟨(h5.same qi h2.cs.1 hqq).trans h2,h4⟩,((Kps.of_below (fun j=>j=qi∨j=qo) HB0.out).trans h1 (fun _ _ e=>.inl e)).trans h5 (fun _ _ e=>.inr e)⟩
 clear hT hbi hba hbx hbz hi ho hrow hw0 hb0 hlx h3 hL hn
 unfold lnV
 by_cases hk0:k=0
 ·have AC:=zh (IN.out hk0)
  subst hk0
  go_enter Tryz.func129,Tryz.ntmps129
  go_upto_region 1 with fail
  rw [← HW0.out]
  clear HW0
  go_upto_region 3 with (go_at_call 67;refine AC.out.mono ?_;rintro e w1 ⟨⟨ve,rfl⟩,h1,h2⟩;have H1:=zh h1;have H2:=zh h2;clear h1 h2;(try dsimp only))
  obtain ⟨z0,x0,x1,x2,x3⟩:=CZ.out w1 H2.out
  go_wp2_with (go_at_call 42;refine (ME.out w1 H2.out).mono ?_;rintro e w9 ⟨rfl,h1,h2⟩;have H3:=zh h1;have H4:=zh h2;clear h1 h2;(try dsimp only))
  go_ret
  exact ⟨rfl,FIN.out w1 w9 H2.out H1.out H3.out H4.out⟩
 ·have hkb:((k:Int) == 0)=false:=by simp;omega
  have hkb':¬ ((k:Int)=0):=by omega
  have hi2:=HI.out
  rw [if_neg hk0] at hi2
  have HI2:=zh (hi2.ext HB0.out)
  obtain ⟨z0,x0,x1,x2,x3⟩:=CZ.out w0 (Kps.refl _ _)
  clear hi2 IN HI
  go_enter Tryz.func129,Tryz.ntmps129
  go_upto_region 1 with fail
  rw [← HW0.out]
  clear HW0
  go_wp2_with (go_at_call 42;refine (ME.out w0 (Kps.refl _ _)).mono ?_;rintro e w9 ⟨rfl,h1,h2⟩;have H3:=zh h1;have H4:=zh h2;clear h1 h2;(try dsimp only))
  go_ret
  exact ⟨rfl,FIN.out w0 w9 (Kps.refl _ _) HI2.out H3.out H4.out⟩
open Go.RowKit
theorem ne_walk {w:World} {b q:Nat} {vs:Array Value} {T:TypeId} (h:w.heap[b]?=some (.cells vs T (0,0))) (hq:Typ 80 w q) (hT:T≠80):b≠q:=fun e=>by
 have h1:Typ T w b:=⟨_,h⟩
 rw [e] at h1
 exact hT (Typ.uniq h1 hq)
theorem goneA (enc:Int) (A:List Int) (t:Nat) {w:World} (hT:Tz enc w t A) {ba bx q gr m cap n:Nat} {a:Int} (hba:w.heap[ba]?=some (.cells #[.pointer (some ⟨t,0,none⟩)] 26 (0,0))) (hbx:w.heap[bx]?=some (.cells #[.pointer (some ⟨q,0,none⟩)] 78 (0,0)))
  (hi:Wg w q gr m cap n a 0 false) (hrow:∀ k,k < n→Rw4 w gr k (lnK enc A (k:Nat))) (hn:(n:Int)=cnt enc A) (hnm:n≤m) (hm:m≤65537) (hcap:m≤cap) (hcap2:cap≤9223372036854775807) (hgq:gr≠q) (hgl:gr < w.heap.size) :
  Calls Tryz.prog 67 #[.func (.func 127) #[] #[.pointer (some ⟨bx,0,none⟩)],.pointer (some ⟨ba,0,none⟩)] w fun e w'=>(∃ v,e=.returned v)∧(∃ kf e,Wg w' q gr m cap n a kf e∧(kf=n∨(kf:Int)=a))∧Kps (fun j=>j=q) w w':=by
 have hql:=hi.cs.1
 have hbq:bx≠q:=ne_walk hbx hi.typ (by decide)
 refine (allGx 127 (.inl rfl) enc A t w hT ba bx n hba (fun j=>j=q) (fun k w'=>Wg w' q gr m cap n a k (decide (1≤k) && ((k:Int) == a))) (fun k=>!((k:Int) + 1 == a)) hn (fun j e=>by rw [e];exact hql) (fun w' hk=>hT.wk hk hi.typ) (fun k w1 w2 h1 h2=>(h2 q hql).trans h1) ?_ (by simpa using hi)).mono ?_
 ·intro k w' hk hr hj hkp
  have he:(decide (1≤k) && ((k:Int) == a))=false:=by
   rcases hr with rfl | hr
   ·rfl
   ·by_cases h1:1≤k
    ·have e1:((k - 1:Nat):Int) + 1=k:=by omega
     rw [e1] at hr
     simp only [Bool.not_eq_true'] at hr
     rw [hr,Bool.and_false]
    ·simp [h1]
  simp only [he] at hj
  refine (alls1_any ((hkp.same bx (Array.getElem?_eq_some_iff.1 hbx).1 hbq).trans hbx) hj _ ((hrow k hk).same (hkp.same gr hgl hgq)) hk hnm hm hcap hcap2 hgq).mono ?_
  rintro e w2 ⟨rfl,h1,h2⟩
  refine ⟨rfl,?_,h2⟩
  have e2:(decide (1≤k + 1) && (((k + 1:Nat):Int) == a))=((k:Int) + 1 == a):=by
   rw [decide_eq_true (by omega:1≤k + 1),Bool.true_and,Int.natCast_add];rfl
  rw [e2]
  exact h1
 ·rintro e w' ⟨hv,⟨kf,_,h2,h3⟩,h4⟩
  refine ⟨hv,⟨kf,_,h3,?_⟩,h4⟩
  rcases h2 with rfl | ⟨h5,h6⟩
  ·exact .inl rfl
  ·have e1:((kf - 1:Nat):Int) + 1=kf:=by omega
   rw [e1] at h6
   exact .inr (by simpa using h6)
theorem goneB (enc:Int) (A:List Int) (t:Nat) {w:World} (hT:Tz enc w t A) {ba bx q gr m cap n:Nat} (hba:w.heap[ba]?=some (.cells #[.pointer (some ⟨t,0,none⟩)] 26 (0,0))) (hbx:w.heap[bx]?=some (.cells #[.pointer (some ⟨q,0,none⟩)] 78 (0,0)))
  (hi:Wg w q gr m cap n (-1) 0 false) (hrow:∀ k,k < n→Rw4 w gr k (lnK enc A (k:Nat))) (hn:(n:Int)=cnt enc A) (hnm:n≤m) (hm:m≤65537) (hcap:m≤cap) (hcap2:cap≤9223372036854775807) (hgq:gr≠q) (hgl:gr < w.heap.size) :
  Calls Tryz.prog 67 #[.func (.func 128) #[] #[.pointer (some ⟨bx,0,none⟩)],.pointer (some ⟨ba,0,none⟩)] w fun e w'=>(∃ v,e=.returned v)∧Wg w' q gr m cap n (-1) n false∧Kps (fun j=>j=q) w w':=by
 have hql:=hi.cs.1
 have hbq:bx≠q:=ne_walk hbx hi.typ (by decide)
 refine (allGx 128 (.inr (.inl rfl)) enc A t w hT ba bx n hba (fun j=>j=q) (fun k w'=>Wg w' q gr m cap n (-1) k false) (fun _=>true) hn (fun j e=>by rw [e];exact hql) (fun w' hk=>hT.wk hk hi.typ) (fun k w1 w2 h1 h2=>(h2 q hql).trans h1) ?_ hi).mono ?_
 ·intro k w' hk _ hj hkp
  refine (alls2_any ((hkp.same bx (Array.getElem?_eq_some_iff.1 hbx).1 hbq).trans hbx) hj _ ((hrow k hk).same (hkp.same gr hgl hgq)) hk hnm hm hcap hcap2 hgq).mono ?_
  rintro e w2 ⟨rfl,h1,h2⟩
  rw [no_stop] at h1
  exact ⟨by rw [no_stop];rfl,h1,h2⟩
 ·rintro e w' ⟨hv,⟨kf,_,h2,h3⟩,h4⟩
  rcases h2 with rfl | ⟨_,h⟩
  ·exact ⟨hv,h3,h4⟩
  ·cases h
theorem goneC (enc:Int) (A:List Int) (t:Nat) {w:World} (hT:Tz enc w t A) {bi bx bz ba qi qo gr m cap n:Nat} (hbi:w.heap[bi]?=some (.cells #[.func (.func 67) #[] #[.pointer (some ⟨ba,0,none⟩)]] 72 (0,0))) (hba:w.heap[ba]?=some (.cells #[.pointer (some ⟨t,0,none⟩)] 26 (0,0))) (hbx:w.heap[bx]?=some (.cells #[.pointer (some ⟨qi,0,none⟩)] 78 (0,0))) (hbz:w.heap[bz]?=some (.cells #[.pointer (some ⟨qo,0,none⟩)] 78 (0,0)))
  (hi:Wg w qi gr m cap n (-1) 0 false) (ho:Wg w qo gr m cap n (-1) 0 false) (hrow:∀ k,k < n→Rw4 w gr k (lnK enc A (k:Nat))) (hn:(n:Int)=cnt enc A) (hnm:n≤m) (hm:m≤65537) (hcap:m≤cap) (hcap2:cap≤9223372036854775807) (hqq:qi≠qo) (hg1:gr≠qi) (hg2:gr≠qo) (hgl:gr < w.heap.size) :
  Calls Tryz.prog 67 #[.func (.func 129) #[] #[.pointer (some ⟨bi,0,none⟩),.pointer (some ⟨bx,0,none⟩),.pointer (some ⟨bz,0,none⟩)],.pointer (some ⟨ba,0,none⟩)] w fun e w'=>(∃ v,e=.returned v)∧(Wg w' qi gr m cap n (-1) n false∧Wg w' qo gr m cap n (-1) n false)∧Kps (fun j=>j=qi∨j=qo) w w':=by
 have h1:=hi.cs.1
 have h2:=ho.cs.1
 have ne:∀ (b:Nat) (vs:Array Value) (T:TypeId),w.heap[b]?=some (.cells vs T (0,0))→T≠80→¬ (b=qi∨b=qo):=fun b vs T hb ht e=>by
  rcases e with e | e
  ·exact ne_walk hb hi.typ ht e
  ·exact ne_walk hb ho.typ ht e
 have tz:∀ w',Kps (fun j=>j=qi∨j=qo) w w'→Tz enc w' t A:=fun w' hk=>by
  have ty:∀ j,(j=qi∨j=qo)→Typ 80 w j:=fun j e=>e.elim (fun e=>e ▸ hi.typ) (fun e=>e ▸ ho.typ)
  exact hT.kps hk (fun j e=>⟨fun h=>absurd (Typ.uniq h (ty j e)) (by decide),fun h=>absurd (Typ.uniq h (ty j e)) (by decide)⟩) (fun e=>absurd (Typ.uniq hT.typ (ty t e)) (by decide))
 refine (allG3 enc A t w hT ba bi bx bz n hba (fun j=>j=qi∨j=qo) (fun k w'=>Wg w' qi gr m cap n (-1) (if k=0 then 0 else n) false∧Wg w' qo gr m cap n (-1) k false) (fun _=>true) hn (fun j e=>e.elim (fun e=>e ▸ h1) (fun e=>e ▸ h2)) tz (fun k w1 w2 x1 x2=>⟨(x2 qi h1).trans x1.1,(x2 qo h2).trans x1.2⟩) ?_ ⟨hi,ho⟩).mono ?_
 ·intro k w' hk _ hj hkp
  have sm:∀ (b:Nat) (vs:Array Value) (T:TypeId),w.heap[b]?=some (.cells vs T (0,0))→T≠80→w'.heap[b]?=some (.cells vs T (0,0)):=fun b vs T hb ht=>(hkp.same b (Array.getElem?_eq_some_iff.1 hb).1 (ne b vs T hb ht)).trans hb
  refine (alls3_any enc A t (tz w' hkp) (sm _ _ _ hbi (by decide)) (sm _ _ _ hba (by decide)) (sm _ _ _ hbx (by decide)) (sm _ _ _ hbz (by decide)) hj.1 hj.2 (fun j hj=>(hrow j hj).same (hkp.same gr hgl (fun e=>e.elim hg1 hg2))) hn hk hnm hm hcap hcap2 hqq hg1 hg2 (Nat.lt_of_lt_of_le hgl hkp.size)).mono ?_
  rintro e w2 ⟨rfl,x1,x2⟩
  exact ⟨rfl,⟨by rw [if_neg (Nat.succ_ne_zero k)];exact x1.1,x1.2⟩,x2⟩
 ·rintro e w' ⟨hv,⟨kf,_,x2,x3⟩,x4⟩
  rcases x2 with rfl | ⟨_,h⟩
  ·refine ⟨hv,⟨?_,x3.2⟩,x4⟩
   have:=x3.1
   split at this
   ·next h=>rw [h];rw [h] at this;exact this
   ·exact this
  ·cases h
open Go.RowKit
theorem nf_gone (p:Value) (w:World):(binOp BinOp.eql 72 (.func (.func 67) #[] #[p]) .nilFunc).run Tryz.prog w=.ok (.bool false) w:=by kernel_rfl
theorem two_laid (w:World) (cs:Array Value):Below w.heap.size w ((w.alloc (.cells cs 80)).alloc (.cells #[.pointer (some ⟨w.heap.size,0,none⟩)] 78))∧((w.alloc (.cells cs 80)).alloc (.cells #[.pointer (some ⟨w.heap.size,0,none⟩)] 78)).heap[w.heap.size]?=some (.cells cs 80 (0,0))∧((w.alloc (.cells cs 80)).alloc (.cells #[.pointer (some ⟨w.heap.size,0,none⟩)] 78)).heap[w.heap.size + 1]?=some (.cells #[.pointer (some ⟨w.heap.size,0,none⟩)] 78 (0,0)):=by
 refine ⟨zxa (zxa (Below.refl _ _) _) _,(Below.heap_alloc _ _ _ (by simp)).trans (heap_alloc_new _ _),?_⟩
 have e:w.heap.size + 1=(w.alloc (.cells cs 80)).heap.size:=by simp
 rw [e]
 exact heap_alloc_new _ _
set_option maxHeartbeats 16000000 in
theorem alls_any (enc:Int) (w:World) (g t:Nat) (A:List Int) (m:Nat) (o:Opv) (v:Value) (h:BtW enc w g t A m) (hv:∃ ap np cp,v=.slice ap np cp):Yes 104 w g o v:=by
 intro w1 hb1
 obtain ⟨ap,np,cp,rfl⟩:=hv
 obtain ⟨who,k,a,b,put⟩:=o
 unfold Opv.val
 dsimp only
 obtain ⟨w0,hw0,kk0,hb0⟩:∃ w0,w0=w1.alloc (.cells #[.int .i64 who,.int .i64 k,.int .i64 a,.int .i64 b,.slice ap np cp] 38)∧w0.heap[w1.heap.size]?=some (.cells #[.int .i64 who,.int .i64 k,.int .i64 a,.int .i64 b,.slice ap np cp] 38 (0,0))∧Below w1.heap.size w1 w0:=⟨_,rfl,heap_alloc_new _ _,zxa (Below.refl _ _) _⟩
 have HB0:=zh hb0
 have HW0:=zh ((h.ext hb1).ext hb0)
 obtain ⟨hlt,c0,c1,c2,c3,c4⟩:=cells5 kk0
 obtain ⟨va,hg,hva⟩:=HW0.out.ex
 obtain ⟨aa,ca,hvv⟩:=hva.form
 subst hvv
 have HGG:=zh hg
 have hlen:=HW0.out.tz.len
 have HS:Hid (∀ w',Below w0.heap.size w0 w'→w'.cell? ⟨g,0,none⟩=some (.pointer (some ⟨t,0,none⟩))∧w'.cell? ⟨g,1,none⟩=some (.slice aa A.length ca)∧w'.cell? ⟨w1.heap.size,2,none⟩=some (.int .i64 a)):=fun w' hb=>⟨(hb.cell (p:=⟨g,0,none⟩) HW0.out.lt).trans (cells2 HGG.out).2.1,(hb.cell (p:=⟨g,1,none⟩) HW0.out.lt).trans (cells2 HGG.out).2.2.1,(hb.cell (p:=⟨w1.heap.size,2,none⟩) hlt).trans c2⟩
 obtain ⟨s0,s1,s2⟩:=HS.out w0 (Below.refl _ _)
 have RA:=zh (rAll_any enc (.slice aa A.length ca) A w0 hva.rdi hlen)
 obtain ⟨mm,hmm,hmB⟩:∃ mm:Nat,cnt enc A=mm∧(mm:Int)≤(spn enc A).b + 1:=⟨(cnt enc A).toNat,by have:=spn_nn enc A;unfold cnt;split <;> omega,by have:=spn_nn enc A;unfold cnt;split <;> omega⟩
 rw [hmm] at RA
 have HMM:=zh hmm.symm
 have HMB:=zh hmB
 have hsl:=spn_len enc A
 have hsn:=spn_nn enc A
 have HW:=zh hw0
 clear hg hva h hb0 hb1 kk0 hmm hmB hw0 c0 c1 c2 c3 c4
 go_enter Tryz.func104,Tryz.ntmps104
 go_upto_region 1 with fail
 rw [← HW.out]
 clear HW
 go_upto_region 2 with (go_at_call 40;refine RA.out.mono ?_;rintro e w8 ⟨ao8,n8,cap8,rfl,hn,hb⟩;have HB8:=zh hb;have HN8:=zh hn.out;clear hn hb s0 s1 s2;(try dsimp only))
 have hrd:=HN8.out.2.rd
 obtain ⟨ao',cap',hv',hcap1,hcap2,h6⟩:=hrd
 rw [lns_len] at hv' hcap1
 simp only [Value.slice.injEq,true_and] at hv'
 obtain ⟨rfl,rfl⟩:=hv'
 obtain ⟨gr,hgr,hgl,hrow⟩:=h6 (by intro e;have e1:=congrArg List.length e;rw [lns_len] at e1;have e2:=HN8.out.1;have e4:n8=0:=e1;omega)
 subst hgr
 have HROW:Hid (∀ k,k < mm→Rw4 w8 gr k (lnK enc A (k:Nat))):=fun k hk=>hrow k _ (lns_at enc A n8 k (by have:=HN8.out.1;have:=HMB.out;omega))
 have hmn:mm≤n8:=by have:=HN8.out.1;have:=HMB.out;omega
 have hn9:n8≤65537:=by have:=HN8.out.1;omega
 have HT8:=zh (HW0.out.tz.ext HB8.out)
 clear RA h6 hrow HN8 HMB hsl hsn hlen
 obtain ⟨s0,s1,s2⟩:=HS.out w8 HB8.out
 have AL1:=zh (All_any t w8)
 go_upto_region 3 with (go_at_call 38;refine AL1.out.mono ?_;rintro e w4 ⟨rfl,hw⟩;have HW4:=zh hw;clear hw;(try dsimp only))
 generalize hw5:World.alloc _ _=w5
 have H5:Hid (Below w8.heap.size w8 w5∧w5.heap[w4.heap.size]?=some (.cells #[.func (.func 67) #[] #[.pointer (some ⟨w8.heap.size,0,none⟩)]] 72 (0,0))∧w5.heap[w8.heap.size]?=some (.cells #[.pointer (some ⟨t,0,none⟩)] 26 (0,0))):=by
  unfold Hid
  rw [← hw5,HW4.out]
  exact ⟨zxa (zxa (Below.refl _ _) _) _,heap_alloc_new _ _,(Below.heap_alloc _ _ _ (by simp)).trans (heap_alloc_new _ _)⟩
 have H05:Hid (Below w0.heap.size w0 w5):=HB8.out.trans (H5.out.1.mono HB8.out.size)
 clear hw5 HW4 AL1 s0 s1 s2
 generalize hbi:w4.heap.size=bi at *
 generalize hba:w8.heap.size=ba at *
 have hg5:gr < w5.heap.size:=Nat.lt_of_lt_of_le (hba ▸ hgl) H5.out.1.size
 have FACT:Hid (∀ w',Below w5.heap.size w5 w'→Tz enc w' t A∧(∀ k,k < mm→Rw4 w' gr k (lnK enc A (k:Nat)))∧w'.heap[bi]?=some (.cells #[.func (.func 67) #[] #[.pointer (some ⟨ba,0,none⟩)]] 72 (0,0))∧w'.heap[ba]?=some (.cells #[.pointer (some ⟨t,0,none⟩)] 26 (0,0))∧gr < w'.heap.size):=fun w' hb =>
  ⟨(HT8.out.ext (hba ▸ H5.out.1)).ext hb,fun k hk=>((HROW.out k hk).same (H5.out.1.block gr (hba ▸ hgl))).same (hb.block gr hg5),(hb.block bi (Array.getElem?_eq_some_iff.1 H5.out.2.1).1).trans H5.out.2.1,(hb.block ba (Array.getElem?_eq_some_iff.1 H5.out.2.2).1).trans H5.out.2.2,Nat.lt_of_lt_of_le hg5 hb.size⟩
 obtain ⟨_,_,s2⟩:=HS.out w5 H05.out
 have ci:w5.cell? ⟨bi,0,none⟩=some (.func (.func 67) #[] #[.pointer (some ⟨ba,0,none⟩)]):=by simp [World.cell?,H5.out.2.1]
 have CI:Hid (∀ w',Below w5.heap.size w5 w'→w'.cell? ⟨bi,0,none⟩=some (.func (.func 67) #[] #[.pointer (some ⟨ba,0,none⟩)])):=fun w' hb=>by simp [World.cell?,(FACT.out w' hb).2.2.1]
 clear H5 HROW HT8 HB8 HS HGG HW0 hgl hba hbi
 have n1:=nf_gone
 go_upto_region 6 with fail
 generalize hw9:World.alloc (World.alloc _ _) _=w9
 have HW9:Hid (Below w5.heap.size w5 w9∧Wg w9 w5.heap.size gr n8 cap8 mm a 0 false∧w9.heap[w5.heap.size + 1]?=some (.cells #[.pointer (some ⟨w5.heap.size,0,none⟩)] 78 (0,0))):=by
  unfold Hid
  rw [← hw9]
  exact two_laid _ _
 clear hw9 s2 ci n1
 have AC:=zh (goneA enc A t (FACT.out w9 HW9.out.1).1 (FACT.out w9 HW9.out.1).2.2.2.1 HW9.out.2.2 HW9.out.2.1 (FACT.out w9 HW9.out.1).2.1 HMM.out hmn hn9 hcap1 hcap2 (by omega) (FACT.out w9 HW9.out.1).2.2.2.2)
 have ci:=CI.out w9 HW9.out.1
 go_upto_region 7 with (go_at_call 67;refine AC.out.mono ?_;rintro e w10 ⟨⟨ve,rfl⟩,⟨kf,ef,hk0,hkf⟩,hk2⟩;have HK1:=zh hk0;have HKF:=zh hkf;have HK2:=zh hk2;clear hk0 hk2 hkf;(try dsimp only))
 have B10:Hid (Below w5.heap.size w5 w10):=HW9.out.1.trans (HK2.out.below HW9.out.1.size (fun k e=>by rw [e];exact Nat.le_refl _))
 have X1:Hid (w10.heap[w5.heap.size + 1]?=some (.cells #[.pointer (some ⟨w5.heap.size,0,none⟩)] 78 (0,0))):=(HK2.out.same _ (Array.getElem?_eq_some_iff.1 HW9.out.2.2).1 (by omega)).trans HW9.out.2.2
 clear AC HW9 HK2 ci
 generalize hQ1:w5.heap.size=q1 at *
 go_upto_region 8 with fail
 generalize hw11:World.alloc (World.alloc _ _) _=w11
 have HW11:Hid (Below w10.heap.size w10 w11∧Wg w11 w10.heap.size gr n8 cap8 mm (-1) 0 false∧w11.heap[w10.heap.size + 1]?=some (.cells #[.pointer (some ⟨w10.heap.size,0,none⟩)] 78 (0,0))):=by
  unfold Hid
  rw [← hw11]
  exact two_laid _ _
 clear hw11
 have hq2:q1 + 1 < w10.heap.size:=(Array.getElem?_eq_some_iff.1 X1.out).1
 have B11:Hid (Below q1 w5 w11):=B10.out.trans (HW11.out.1.mono (by omega))
 have AC:=zh (goneB enc A t (FACT.out w11 B11.out).1 (FACT.out w11 B11.out).2.2.2.1 HW11.out.2.2 HW11.out.2.1 (FACT.out w11 B11.out).2.1 HMM.out hmn hn9 hcap1 hcap2 (by omega) (FACT.out w11 B11.out).2.2.2.2)
 have ci:=CI.out w11 B11.out
 go_upto_region 9 with (go_at_call 67;refine AC.out.mono ?_;rintro e w12 ⟨⟨ve2,rfl⟩,hk1,hk2⟩;have HK3:=zh hk1;have HK4:=zh hk2;clear hk1 hk2;(try dsimp only))
 have B12:Hid (Below q1 w5 w12):=B11.out.trans (HK4.out.below (by have:=B11.out.size;omega) (fun k e=>by rw [e];omega))
 have X2:Hid (w12.heap[w10.heap.size + 1]?=some (.cells #[.pointer (some ⟨w10.heap.size,0,none⟩)] 78 (0,0))):=(HK4.out.same _ (Array.getElem?_eq_some_iff.1 HW11.out.2.2).1 (by omega)).trans HW11.out.2.2
 have X1b:Hid (w12.heap[q1 + 1]?=some (.cells #[.pointer (some ⟨q1,0,none⟩)] 78 (0,0))):=(HK4.out.same _ (Nat.lt_of_lt_of_le hq2 HW11.out.1.size) (by omega)).trans ((HW11.out.1.block _ hq2).trans X1.out)
 have W1b:Hid (Wg w12 q1 gr n8 cap8 mm a kf ef):=(HK4.out.same q1 (Nat.lt_of_lt_of_le (by omega) HW11.out.1.size) (by omega)).trans (HK1.out.ext HW11.out.1)
 clear AC HW11 HK4 ci B11 B10 X1 HK1
 generalize hQ2:w10.heap.size=q2 at *
 have hq3:q2 + 1 < w12.heap.size:=(Array.getElem?_eq_some_iff.1 X2.out).1
 go_upto_region 10 with fail
 generalize hw13:World.alloc (World.alloc _ _) _=w13
 have HW13:Hid (Below w12.heap.size w12 w13∧Wg w13 w12.heap.size gr n8 cap8 mm (-1) 0 false∧w13.heap[w12.heap.size + 1]?=some (.cells #[.pointer (some ⟨w12.heap.size,0,none⟩)] 78 (0,0))):=by
  unfold Hid
  rw [← hw13]
  exact two_laid _ _
 clear hw13
 have hq4:w12.heap.size + 1 < w13.heap.size:=(Array.getElem?_eq_some_iff.1 HW13.out.2.2).1
 generalize hQ3:w12.heap.size=q3 at *
 go_upto_region 11 with fail
 generalize hw14:World.alloc (World.alloc _ _) _=w14
 have HW14:Hid (Below w13.heap.size w13 w14∧Wg w14 w13.heap.size gr n8 cap8 mm (-1) 0 false∧w14.heap[w13.heap.size + 1]?=some (.cells #[.pointer (some ⟨w13.heap.size,0,none⟩)] 78 (0,0))):=by
  unfold Hid
  rw [← hw14]
  exact two_laid _ _
 clear hw14
 have B13:Hid (Below q1 w5 w13):=B12.out.trans (HW13.out.1.mono (by omega))
 have B14:Hid (Below q1 w5 w14):=B13.out.trans (HW14.out.1.mono (by omega))
 have AC:=zh (goneC enc A t (FACT.out w14 B14.out).1 (FACT.out w14 B14.out).2.2.1 (FACT.out w14 B14.out).2.2.2.1 HW14.out.2.2 ((HW14.out.1.block _ hq4).trans HW13.out.2.2) HW14.out.2.1 (HW13.out.2.1.ext HW14.out.1) (FACT.out w14 B14.out).2.1 HMM.out hmn hn9 hcap1 hcap2 (by omega) (by omega) (by omega) (FACT.out w14 B14.out).2.2.2.2)
 have ci:=CI.out w14 B14.out
 go_upto_region 12 with (go_at_call 67;refine AC.out.mono ?_;rintro e w15 ⟨⟨ve3,rfl⟩,hk1,hk2⟩;have HK5:=zh hk1;have HK6:=zh hk2;clear hk1 hk2;(try dsimp only))
 have B15:Hid (Below q1 w5 w15):=B14.out.trans (HK6.out.below (by have:=B14.out.size;omega) (fun k e=>by rcases e with e | e <;> (rw [e];omega)))
 have LIFT:Hid (∀ b,b < q3→w15.heap[b]?=w12.heap[b]?):=fun b hb=>(HK6.out.same b (Nat.lt_of_lt_of_le (by omega) HW14.out.1.size) (by omega)).trans ((HW14.out.1.block b (by omega)).trans (HW13.out.1.block b hb))
 have CE:Hid (∀ w',Below w15.heap.size w15 w'→w'.cell? ⟨q1 + 1,0,none⟩=some (.pointer (some ⟨q1,0,none⟩))∧w'.cell? ⟨q2 + 1,0,none⟩=some (.pointer (some ⟨q2,0,none⟩))∧w'.cell? ⟨q3 + 1,0,none⟩=some (.pointer (some ⟨q3,0,none⟩))∧w'.cell? ⟨w13.heap.size + 1,0,none⟩=some (.pointer (some ⟨w13.heap.size,0,none⟩))):=fun w' hb=>by
  have e1:=(LIFT.out (q1 + 1) (by omega)).trans X1b.out
  have e2:=(LIFT.out (q2 + 1) hq3).trans X2.out
  have e3:=(HK6.out.same (q3 + 1) (Nat.lt_of_lt_of_le hq4 HW14.out.1.size) (by omega)).trans ((HW14.out.1.block _ hq4).trans HW13.out.2.2)
  have e4:=(HK6.out.same (w13.heap.size + 1) (Array.getElem?_eq_some_iff.1 HW14.out.2.2).1 (by omega)).trans HW14.out.2.2
  have cc:∀ {b:Nat} {v:Value} {T:TypeId},w15.heap[b]?=some (.cells #[v] T (0,0))→w'.cell? ⟨b,0,none⟩=some v:=fun {b v T} h=>by simp [World.cell?,(hb.block b (Array.getElem?_eq_some_iff.1 h).1).trans h]
  exact ⟨cc e1,cc e2,cc e3,cc e4⟩
 have WE:Hid (∀ w',Below w15.heap.size w15 w'→∀ q,(q=q1∨q=q2∨q=q3∨q=w13.heap.size)→Calls Tryz.prog 43 #[.pointer (some ⟨q,0,none⟩)] w' fun e w''=>e=.returned (.bool true)∧Below w'.heap.size w' w''):=fun w' hb q hq=>by
  have e1:Wg w15 q1 gr n8 cap8 mm a kf ef:=(LIFT.out q1 (by omega)).trans W1b.out
  have e2:Wg w15 q2 gr n8 cap8 mm (-1) mm false:=(LIFT.out q2 (by omega)).trans HK3.out
  rcases hq with rfl | rfl | rfl | rfl
  ·exact wellG_any (e1.ext hb) HKF.out
  ·exact wellG_any (e2.ext hb) (.inl rfl)
  ·exact wellG_any (HK5.out.2.ext hb) (.inl rfl)
  ·exact wellG_any (HK5.out.1.ext hb) (.inl rfl)
 have FIN:Hid (∀ w',Below w15.heap.size w15 w'→Below w1.heap.size w1 w'):=fun w' hb=>zxt (zxt (zxt HB0.out H05.out) (hQ1.symm ▸ B15.out)) hb
 clear AC HW13 HW14 HK6 HK5 ci B12 B13 B14 B15 X1b X2 W1b HK3 HKF LIFT CI FACT H05 HB0
 generalize w13.heap.size=q4 at *
 obtain ⟨x1,x2,x3,x4⟩:=CE.out w15 (Below.refl _ _)
 go_wp2_with fail
 go_at_call 43
 refine (WE.out _ (Below.refl _ _) q1 (.inl rfl)).mono ?_
 rintro e w16 ⟨rfl,hb⟩
 have HB16:=zh hb
 clear hb x1 x2 x3 x4
 dsimp only
 obtain ⟨x1,x2,x3,x4⟩:=CE.out w16 HB16.out
 go_wp2_with fail
 go_at_call 43
 refine (WE.out _ HB16.out q2 (.inr (.inl rfl))).mono ?_
 rintro e w17 ⟨rfl,hb⟩
 have HB17:=zh (zxt HB16.out hb)
 clear hb x1 x2 x3 x4
 dsimp only
 obtain ⟨x1,x2,x3,x4⟩:=CE.out w17 HB17.out
 go_wp2_with fail
 go_at_call 43
 refine (WE.out _ HB17.out q3 (.inr (.inr (.inl rfl)))).mono ?_
 rintro e w18 ⟨rfl,hb⟩
 have HB18:=zh (zxt HB17.out hb)
 clear hb x1 x2 x3 x4
 dsimp only
 obtain ⟨x1,x2,x3,x4⟩:=CE.out w18 HB18.out
 go_wp2_with fail
 go_at_call 43
 refine (WE.out _ HB18.out q4 (.inr (.inr (.inr rfl)))).mono ?_
 rintro e w19 ⟨rfl,hb⟩
 have HB19:=zh (zxt HB18.out hb)
 clear hb x1 x2 x3 x4
 dsimp only
 go_wp2_with fail
 go_ret
 exact ⟨rfl,FIN.out _ HB19.out⟩
end Go.Proofs.YtjomfbegghgbdaaGreat.P
