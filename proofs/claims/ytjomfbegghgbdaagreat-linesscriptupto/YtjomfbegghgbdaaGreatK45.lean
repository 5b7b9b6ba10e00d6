import Derived.Test.YtjomfbegghgbdaaGreatK44
set_option maxRecDepth 100000
namespace Go.Proofs.YtjomfbegghgbdaaGreat.P
open Go.RowKit
def Wg (w:World) (q gr m cap n:Nat) (a:Int) (k:Nat) (e:Bool):Prop:=w.heap[q]?=some (.cells #[.slice (some ⟨gr,0,none⟩) m cap,.int .i64 (n:Nat),.int .i64 a,.int .i64 (k:Nat),.bool e,.bool false] 80 (0,0))
theorem Wg.cs {w:World} {q gr m cap n:Nat} {a:Int} {k:Nat} {e:Bool} (h:Wg w q gr m cap n a k e):q < w.heap.size∧w.cell? ⟨q,0,none⟩=some (.slice (some ⟨gr,0,none⟩) m cap)∧w.cell? ⟨q,1,none⟩=some (.int .i64 (n:Nat))∧w.cell? ⟨q,2,none⟩=some (.int .i64 a)∧w.cell? ⟨q,3,none⟩=some (.int .i64 (k:Nat))∧w.cell? ⟨q,4,none⟩=some (.bool e)∧w.cell? ⟨q,5,none⟩=some (.bool false)∧∀ i,w.frozen? ⟨q,i,none⟩=false:=by
 unfold Wg at h
 refine ⟨(Array.getElem?_eq_some_iff.1 h).1,?_,?_,?_,?_,?_,?_,fun i=>by simp [World.frozen?,h]⟩ <;> simp [World.cell?,h]
theorem Wg.ext {w w':World} {q gr m cap n:Nat} {a:Int} {k:Nat} {e:Bool} (h:Wg w q gr m cap n a k e) (hb:Below w.heap.size w w'):Wg w' q gr m cap n a k e:=(hb.block q h.cs.1).trans h
theorem Wg.typ {w:World} {q gr m cap n:Nat} {a:Int} {k:Nat} {e:Bool} (h:Wg w q gr m cap n a k e):Typ 80 w q:=⟨_,h⟩
set_option maxHeartbeats 8000000 in
theorem metG_any {w:World} {q gr m cap n k:Nat} {a:Int} (h:Wg w q gr m cap n a k false) (L:Ln) (hr:Rw4 w gr k L) (hkn:k < n) (hnm:n≤m) (_hm:m≤65537) (hcap:m≤cap) (hcap2:cap≤9223372036854775807) (_hgq:gr≠q) :
  Calls Tryz.prog 42 #[.pointer (some ⟨q,0,none⟩),.int .i64 (k:Nat),lnV L] w fun e w'=>e=.returned (.bool !((k:Int) + 1 == a))∧Wg w' q gr m cap n a (k + 1) ((k:Int) + 1 == a)∧Kps (fun j=>j=q) w w':=by
 obtain ⟨bb,hbb⟩:∃ bb,((k:Int) + 1 == a)=bb:=⟨_,rfl⟩
 rw [hbb]
 unfold lnV
 obtain ⟨w0,hw0,hbx,hb0⟩:∃ w0,w0=w.alloc (.cells #[.int .i64 L.f,.int .i64 L.t,.int .i64 L.n,.int .i64 L.b] 50)∧w0.heap[w.heap.size]?=some (.cells #[.int .i64 L.f,.int .i64 L.t,.int .i64 L.n,.int .i64 L.b] 50 (0,0))∧Below w.heap.size w w0:=⟨_,rfl,heap_alloc_new _ _,zxa (Below.refl _ _) _⟩
 have HW0:=zh hw0
 have HB0:=zh hb0
 have hgl:=hr.lt
 have HS:Hid (∀ w',Below w0.heap.size w0 w'→(w'.cell? ⟨q,0,none⟩=some (.slice (some ⟨gr,0,none⟩) m cap)∧w'.cell? ⟨q,1,none⟩=some (.int .i64 (n:Nat))∧w'.cell? ⟨q,3,none⟩=some (.int .i64 (k:Nat))∧w'.cell? ⟨q,4,none⟩=some (.bool false))∧(w'.cell? ⟨gr,k * 4,none⟩=some (.int .i64 L.f)∧w'.cell? ⟨gr,k * 4 + 1,none⟩=some (.int .i64 L.t)∧w'.cell? ⟨gr,k * 4 + 2,none⟩=some (.int .i64 L.n)∧w'.cell? ⟨gr,k * 4 + 3,none⟩=some (.int .i64 L.b))∧(w'.cell? ⟨w.heap.size,0,none⟩=some (.int .i64 L.f)∧w'.cell? ⟨w.heap.size,1,none⟩=some (.int .i64 L.t)∧w'.cell? ⟨w.heap.size,2,none⟩=some (.int .i64 L.n)∧w'.cell? ⟨w.heap.size,3,none⟩=some (.int .i64 L.b))):=fun w' hb=>by
  have hww:Below w.heap.size w w':=zxt hb0 hb
  obtain ⟨_,c0,c1,_,c3,c4,_,_⟩:=(h.ext hww).cs
  obtain ⟨_,x0,x1,x2,x3,_⟩:=cells4 ((hb.block _ (Array.getElem?_eq_some_iff.1 hbx).1).trans hbx)
  exact ⟨⟨c0,c1,c3,c4⟩,hr.same (hww.block gr hgl),x0,x1,x2,x3⟩
 have HK:=zh h
 have LA:=zh (line_any L)
 have hk1:¬ ((n:Int)≤(k:Int)):=by omega
 have hk1':¬ (n≤k):=by omega
 have hkm:k < m:=by omega
 have hkm':(k:Int) < (m:Int):=by omega
 have ks:=HS.out w0 (Below.refl _ _)
 have hwk:IntKind.i64.wrap ((k:Int) + 1)=(k:Int) + 1:=by rw [IntKind.wrap_i64];omega
 clear hw0 hbx hb0 h hr
 go_enter Tryz.func42,Tryz.ntmps42
 go_upto_region 1 with fail
 rw [← HW0.out]
 clear HW0
 refine wp_region_held_drew (S:=fun w''=>(w''.cell? ⟨q,0,none⟩=some (.slice (some ⟨gr,0,none⟩) m cap)∧w''.cell? ⟨q,1,none⟩=some (.int .i64 (n:Nat))∧w''.cell? ⟨q,3,none⟩=some (.int .i64 (k:Nat))∧w''.cell? ⟨q,4,none⟩=some (.bool false))∧(w''.cell? ⟨gr,k * 4,none⟩=some (.int .i64 L.f)∧w''.cell? ⟨gr,k * 4 + 1,none⟩=some (.int .i64 L.t)∧w''.cell? ⟨gr,k * 4 + 2,none⟩=some (.int .i64 L.n)∧w''.cell? ⟨gr,k * 4 + 3,none⟩=some (.int .i64 L.b))∧(w''.cell? ⟨w.heap.size,0,none⟩=some (.int .i64 L.f)∧w''.cell? ⟨w.heap.size,1,none⟩=some (.int .i64 L.t)∧w''.cell? ⟨w.heap.size,2,none⟩=some (.int .i64 L.n)∧w''.cell? ⟨w.heap.size,3,none⟩=some (.int .i64 L.b))) (by kernel_rfl) (ks) (fun _=>?_)
 refine tkH 0 rfl ?_
 refine tkH 1 rfl ?_
 refine tkH 2 rfl ?_
 refine tkH 3 rfl ?_
 refine tkH 4 rfl ?_
 refine tkH 5 rfl ?_
 refine tkH 6 rfl ?_
 refine tkH 7 rfl ?_
 refine tkH 8 rfl ?_
 refine tkH 9 rfl ?_
 refine tkH 10 rfl ?_
 refine tkH 11 rfl ?_
 refine tkH 12 rfl ?_
 refine tkH 13 rfl ?_
 refine tkH 14 rfl ?_
 refine tkH 15 rfl ?_
 refine tkH 16 rfl ?_
 refine tkH 17 rfl ?_
 refine tkH 18 rfl ?_
 refine tkH 19 rfl ?_
 refine tkH 20 rfl ?_
 refine tkH 21 rfl ?_
 refine tkH 22 rfl ?_
 refine tkH 23 rfl ?_
 refine tkH 24 rfl ?_
 refine tkH 25 rfl ?_
 refine tkH 26 rfl ?_
 refine tkH 27 rfl ?_
 refine tkH 28 rfl ?_
 refine tkH 29 rfl ?_
 refine tkH 30 rfl ?_
 refine tkH 31 rfl ?_
 refine tkH 32 rfl ?_
 refine tkH 33 rfl ?_
 refine tkH 34 rfl ?_
 refine rdH 35 rfl fun K hK=>?_
 go_simp
 refine (LA.out _).mono ?_;rintro e y1 ⟨rfl,hb⟩;have Hy1:=zh (zxt (Below.drew (Below.refl w0.heap.size w0)) hb);clear hb ks;have ks:=HS.out y1 Hy1.out;try dsimp only
 refine hK.out _ _ ?_ (fun _=>?_)
 ·(try simp only [World.cell?_drew]);exact ks
 clear hK K
 try simp only [Act.put,tS]
 refine tkH 36 rfl ?_
 refine tkH 37 rfl ?_
 refine dnH ?_
 go_upto_region 5 with fail
 have HK2:=zh ((HK.out.ext HB0.out).ext Hy1.out)
 obtain ⟨_,c0,c1,c2,c3,c4,c5,cf⟩:=HK2.out.cs
 clear ks HS
 go_upto_region 6 with fail
 generalize hw5:World.setCell _ _ _=w5
 have HW5:Hid (w5.heap[q]?=some (.cells #[.slice (some ⟨gr,0,none⟩) m cap,.int .i64 (n:Nat),.int .i64 a,.int .i64 ((k:Int) + 1),.bool false,.bool false] 80 (0,0))∧y1.grownBy w5 (some q)):=by
  unfold Hid
  rw [← hw5]
  exact set1 HK2.out 3 (.int .i64 ((k:Int) + 1))
 clear hw5 c0 c1 c2 c3 c4 c5 cf
 have d2:w5.cell? ⟨q,2,none⟩=some (.int .i64 a):=by simp [World.cell?,HW5.out.1]
 have d3:w5.cell? ⟨q,3,none⟩=some (.int .i64 ((k:Int) + 1)):=by simp [World.cell?,HW5.out.1]
 have d4:w5.cell? ⟨q,4,none⟩=some (.bool false):=by simp [World.cell?,HW5.out.1]
 have d5:∀ i,w5.frozen? ⟨q,i,none⟩=false:=fun i=>by simp [World.frozen?,HW5.out.1]
 have ks:w5.cell? ⟨q,2,none⟩=some (.int .i64 a)∧w5.cell? ⟨q,3,none⟩=some (.int .i64 ((k:Int) + 1)):=⟨d2,d3⟩
 refine wp_region_held_drew (S:=fun w''=>w''.cell? ⟨q,2,none⟩=some (.int .i64 a)∧w''.cell? ⟨q,3,none⟩=some (.int .i64 ((k:Int) + 1))) (by kernel_rfl) (ks) (fun _=>?_)
 refine tkH 0 rfl ?_
 refine tkH 1 rfl ?_
 refine tkH 2 rfl ?_
 refine tkH 3 rfl ?_
 refine tkH 4 rfl ?_
 refine tkH 5 rfl ?_
 refine tkH 6 rfl ?_
 refine tkH 7 rfl ?_
 refine tkH 8 rfl ?_
 refine tkH 9 rfl ?_
 refine tkH 10 rfl ?_
 refine tkH 11 rfl ?_
 refine rdH 12 rfl fun K hK=>?_
 go_simp
 generalize hwS:World.setCell _ _ _=w6;obtain ⟨p1,p2⟩:=set1 HW5.out.1 4 (.bool bb)
 rw [hwS] at p1 p2
 have HP1:=zh p1
 have HP2:=zh p2
 have e4:w6.cell? ⟨q,4,none⟩=some (.bool bb):=by simp [World.cell?,HP1.out]
 clear hwS p1 p2 ks;have ks:w6.cell? ⟨q,2,none⟩=some (.int .i64 a)∧w6.cell? ⟨q,3,none⟩=some (.int .i64 ((k:Int) + 1)):=⟨by simp [World.cell?,HP1.out],by simp [World.cell?,HP1.out]⟩
 refine hK.out _ _ ?_ (fun _=>?_)
 ·(try simp only [World.cell?_drew]);exact ks
 clear hK K
 try simp only [Act.put,tS]
 refine dnH ?_
 go_wp2_with fail
 go_ret
 have HKK:Hid (Kps (fun j=>j=q) w w6):=((Kps.of_below (fun j=>j=q) (zxt HB0.out Hy1.out)).trans (Kps.grown (o:=fun j=>j=q) HW5.out.2 (fun j e _=>(Option.some.inj e).symm)) (fun _ _ e=>e)).trans (Kps.grown (o:=fun j=>j=q) HP2.out (fun j e _=>(Option.some.inj e).symm)) (fun _ _ e=>e)
 refine ⟨rfl,?_,?_⟩
 ·unfold Wg
  rw [Int.natCast_add]
  first | exact HP1.out | exact (World.heap_drew ▸ HP1.out)
 ·first | exact HKK.out | exact HKK.out.trans (Kps.of_below (fun _=>False) (Below.drew (Below.refl _ _))) (fun _ _ e=>e.elim)
theorem wellG_any {w:World} {q gr m cap n k:Nat} {a:Int} {e:Bool} (h:Wg w q gr m cap n a k e) (hk:k=n∨(k:Int)=a):Calls Tryz.prog 43 #[.pointer (some ⟨q,0,none⟩)] w fun e w'=>e=.returned (.bool true)∧Below w.heap.size w w':=by
 obtain ⟨_,c0,c1,c2,c3,c4,c5,cf⟩:=h.cs
 clear h
 by_cases hkn:k=n
 ·subst hkn
  clear hk
  go_enter Tryz.func43,Tryz.ntmps43
  go_upto_region 1 with fail
  go_quiet (fail)
  go_wp2_with fail
  go_ret
  exact ⟨rfl,⟨rfl,rfl,rfl,Nat.le_refl _,fun _ _=>rfl⟩⟩
 ·obtain rfl:a=(k:Int):=by rcases hk with h | h;exact absurd h hkn;exact h.symm
  have hb:((k:Int) == (n:Int))=false:=by simp;omega
  have hb':(k == n)=false:=by simp [hkn]
  clear hk
  go_enter Tryz.func43,Tryz.ntmps43
  go_upto_region 1 with fail
  go_quiet (fail)
  go_wp2_with fail
  go_ret
  exact ⟨rfl,⟨rfl,rfl,rfl,Nat.le_refl _,fun _ _=>rfl⟩⟩
theorem alls1_any {w:World} {bx q gr m cap n k:Nat} {a:Int} (hbx:w.heap[bx]?=some (.cells #[.pointer (some ⟨q,0,none⟩)] 78 (0,0))) (h:Wg w q gr m cap n a k false) (L:Ln) (hr:Rw4 w gr k L) (hkn:k < n) (hnm:n≤m) (hm:m≤65537) (hcap:m≤cap) (hcap2:cap≤9223372036854775807) (hgq:gr≠q) :
  Calls Tryz.prog 127 #[.int .i64 (k:Nat),lnV L,.pointer (some ⟨bx,0,none⟩)] w fun e w'=>e=.returned (.bool !((k:Int) + 1 == a))∧Wg w' q gr m cap n a (k + 1) ((k:Int) + 1 == a)∧Kps (fun j=>j=q) w w':=by
 obtain ⟨w0,hw0,hlx,hb0⟩:∃ w0,w0=w.alloc (.cells #[.int .i64 L.f,.int .i64 L.t,.int .i64 L.n,.int .i64 L.b] 50)∧w0.heap[w.heap.size]?=some (.cells #[.int .i64 L.f,.int .i64 L.t,.int .i64 L.n,.int .i64 L.b] 50 (0,0))∧Below w.heap.size w w0:=⟨_,rfl,heap_alloc_new _ _,zxa (Below.refl _ _) _⟩
 have ME:=zh (metG_any (h.ext hb0) L (hr.same (hb0.block gr hr.lt)) hkn hnm hm hcap hcap2 hgq)
 have cb:w0.cell? ⟨bx,0,none⟩=some (.pointer (some ⟨q,0,none⟩)):=by simp [World.cell?,(hb0.block bx (Array.getElem?_eq_some_iff.1 hbx).1).trans hbx]
 obtain ⟨_,x0,x1,x2,x3,_⟩:=cells4 hlx
 have HW0:=zh hw0
 have HB0:=zh hb0
 obtain ⟨bb,hbb⟩:∃ bb,((k:Int) + 1 == a)=bb:=⟨_,rfl⟩
 rw [hbb] at ME ⊢
 clear hw0 hb0 h hr hbx hlx hbb
 unfold lnV at ME ⊢
 go_enter Tryz.func127,Tryz.ntmps127
 go_upto_region 1 with fail
 rw [← HW0.out]
 clear HW0
 go_wp2_with (go_at_call 42;refine ME.out.mono ?_;rintro e w9 ⟨rfl,h1,h2⟩;have H1:=zh h1;have H2:=zh ((Kps.of_below (fun j=>j=q) HB0.out).trans h2 (fun _ _ e=>e));clear h1 h2;(try dsimp only))
 go_ret
 exact ⟨rfl,H1.out,H2.out⟩
theorem alls2_any {w:World} {bx q gr m cap n k:Nat} {a:Int} (hbx:w.heap[bx]?=some (.cells #[.pointer (some ⟨q,0,none⟩)] 78 (0,0))) (h:Wg w q gr m cap n a k false) (L:Ln) (hr:Rw4 w gr k L) (hkn:k < n) (hnm:n≤m) (hm:m≤65537) (hcap:m≤cap) (hcap2:cap≤9223372036854775807) (hgq:gr≠q) :
  Calls Tryz.prog 128 #[.int .i64 (k:Nat),lnV L,.pointer (some ⟨bx,0,none⟩)] w fun e w'=>e=.returned (.bool !((k:Int) + 1 == a))∧Wg w' q gr m cap n a (k + 1) ((k:Int) + 1 == a)∧Kps (fun j=>j=q) w w':=by
 obtain ⟨w0,hw0,hlx,hb0⟩:∃ w0,w0=w.alloc (.cells #[.int .i64 L.f,.int .i64 L.t,.int .i64 L.n,.int .i64 L.b] 50)∧w0.heap[w.heap.size]?=some (.cells #[.int .i64 L.f,.int .i64 L.t,.int .i64 L.n,.int .i64 L.b] 50 (0,0))∧Below w.heap.size w w0:=⟨_,rfl,heap_alloc_new _ _,zxa (Below.refl _ _) _⟩
 have ME:=zh (metG_any (h.ext hb0) L (hr.same (hb0.block gr hr.lt)) hkn hnm hm hcap hcap2 hgq)
 have cb:w0.cell? ⟨bx,0,none⟩=some (.pointer (some ⟨q,0,none⟩)):=by simp [World.cell?,(hb0.block bx (Array.getElem?_eq_some_iff.1 hbx).1).trans hbx]
 obtain ⟨_,x0,x1,x2,x3,_⟩:=cells4 hlx
 have HW0:=zh hw0
 have HB0:=zh hb0
 obtain ⟨bb,hbb⟩:∃ bb,((k:Int) + 1 == a)=bb:=⟨_,rfl⟩
 rw [hbb] at ME ⊢
 clear hw0 hb0 h hr hbx hlx hbb
 unfold lnV at ME ⊢
 go_enter Tryz.func128,Tryz.ntmps128
 go_upto_region 1 with fail
 rw [← HW0.out]
 clear HW0
 go_wp2_with (go_at_call 42;refine ME.out.mono ?_;rintro e w9 ⟨rfl,h1,h2⟩;have H1:=zh h1;have H2:=zh ((Kps.of_below (fun j=>j=q) HB0.out).trans h2 (fun _ _ e=>e));clear h1 h2;(try dsimp only))
 go_ret
 exact ⟨rfl,H1.out,H2.out⟩
theorem alls3x1_any {w:World} {bx q gr m cap n k:Nat} {a:Int} (hbx:w.heap[bx]?=some (.cells #[.pointer (some ⟨q,0,none⟩)] 78 (0,0))) (h:Wg w q gr m cap n a k false) (L:Ln) (hr:Rw4 w gr k L) (hkn:k < n) (hnm:n≤m) (hm:m≤65537) (hcap:m≤cap) (hcap2:cap≤9223372036854775807) (hgq:gr≠q) :
  Calls Tryz.prog 130 #[.int .i64 (k:Nat),lnV L,.pointer (some ⟨bx,0,none⟩)] w fun e w'=>e=.returned (.bool !((k:Int) + 1 == a))∧Wg w' q gr m cap n a (k + 1) ((k:Int) + 1 == a)∧Kps (fun j=>j=q) w w':=by
 obtain ⟨w0,hw0,hlx,hb0⟩:∃ w0,w0=w.alloc (.cells #[.int .i64 L.f,.int .i64 L.t,.int .i64 L.n,.int .i64 L.b] 50)∧w0.heap[w.heap.size]?=some (.cells #[.int .i64 L.f,.int .i64 L.t,.int .i64 L.n,.int .i64 L.b] 50 (0,0))∧Below w.heap.size w w0:=⟨_,rfl,heap_alloc_new _ _,zxa (Below.refl _ _) _⟩
 have ME:=zh (metG_any (h.ext hb0) L (hr.same (hb0.block gr hr.lt)) hkn hnm hm hcap hcap2 hgq)
 have cb:w0.cell? ⟨bx,0,none⟩=some (.pointer (some ⟨q,0,none⟩)):=by simp [World.cell?,(hb0.block bx (Array.getElem?_eq_some_iff.1 hbx).1).trans hbx]
 obtain ⟨_,x0,x1,x2,x3,_⟩:=cells4 hlx
 have HW0:=zh hw0
 have HB0:=zh hb0
 obtain ⟨bb,hbb⟩:∃ bb,((k:Int) + 1 == a)=bb:=⟨_,rfl⟩
 rw [hbb] at ME ⊢
 clear hw0 hb0 h hr hbx hlx hbb
 unfold lnV at ME ⊢
 go_enter Tryz.func130,Tryz.ntmps130
 go_upto_region 1 with fail
 rw [← HW0.out]
 clear HW0
 go_wp2_with (go_at_call 42;refine ME.out.mono ?_;rintro e w9 ⟨rfl,h1,h2⟩;have H1:=zh h1;have H2:=zh ((Kps.of_below (fun j=>j=q) HB0.out).trans h2 (fun _ _ e=>e));clear h1 h2;(try dsimp only))
 go_ret
 exact ⟨rfl,H1.out,H2.out⟩
open Go.RowKit
set_option maxHeartbeats 40000000 in
theorem allGx (fn:Nat) (hf:fn=127∨fn=128∨fn=130) (enc:Int) (A:List Int) (t:Nat) (w:World) (hT:Tz enc w t A) (ba bx n:Nat) (hA:w.heap[ba]?=some (.cells #[.pointer (some ⟨t,0,none⟩)] 26 (0,0))) (own:Nat→Prop) (J:Nat→World→Prop) (ret:Nat→Bool) (hn:(n:Int)=cnt enc A) (hown:∀ j,own j→j < w.heap.size) (hTz:∀ w',Kps own w w'→Tz enc w' t A)
  (hJ:∀ k w1 w2,J k w1→(∀ j,j < w.heap.size→w2.heap[j]?=w1.heap[j]?)→J k w2)
  (hcl:∀ (k:Nat) w',k < n→(k=0∨ret (k - 1)=true)→J k w'→Kps own w w'→Calls Tryz.prog fn #[.int .i64 (k:Nat),lnV (lnK enc A (k:Nat)),.pointer (some ⟨bx,0,none⟩)] w' fun e w''=>e=.returned (.bool (ret k))∧J (k + 1) w''∧Kps own w' w'') (h0:J 0 w) :
  Calls Tryz.prog 67 #[.func (.func fn) #[] #[.pointer (some ⟨bx,0,none⟩)],.pointer (some ⟨ba,0,none⟩)] w fun e w'=>(∃ v,e=.returned v)∧(∃ kf:Nat,kf≤n∧(kf=n∨(1≤kf∧ret (kf - 1)=false))∧J kf w')∧Kps own w w':=by
 rcases hf with rfl | rfl | rfl
 all_goals
  have hB0:=spn_nn enc A
  have hlA:=hT.len
  have hBl:=spn_len enc A
  have HTZ:=zh hTz
  have HJJ:=zh hJ
  have HCL:=zh hcl
  have HOW:=zh hown
  have HN:=zh hn
  have cb:w.cell? ⟨ba,0,none⟩=some (.pointer (some ⟨t,0,none⟩)):=by rw [cell_of_row w _ _ _ _ _ hA];rfl
  obtain ⟨W1,hW1,hr1,hb1⟩:∃ W1,w.alloc (.cells #[.pointer (some ⟨t,0,none⟩),.int .i64 0,.slice none 0 0] 115)=W1∧W1.heap[w.heap.size]?=some (.cells #[.pointer (some ⟨t,0,none⟩),.int .i64 ((0:Nat):Int),.slice none 0 0] 115 (0,0))∧Below w.heap.size w W1:=⟨_,rfl,heap_alloc_new _ _,zxa (Below.refl _ _) _⟩
  have HR1:Hid (Rdr enc A W1 w.heap.size t 0 (fun g=>¬ own g)):=⟨⟨_,[],hr1,⟨rfl,.inl ⟨rfl,rfl⟩⟩,by simp,fun g hg=>by cases hg⟩,hT.ext hb1⟩
  have HJ1:Hid (J 0 W1∧Kps own w W1):=⟨hJ 0 w W1 h0 (fun j hj=>hb1.block j hj),Kps.of_below _ hb1⟩
  have HW1:=zh hW1
  clear hT hA hW1 hr1 hb1 hTz hJ hcl hown hn h0
  go_enter Tryz.func67,Tryz.ntmps67
  go_upto_region 1 with fail
  rw [HW1.out]
  clear HW1
  go_wp2_with fail
  go_loopw [4,5] (fun a b wr=>∃ (k f s':Nat),a=.int .i64 (k:Nat)∧b=.int .i64 (f:Nat)∧(k:Int)≤(spn enc A).b∧k≤n∧Hid (skA enc A (k:Nat)=(f:Nat)∧s'≤f)∧Hid (k=0∨ret (k - 1)=true)∧Hid (Rdr enc A wr w.heap.size t s' (fun g=>¬ own g))∧Hid (J k wr∧Kps own w wr)) (fun a _ _=>((spn enc A).b + 1).toNat - (intOf a).toNat)
  case atStart=>exact ⟨0,0,0,rfl,rfl,hB0,Nat.zero_le _,⟨skA_zero enc A,Nat.le_refl _⟩,.inl rfl,HR1.out,HJ1.out⟩
  case round =>
   clear HR1 HJ1 W1 cb
   obtain ⟨k,f,s',rfl,rfl,hkB,hkn,HF,HRT,HR,HJ⟩:=hrel
   have hfl:f≤65536:=by have:=skA_in enc A k (by omega) hkB;have:=HF.out.1;omega
   have hrw:w.heap.size < wr.heap.size:=HR.out.typ.lt
   have RL:=zh (rline_any enc A wr w.heap.size t s' f k (H:=fun g=>¬ own g) (fun j hj e=>by have:=HOW.out j e;omega) HR.out HF.out.2 (by omega) hkB HF.out.1)
   obtain ⟨L,hL⟩:∃ L,lnK enc A (k:Nat)=L:=⟨_,rfl⟩
   rw [hL] at RL
   have HL:=zh hL
   have HM:Hid ((k:Int) < (spn enc A).b→1≤L.b∧L.n=skA enc A ((k:Int) + 1)∧tlG k L=false∧(k:Int) < cnt enc A):=fun h=>by have:=ln_mid enc A k h;rw [HL.out] at this;exact ⟨this.1,this.2.2.1,this.2.2.2.1,this.2.2.2.2⟩
   have HLT:Hid ((k:Int)=(spn enc A).b→L.b=0∧(tlG k L=true→cnt enc A=k)∧(tlG k L=false→cnt enc A=(k:Int) + 1)):=fun h=>by
    have:=ln_last enc A k h
    rw [HL.out] at this
    refine ⟨this.1,fun e=>?_,fun e=>?_⟩
    ·rcases this.2 with h | h
     ·exact h.2
     ·rw [e] at h;cases h.1
    ·rcases this.2 with h | h
     ·rw [e] at h;cases h.1
     ·exact h.2
   clear hL
   go_upto_region 4 with (go_at_call 68;refine RL.out.mono ?_;rintro e w1 ⟨rfl,hr1,hk1⟩;obtain ⟨s2,hs2,hR1⟩:=hr1.out;have HR1:=zh hR1;have HS2:=zh hs2;have HK1:=zh hk1;clear hr1 hR1 hs2 hk1;(try dsimp only))
   generalize hw2:World.alloc _ _=w2
   have HB2:Hid (Below w1.heap.size w1 w2∧w2.heap[w1.heap.size]?=some (.cells #[.int .i64 L.f,.int .i64 L.t,.int .i64 L.n,.int .i64 L.b] 50 (0,0))):=by unfold Hid;rw [← hw2];exact ⟨zxa (Below.refl _ _) _,heap_alloc_new _ _⟩
   have hz1:=HK1.out.size
   have IT:=zh (isTail_gen k L w2)
   unfold lnV at IT
   obtain ⟨_,x0,x1,x2,x3,_⟩:=cells4 HB2.out.2
   have HKW:Hid (∀ w',Below w1.heap.size w1 w'→J k w'∧Kps own w w'∧Rdr enc A w' w.heap.size t s2 (fun g=>¬ own g)):=fun w' hb=>⟨HJJ.out k wr w' HJ.out.1 (fun j hj=>(hb.block j (by omega)).trans (HK1.out.same j (by omega) (by omega))),(HJ.out.2.trans HK1.out (fun i hi e=>by omega)).trans (Kps.of_below (fun _=>False) hb) (fun _ _ e=>e.elim),HR1.out.ext hb⟩
   clear hw2 RL
   cases htl:tlG k L with
   | true =>
     have hkk:(k:Int)=(spn enc A).b:=by
      rcases Int.lt_or_eq_of_le hkB with h | h
      ·have:=(HM.out h).2.2.1;rw [htl] at this;cases this
      ·exact h
     have HKN:Hid (k=n):=by have:=(HLT.out hkk).2.1 htl;have:=HN.out;unfold Hid;omega
     rw [htl] at IT
     clear HM HLT htl hkk
     go_wp2_with (go_at_call 54;refine IT.out.mono ?_;rintro e w3 ⟨rfl,hb3⟩;have HB3:=zh (zxt HB2.out.1 hb3);clear hb3;(try dsimp only))
     refine bodyPost_ret (results_none rfl _ _ _) rfl ?_
     exact ⟨⟨_,rfl⟩,⟨k,hkn,.inl HKN.out,(HKW.out w3 HB3.out).1⟩,(HKW.out w3 HB3.out).2.1⟩
   | false =>
     have hkc:k < n:=by
      have h1:=HN.out
      rcases Int.lt_or_eq_of_le hkB with h | h
      ·have:=(HM.out h).2.2.2;omega
      ·have:=(HLT.out h).2.2 htl;omega
     rw [htl] at IT
     obtain ⟨rk,hrk⟩:∃ rk,ret k=rk:=⟨_,rfl⟩
     have HRK:=zh hrk
     have CL:Hid (∀ w',Below w1.heap.size w1 w'→Calls Tryz.prog _ #[.int .i64 (k:Nat),.agg #[.int .i64 L.f,.int .i64 L.t,.int .i64 L.n,.int .i64 L.b],.pointer (some ⟨bx,0,none⟩)] w' fun e w''=>e=.returned (.bool rk)∧J (k + 1) w''∧Kps own w' w''):=fun w' hb=>by
      obtain ⟨h1,h2,_⟩:=HKW.out w' hb
      have h3:=HCL.out k w' hkc HRT.out h1 h2
      rw [HL.out,hrk] at h3
      exact h3
     clear hrk
     have HEN:Hid (L.b=0→k + 1=n):=fun h0=>by
      have hkk:(k:Int)=(spn enc A).b:=by
       rcases Int.lt_or_eq_of_le hkB with h | h
       ·have:=(HM.out h).1;omega
       ·exact h
      have:=(HLT.out hkk).2.2 htl
      have:=HN.out
      omega
     have HNX:Hid (L.b≠0→((k + 1:Nat):Int)≤(spn enc A).b∧∃ f':Nat,L.n=(f':Nat)∧skA enc A ((k + 1:Nat):Int)=(f':Nat)∧s2≤f'):=fun h0=>by
      have hkk:(k:Int) < (spn enc A).b:=by
       rcases Int.lt_or_eq_of_le hkB with h | h
       ·exact h
       ·exact absurd (HLT.out h).1 h0
      have h1:=(HM.out hkk).2.1
      have h2:=skA_in enc A ((k:Int) + 1) (by omega) (by omega)
      have h3:=HS2.out
      refine ⟨by omega,L.n.toNat,by omega,by rw [show ((k + 1:Nat):Int)=(k:Int) + 1 by omega,← h1];omega,by omega⟩
     clear HM HLT htl
     cases rk with
     | false =>
       go_wp2_with (first | (go_at_call 54;refine IT.out.mono ?_;rintro e w3 ⟨rfl,hb3⟩;have HB3:=zh (zxt HB2.out.1 hb3);have HX3:=zh ((hb3.block _ (Array.getElem?_eq_some_iff.1 HB2.out.2).1).trans HB2.out.2);clear hb3 x0 x1 x2 x3;obtain ⟨_,x0,x1,x2,x3,_⟩:=cells4 HX3.out;(try dsimp only)) | ((first | go_at_call 127 | go_at_call 128 | go_at_call 130);refine (CL.out _ HB3.out).mono ?_;rintro e w4 ⟨rfl,h1,h2⟩;have H1:=zh h1;have H2:=zh ((HKW.out _ HB3.out).2.1.trans h2 (fun _ _ e=>e));have H3:=zh h2;have HX4:=zh ((h2.same w1.heap.size (Array.getElem?_eq_some_iff.1 HX3.out).1 (fun e=>by have:=HOW.out _ e;omega)).trans HX3.out);clear h1 h2 x0 x1 x2 x3;obtain ⟨_,x0,x1,x2,x3,_⟩:=cells4 HX4.out;(try dsimp only)))
       refine bodyPost_ret (results_none rfl _ _ _) rfl ?_
       exact ⟨⟨_,rfl⟩,⟨k + 1,by omega,.inr ⟨by omega,HRK.out⟩,H1.out⟩,H2.out⟩
     | true =>
       by_cases hb0:L.b=0
       ·have HE:=zh (HEN.out hb0)
        have hbb:(L.b == 0)=true:=by simp [hb0]
        clear hb0 HNX HEN
        go_wp2_with (first | (go_at_call 54;refine IT.out.mono ?_;rintro e w3 ⟨rfl,hb3⟩;have HB3:=zh (zxt HB2.out.1 hb3);have HX3:=zh ((hb3.block _ (Array.getElem?_eq_some_iff.1 HB2.out.2).1).trans HB2.out.2);clear hb3 x0 x1 x2 x3;obtain ⟨_,x0,x1,x2,x3,_⟩:=cells4 HX3.out;(try dsimp only)) | ((first | go_at_call 127 | go_at_call 128 | go_at_call 130);refine (CL.out _ HB3.out).mono ?_;rintro e w4 ⟨rfl,h1,h2⟩;have H1:=zh h1;have H2:=zh ((HKW.out _ HB3.out).2.1.trans h2 (fun _ _ e=>e));have H3:=zh h2;have HX4:=zh ((h2.same w1.heap.size (Array.getElem?_eq_some_iff.1 HX3.out).1 (fun e=>by have:=HOW.out _ e;omega)).trans HX3.out);clear h1 h2 x0 x1 x2 x3;obtain ⟨_,x0,x1,x2,x3,_⟩:=cells4 HX4.out;(try dsimp only)))
        refine bodyPost_ret (results_none rfl _ _ _) rfl ?_
        exact ⟨⟨_,rfl⟩,⟨k + 1,by omega,.inl HE.out,H1.out⟩,H2.out⟩
       ·obtain ⟨hk1,f',hf1,hf2,hf3⟩:=HNX.out hb0
        have HF1:=zh hf1
        have HF2:=zh hf2
        have hbb:(L.b == 0)=false:=by simp [hb0]
        clear hb0 HNX HEN hf1 hf2
        go_upto_region 5 with (first | (go_at_call 54;refine IT.out.mono ?_;rintro e w3 ⟨rfl,hb3⟩;have HB3:=zh (zxt HB2.out.1 hb3);have HX3:=zh ((hb3.block _ (Array.getElem?_eq_some_iff.1 HB2.out.2).1).trans HB2.out.2);clear hb3 x0 x1 x2 x3;obtain ⟨_,x0,x1,x2,x3,_⟩:=cells4 HX3.out;(try dsimp only)) | ((first | go_at_call 127 | go_at_call 128 | go_at_call 130);refine (CL.out _ HB3.out).mono ?_;rintro e w4 ⟨rfl,h1,h2⟩;have H1:=zh h1;have H2:=zh ((HKW.out _ HB3.out).2.1.trans h2 (fun _ _ e=>e));have H3:=zh h2;have HX4:=zh ((h2.same w1.heap.size (Array.getElem?_eq_some_iff.1 HX3.out).1 (fun e=>by have:=HOW.out _ e;omega)).trans HX3.out);clear h1 h2 x0 x1 x2 x3;obtain ⟨_,x0,x1,x2,x3,_⟩:=cells4 HX4.out;(try dsimp only)))
        rw [HF1.out] at x2
        go_wp2_with fail
        go_roundw
        case rel=>exact ⟨k + 1,f',s2,by go_num,rfl,hk1,by omega,⟨HF2.out,hf3⟩,.inr HRK.out,(HKW.out _ HB3.out).2.2.yielded (own:=own) (own':=own) (fun e=>by have:=HOW.out _ e;omega) H3.out (fun j h=>.inl h) (HTZ.out _ H2.out),H1.out,H2.out⟩
        case measure=>simp [intOf];omega
set_option maxHeartbeats 8000000 in
theorem allG3 (enc:Int) (A:List Int) (t:Nat) (w:World) (hT:Tz enc w t A) (ba bi bx bz n:Nat) (hA:w.heap[ba]?=some (.cells #[.pointer (some ⟨t,0,none⟩)] 26 (0,0))) (own:Nat→Prop) (J:Nat→World→Prop) (ret:Nat→Bool) (hn:(n:Int)=cnt enc A) (hown:∀ j,own j→j < w.heap.size) (hTz:∀ w',Kps own w w'→Tz enc w' t A)
  (hJ:∀ k w1 w2,J k w1→(∀ j,j < w.heap.size→w2.heap[j]?=w1.heap[j]?)→J k w2)
  (hcl:∀ (k:Nat) w',k < n→(k=0∨ret (k - 1)=true)→J k w'→Kps own w w'→Calls Tryz.prog 129 #[.int .i64 (k:Nat),lnV (lnK enc A (k:Nat)),.pointer (some ⟨bi,0,none⟩),.pointer (some ⟨bx,0,none⟩),.pointer (some ⟨bz,0,none⟩)] w' fun e w''=>e=.returned (.bool (ret k))∧J (k + 1) w''∧Kps own w' w'') (h0:J 0 w) :
  Calls Tryz.prog 67 #[.func (.func 129) #[] #[.pointer (some ⟨bi,0,none⟩),.pointer (some ⟨bx,0,none⟩),.pointer (some ⟨bz,0,none⟩)],.pointer (some ⟨ba,0,none⟩)] w fun e w'=>(∃ v,e=.returned v)∧(∃ kf:Nat,kf≤n∧(kf=n∨(1≤kf∧ret (kf - 1)=false))∧J kf w')∧Kps own w w':=by
 have hB0:=spn_nn enc A
 have hlA:=hT.len
 have hBl:=spn_len enc A
 have HTZ:=zh hTz
 have HJJ:=zh hJ
 have HCL:=zh hcl
 have HOW:=zh hown
 have HN:=zh hn
 have cb:w.cell? ⟨ba,0,none⟩=some (.pointer (some ⟨t,0,none⟩)):=by rw [cell_of_row w _ _ _ _ _ hA];rfl
 obtain ⟨W1,hW1,hr1,hb1⟩:∃ W1,w.alloc (.cells #[.pointer (some ⟨t,0,none⟩),.int .i64 0,.slice none 0 0] 115)=W1∧W1.heap[w.heap.size]?=some (.cells #[.pointer (some ⟨t,0,none⟩),.int .i64 ((0:Nat):Int),.slice none 0 0] 115 (0,0))∧Below w.heap.size w W1:=⟨_,rfl,heap_alloc_new _ _,zxa (Below.refl _ _) _⟩
 have HR1:Hid (Rdr enc A W1 w.heap.size t 0 (fun g=>¬ own g)):=⟨⟨_,[],hr1,⟨rfl,.inl ⟨rfl,rfl⟩⟩,by simp,fun g hg=>by cases hg⟩,hT.ext hb1⟩
 have HJ1:Hid (J 0 W1∧Kps own w W1):=⟨hJ 0 w W1 h0 (fun j hj=>hb1.block j hj),Kps.of_below _ hb1⟩
 have HW1:=zh hW1
 clear hT hA hW1 hr1 hb1 hTz hJ hcl hown hn h0
 go_enter Tryz.func67,Tryz.ntmps67
 go_upto_region 1 with fail
 rw [HW1.out]
 clear HW1
 go_wp2_with fail
 go_loopw [4,5] (fun a b wr=>∃ (k f s':Nat),a=.int .i64 (k:Nat)∧b=.int .i64 (f:Nat)∧(k:Int)≤(spn enc A).b∧k≤n∧Hid (skA enc A (k:Nat)=(f:Nat)∧s'≤f)∧Hid (k=0∨ret (k - 1)=true)∧Hid (Rdr enc A wr w.heap.size t s' (fun g=>¬ own g))∧Hid (J k wr∧Kps own w wr)) (fun a _ _=>((spn enc A).b + 1).toNat - (intOf a).toNat)
 case atStart=>exact ⟨0,0,0,rfl,rfl,hB0,Nat.zero_le _,⟨skA_zero enc A,Nat.le_refl _⟩,.inl rfl,HR1.out,HJ1.out⟩
 case round =>
  clear HR1 HJ1 W1 cb
  obtain ⟨k,f,s',rfl,rfl,hkB,hkn,HF,HRT,HR,HJ⟩:=hrel
  have hfl:f≤65536:=by have:=skA_in enc A k (by omega) hkB;have:=HF.out.1;omega
  have hrw:w.heap.size < wr.heap.size:=HR.out.typ.lt
  have RL:=zh (rline_any enc A wr w.heap.size t s' f k (H:=fun g=>¬ own g) (fun j hj e=>by have:=HOW.out j e;omega) HR.out HF.out.2 (by omega) hkB HF.out.1)
  obtain ⟨L,hL⟩:∃ L,lnK enc A (k:Nat)=L:=⟨_,rfl⟩
  rw [hL] at RL
  have HL:=zh hL
  have HM:Hid ((k:Int) < (spn enc A).b→1≤L.b∧L.n=skA enc A ((k:Int) + 1)∧tlG k L=false∧(k:Int) < cnt enc A):=fun h=>by have:=ln_mid enc A k h;rw [HL.out] at this;exact ⟨this.1,this.2.2.1,this.2.2.2.1,this.2.2.2.2⟩
  have HLT:Hid ((k:Int)=(spn enc A).b→L.b=0∧(tlG k L=true→cnt enc A=k)∧(tlG k L=false→cnt enc A=(k:Int) + 1)):=fun h=>by
   have:=ln_last enc A k h
   rw [HL.out] at this
   refine ⟨this.1,fun e=>?_,fun e=>?_⟩
   ·rcases this.2 with h | h
    ·exact h.2
    ·rw [e] at h;cases h.1
   ·rcases this.2 with h | h
    ·rw [e] at h;cases h.1
    ·exact h.2
  clear hL
  go_upto_region 4 with (go_at_call 68;refine RL.out.mono ?_;rintro e w1 ⟨rfl,hr1,hk1⟩;obtain ⟨s2,hs2,hR1⟩:=hr1.out;have HR1:=zh hR1;have HS2:=zh hs2;have HK1:=zh hk1;clear hr1 hR1 hs2 hk1;(try dsimp only))
  generalize hw2:World.alloc _ _=w2
  have HB2:Hid (Below w1.heap.size w1 w2∧w2.heap[w1.heap.size]?=some (.cells #[.int .i64 L.f,.int .i64 L.t,.int .i64 L.n,.int .i64 L.b] 50 (0,0))):=by unfold Hid;rw [← hw2];exact ⟨zxa (Below.refl _ _) _,heap_alloc_new _ _⟩
  have hz1:=HK1.out.size
  have IT:=zh (isTail_gen k L w2)
  unfold lnV at IT
  obtain ⟨_,x0,x1,x2,x3,_⟩:=cells4 HB2.out.2
  have HKW:Hid (∀ w',Below w1.heap.size w1 w'→J k w'∧Kps own w w'∧Rdr enc A w' w.heap.size t s2 (fun g=>¬ own g)):=fun w' hb=>⟨HJJ.out k wr w' HJ.out.1 (fun j hj=>(hb.block j (by omega)).trans (HK1.out.same j (by omega) (by omega))),(HJ.out.2.trans HK1.out (fun i hi e=>by omega)).trans (Kps.of_below (fun _=>False) hb) (fun _ _ e=>e.elim),HR1.out.ext hb⟩
  clear hw2 RL
  cases htl:tlG k L with
  | true =>
    have hkk:(k:Int)=(spn enc A).b:=by
     rcases Int.lt_or_eq_of_le hkB with h | h
     ·have:=(HM.out h).2.2.1;rw [htl] at this;cases this
     ·exact h
    have HKN:Hid (k=n):=by have:=(HLT.out hkk).2.1 htl;have:=HN.out;unfold Hid;omega
    rw [htl] at IT
    clear HM HLT htl hkk
    go_wp2_with (go_at_call 54;refine IT.out.mono ?_;rintro e w3 ⟨rfl,hb3⟩;have HB3:=zh (zxt HB2.out.1 hb3);clear hb3;(try dsimp only))
    refine bodyPost_ret (results_none rfl _ _ _) rfl ?_
    exact ⟨⟨_,rfl⟩,⟨k,hkn,.inl HKN.out,(HKW.out w3 HB3.out).1⟩,(HKW.out w3 HB3.out).2.1⟩
  | false =>
    have hkc:k < n:=by
     have h1:=HN.out
     rcases Int.lt_or_eq_of_le hkB with h | h
     ·have:=(HM.out h).2.2.2;omega
     ·have:=(HLT.out h).2.2 htl;omega
    rw [htl] at IT
    obtain ⟨rk,hrk⟩:∃ rk,ret k=rk:=⟨_,rfl⟩
    have HRK:=zh hrk
    have CL:Hid (∀ w',Below w1.heap.size w1 w'→Calls Tryz.prog 129 #[.int .i64 (k:Nat),.agg #[.int .i64 L.f,.int .i64 L.t,.int .i64 L.n,.int .i64 L.b],.pointer (some ⟨bi,0,none⟩),.pointer (some ⟨bx,0,none⟩),.pointer (some ⟨bz,0,none⟩)] w' fun e w''=>e=.returned (.bool rk)∧J (k + 1) w''∧Kps own w' w''):=fun w' hb=>by
     obtain ⟨h1,h2,_⟩:=HKW.out w' hb
     have h3:=HCL.out k w' hkc HRT.out h1 h2
     rw [HL.out,hrk] at h3
     exact h3
    clear hrk
    have HEN:Hid (L.b=0→k + 1=n):=fun h0=>by
     have hkk:(k:Int)=(spn enc A).b:=by
      rcases Int.lt_or_eq_of_le hkB with h | h
      ·have:=(HM.out h).1;omega
      ·exact h
     have:=(HLT.out hkk).2.2 htl
     have:=HN.out
     omega
    have HNX:Hid (L.b≠0→((k + 1:Nat):Int)≤(spn enc A).b∧∃ f':Nat,L.n=(f':Nat)∧skA enc A ((k + 1:Nat):Int)=(f':Nat)∧s2≤f'):=fun h0=>by
     have hkk:(k:Int) < (spn enc A).b:=by
      rcases Int.lt_or_eq_of_le hkB with h | h
      ·exact h
      ·exact absurd (HLT.out h).1 h0
     have h1:=(HM.out hkk).2.1
     have h2:=skA_in enc A ((k:Int) + 1) (by omega) (by omega)
     have h3:=HS2.out
     refine ⟨by omega,L.n.toNat,by omega,by rw [show ((k + 1:Nat):Int)=(k:Int) + 1 by omega,← h1];omega,by omega⟩
    clear HM HLT htl
    cases rk with
    | false =>
      go_wp2_with (first | (go_at_call 54;refine IT.out.mono ?_;rintro e w3 ⟨rfl,hb3⟩;have HB3:=zh (zxt HB2.out.1 hb3);have HX3:=zh ((hb3.block _ (Array.getElem?_eq_some_iff.1 HB2.out.2).1).trans HB2.out.2);clear hb3 x0 x1 x2 x3;obtain ⟨_,x0,x1,x2,x3,_⟩:=cells4 HX3.out;(try dsimp only)) | (go_at_call 129;refine (CL.out _ HB3.out).mono ?_;rintro e w4 ⟨rfl,h1,h2⟩;have H1:=zh h1;have H2:=zh ((HKW.out _ HB3.out).2.1.trans h2 (fun _ _ e=>e));have H3:=zh h2;have HX4:=zh ((h2.same w1.heap.size (Array.getElem?_eq_some_iff.1 HX3.out).1 (fun e=>by have:=HOW.out _ e;omega)).trans HX3.out);clear h1 h2 x0 x1 x2 x3;obtain ⟨_,x0,x1,x2,x3,_⟩:=cells4 HX4.out;(try dsimp only)))
      refine bodyPost_ret (results_none rfl _ _ _) rfl ?_
      exact ⟨⟨_,rfl⟩,⟨k + 1,by omega,.inr ⟨by omega,HRK.out⟩,H1.out⟩,H2.out⟩
    | true =>
      by_cases hb0:L.b=0
      ·have HE:=zh (HEN.out hb0)
       have hbb:(L.b == 0)=true:=by simp [hb0]
       clear hb0 HNX HEN
       go_wp2_with (first | (go_at_call 54;refine IT.out.mono ?_;rintro e w3 ⟨rfl,hb3⟩;have HB3:=zh (zxt HB2.out.1 hb3);have HX3:=zh ((hb3.block _ (Array.getElem?_eq_some_iff.1 HB2.out.2).1).trans HB2.out.2);clear hb3 x0 x1 x2 x3;obtain ⟨_,x0,x1,x2,x3,_⟩:=cells4 HX3.out;(try dsimp only)) | (go_at_call 129;refine (CL.out _ HB3.out).mono ?_;rintro e w4 ⟨rfl,h1,h2⟩;have H1:=zh h1;have H2:=zh ((HKW.out _ HB3.out).2.1.trans h2 (fun _ _ e=>e));have H3:=zh h2;have HX4:=zh ((h2.same w1.heap.size (Array.getElem?_eq_some_iff.1 HX3.out).1 (fun e=>by have:=HOW.out _ e;omega)).trans HX3.out);clear h1 h2 x0 x1 x2 x3;obtain ⟨_,x0,x1,x2,x3,_⟩:=cells4 HX4.out;(try dsimp only)))
       refine bodyPost_ret (results_none rfl _ _ _) rfl ?_
       exact ⟨⟨_,rfl⟩,⟨k + 1,by omega,.inl HE.out,H1.out⟩,H2.out⟩
      ·obtain ⟨hk1,f',hf1,hf2,hf3⟩:=HNX.out hb0
       have HF1:=zh hf1
       have HF2:=zh hf2
       have hbb:(L.b == 0)=false:=by simp [hb0]
       clear hb0 HNX HEN hf1 hf2
       go_upto_region 5 with (first | (go_at_call 54;refine IT.out.mono ?_;rintro e w3 ⟨rfl,hb3⟩;have HB3:=zh (zxt HB2.out.1 hb3);have HX3:=zh ((hb3.block _ (Array.getElem?_eq_some_iff.1 HB2.out.2).1).trans HB2.out.2);clear hb3 x0 x1 x2 x3;obtain ⟨_,x0,x1,x2,x3,_⟩:=cells4 HX3.out;(try dsimp only)) | (go_at_call 129;refine (CL.out _ HB3.out).mono ?_;rintro e w4 ⟨rfl,h1,h2⟩;have H1:=zh h1;have H2:=zh ((HKW.out _ HB3.out).2.1.trans h2 (fun _ _ e=>e));have H3:=zh h2;have HX4:=zh ((h2.same w1.heap.size (Array.getElem?_eq_some_iff.1 HX3.out).1 (fun e=>by have:=HOW.out _ e;omega)).trans HX3.out);clear h1 h2 x0 x1 x2 x3;obtain ⟨_,x0,x1,x2,x3,_⟩:=cells4 HX4.out;(try dsimp only)))
       rw [HF1.out] at x2
       go_wp2_with fail
       go_roundw
       case rel=>exact ⟨k + 1,f',s2,by go_num,rfl,hk1,by omega,⟨HF2.out,hf3⟩,.inr HRK.out,(HKW.out _ HB3.out).2.2.yielded (own:=own) (own':=own) (fun e=>by have:=HOW.out _ e;omega) H3.out (fun j h=>.inl h) (HTZ.out _ H2.out),H1.out,H2.out⟩
       case measure=>simp [intOf];omega
open Go.RowKit
theorem Tz.wk {enc:Int} {w w':World} {t q:Nat} {A:List Int} (h:Tz enc w t A) (hk:Kps (fun j=>j=q) w w') (hq:Typ 80 w q):Tz enc w' t A :=
 h.other hk hq (by decide) (by decide) (fun e=>by rw [e] at hq;exact absurd (Typ.uniq hq h.typ) (by decide))
end Go.Proofs.YtjomfbegghgbdaaGreat.P
