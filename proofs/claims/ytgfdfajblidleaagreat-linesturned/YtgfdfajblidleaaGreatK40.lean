import Derived.Test.YtgfdfajblidleaaGreatK39
import Derived.BigQuiet
set_option maxRecDepth 100000
namespace Go.Proofs.YtgfdfajblidleaaGreat.P
open Go.RowKit
def Wk (w:World) (q gr m cap n k:Nat):Prop:=w.heap[q]?=some (.cells #[.slice (some ⟨gr,0,none⟩) m cap,.int .i64 (n:Nat),.int .i64 (-1),.int .i64 (k:Nat),.bool false,.bool false] 74 (0,0))
theorem Wk.cs {w:World} {q gr m cap n k:Nat} (h:Wk w q gr m cap n k):q < w.heap.size∧w.cell? ⟨q,0,none⟩=some (.slice (some ⟨gr,0,none⟩) m cap)∧w.cell? ⟨q,1,none⟩=some (.int .i64 (n:Nat))∧w.cell? ⟨q,2,none⟩=some (.int .i64 (-1))∧w.cell? ⟨q,3,none⟩=some (.int .i64 (k:Nat))∧w.cell? ⟨q,4,none⟩=some (.bool false)∧w.cell? ⟨q,5,none⟩=some (.bool false)∧∀ i,w.frozen? ⟨q,i,none⟩=false:=by
 unfold Wk at h
 refine ⟨(Array.getElem?_eq_some_iff.1 h).1,?_,?_,?_,?_,?_,?_,fun i=>by simp [World.frozen?,h]⟩ <;> simp [World.cell?,h]
theorem Wk.ext {w w':World} {q gr m cap n k:Nat} (h:Wk w q gr m cap n k) (hb:Below w.heap.size w w'):Wk w' q gr m cap n k:=(hb.block q h.cs.1).trans h
def Rw4 (w:World) (gr k:Nat) (L:Ln):Prop:=w.cell? ⟨gr,k * 4,none⟩=some (.int .i64 L.f)∧w.cell? ⟨gr,k * 4 + 1,none⟩=some (.int .i64 L.t)∧w.cell? ⟨gr,k * 4 + 2,none⟩=some (.int .i64 L.n)∧w.cell? ⟨gr,k * 4 + 3,none⟩=some (.int .i64 L.b)
theorem Rw4.same {w w':World} {gr k:Nat} {L:Ln} (h:Rw4 w gr k L) (e:w'.heap[gr]?=w.heap[gr]?):Rw4 w' gr k L:=by
 unfold Rw4 World.cell? at *
 simp only [e]
 exact h
theorem cellq_lt {w:World} {g o:Nat} {v:Value} (h:w.cell? ⟨g,o,none⟩=some v):g < w.heap.size:=by
 unfold World.cell? at h
 cases hh:w.heap[g]? with
 | none=>simp [hh] at h
 | some x=>exact (Array.getElem?_eq_some_iff.1 hh).1
theorem Rw4.lt {w:World} {gr k:Nat} {L:Ln} (h:Rw4 w gr k L):gr < w.heap.size:=cellq_lt h.1
set_option maxHeartbeats 8000000 in
theorem met_any {w:World} {q gr m cap n k:Nat} (h:Wk w q gr m cap n k) (L:Ln) (hr:Rw4 w gr k L) (hkn:k < n) (hnm:n≤m) (_hm:m≤65537) (hcap:m≤cap) (hcap2:cap≤9223372036854775807) (_hgq:gr≠q) :
  Calls Tryz.prog 27 #[.pointer (some ⟨q,0,none⟩),.int .i64 (k:Nat),lnV L] w fun e w'=>e=.returned (.bool true)∧Wk w' q gr m cap n (k + 1)∧Kps (fun j=>j=q) w w':=by
 unfold lnV
 obtain ⟨w0,hw0,hbx,hb0⟩:∃ w0,w0=w.alloc (.cells #[.int .i64 L.f,.int .i64 L.t,.int .i64 L.n,.int .i64 L.b] 50)∧w0.heap[w.heap.size]?=some (.cells #[.int .i64 L.f,.int .i64 L.t,.int .i64 L.n,.int .i64 L.b] 50 (0,0))∧Below w.heap.size w w0:=⟨_,rfl,heap_alloc_new _ _,zxa (Below.refl _ _) _⟩
 have HW0:=zh hw0
 have HB0:=zh hb0
 have hgl:=hr.lt
 have HS:Hid (∀ w',Below w0.heap.size w0 w'→(w'.cell? ⟨q,0,none⟩=some (.slice (some ⟨gr,0,none⟩) m cap)∧w'.cell? ⟨q,1,none⟩=some (.int .i64 (n:Nat))∧w'.cell? ⟨q,3,none⟩=some (.int .i64 (k:Nat))∧w'.cell? ⟨q,4,none⟩=some (.bool false))∧(w'.cell? ⟨gr,k * 4,none⟩=some (.int .i64 L.f)∧w'.cell? ⟨gr,k * 4 + 1,none⟩=some (.int .i64 L.t)∧w'.cell? ⟨gr,k * 4 + 2,none⟩=some (.int .i64 L.n)∧w'.cell? ⟨gr,k * 4 + 3,none⟩=some (.int .i64 L.b))∧(w'.cell? ⟨w.heap.size,0,none⟩=some (.int .i64 L.f)∧w'.cell? ⟨w.heap.size,1,none⟩=some (.int .i64 L.t)∧w'.cell? ⟨w.heap.size,2,none⟩=some (.int .i64 L.n)∧w'.cell? ⟨w.heap.size,3,none⟩=some (.int .i64 L.b))):=fun w' hb=>by
  have hww:Below w.heap.size w w':=zxt hb0 hb
  obtain ⟨_,c0,c1,_,c3,c4,_,_⟩:=(h.ext hww).cs
  obtain ⟨_,x0,x1,x2,x3,_⟩:=cells4 ((hb.block _ (Array.getElem?_eq_some_iff.1 hbx).1).trans hbx)
  exact ⟨⟨c0,c1,c3,c4⟩,hr.same (hww.block gr hgl),x0,x1,x2,x3⟩
 have HK:=zh h
 have LA:=zh (line_any L)
 have hk1:¬ ((n:Int)≤(k:Int)):=by omega
 have hk1':¬ (n≤k):=by omega
 have hkm:k < m:=by omega
 have hkm':(k:Int) < (m:Int):=by omega
 have ks:=HS.out w0 (Below.refl _ _)
 have hwk:IntKind.i64.wrap ((k:Int) + 1)=(k:Int) + 1:=by rw [IntKind.wrap_i64];omega
 have hne1:((k:Int) + 1 == -1)=false:=by simp;omega
 have hne1':¬ ((k:Int) + 1=-1):=by omega
 clear hw0 hbx hb0 h hr
 go_enter Tryz.func27,Tryz.ntmps27
 go_upto_region 1 with fail
 rw [← HW0.out]
 clear HW0
 refine wp_region_held_drew (S:=fun w''=>(w''.cell? ⟨q,0,none⟩=some (.slice (some ⟨gr,0,none⟩) m cap)∧w''.cell? ⟨q,1,none⟩=some (.int .i64 (n:Nat))∧w''.cell? ⟨q,3,none⟩=some (.int .i64 (k:Nat))∧w''.cell? ⟨q,4,none⟩=some (.bool false))∧(w''.cell? ⟨gr,k * 4,none⟩=some (.int .i64 L.f)∧w''.cell? ⟨gr,k * 4 + 1,none⟩=some (.int .i64 L.t)∧w''.cell? ⟨gr,k * 4 + 2,none⟩=some (.int .i64 L.n)∧w''.cell? ⟨gr,k * 4 + 3,none⟩=some (.int .i64 L.b))∧(w''.cell? ⟨w.heap.size,0,none⟩=some (.int .i64 L.f)∧w''.cell? ⟨w.heap.size,1,none⟩=some (.int .i64 L.t)∧w''.cell? ⟨w.heap.size,2,none⟩=some (.int .i64 L.n)∧w''.cell? ⟨w.heap.size,3,none⟩=some (.int .i64 L.b))) (by kernel_rfl) (ks) (fun _=>?_)
 refine tkH 0 rfl ?_
 refine tkH 1 rfl ?_
 refine tkH 2 rfl ?_
 refine tkH 3 rfl ?_
 refine tkH 4 rfl ?_
 refine tkH 5 rfl ?_
 refine tkH 6 rfl ?_
 refine tkH 7 rfl ?_
 refine tkH 8 rfl ?_
 refine tkH 9 rfl ?_
 refine tkH 10 rfl ?_
 refine tkH 11 rfl ?_
 refine tkH 12 rfl ?_
 refine tkH 13 rfl ?_
 refine tkH 14 rfl ?_
 refine tkH 15 rfl ?_
 refine tkH 16 rfl ?_
 refine tkH 17 rfl ?_
 refine tkH 18 rfl ?_
 refine tkH 19 rfl ?_
 refine tkH 20 rfl ?_
 refine tkH 21 rfl ?_
 refine tkH 22 rfl ?_
 refine tkH 23 rfl ?_
 refine tkH 24 rfl ?_
 refine tkH 25 rfl ?_
 refine tkH 26 rfl ?_
 refine tkH 27 rfl ?_
 refine tkH 28 rfl ?_
 refine tkH 29 rfl ?_
 refine tkH 30 rfl ?_
 refine tkH 31 rfl ?_
 refine tkH 32 rfl ?_
 refine tkH 33 rfl ?_
 refine tkH 34 rfl ?_
 refine rdH 35 rfl fun K hK=>?_
 go_simp
 refine (LA.out _).mono ?_;rintro e y1 ⟨rfl,hb⟩;have Hy1:=zh (zxt (Below.drew (Below.refl w0.heap.size w0)) hb);clear hb ks;have ks:=HS.out y1 Hy1.out;try dsimp only
 refine hK.out _ _ ?_ (fun _=>?_)
 ·(try simp only [World.cell?_drew]);exact ks
 clear hK K
 try simp only [Act.put,tS]
 refine tkH 36 rfl ?_
 refine tkH 37 rfl ?_
 refine dnH ?_
 go_upto_region 5 with fail
 have HK2:=zh ((HK.out.ext HB0.out).ext Hy1.out)
 obtain ⟨_,c0,c1,c2,c3,c4,c5,cf⟩:=HK2.out.cs
 clear ks HS
 go_upto_region 6 with fail
 generalize hw5:World.setCell _ _ _=w5
 have HW5:Hid (w5.heap[q]?=some (.cells #[.slice (some ⟨gr,0,none⟩) m cap,.int .i64 (n:Nat),.int .i64 (-1),.int .i64 ((k:Int) + 1),.bool false,.bool false] 74 (0,0))∧y1.grownBy w5 (some q)):=by
  unfold Hid
  rw [← hw5]
  exact set1 HK2.out 3 (.int .i64 ((k:Int) + 1))
 clear hw5 c0 c1 c2 c3 c4 c5 cf
 have d2:w5.cell? ⟨q,2,none⟩=some (.int .i64 (-1)):=by simp [World.cell?,HW5.out.1]
 have d3:w5.cell? ⟨q,3,none⟩=some (.int .i64 ((k:Int) + 1)):=by simp [World.cell?,HW5.out.1]
 have d4:w5.cell? ⟨q,4,none⟩=some (.bool false):=by simp [World.cell?,HW5.out.1]
 have d5:∀ i,w5.frozen? ⟨q,i,none⟩=false:=fun i=>by simp [World.frozen?,HW5.out.1]
 have ks:w5.cell? ⟨q,2,none⟩=some (.int .i64 (-1))∧w5.cell? ⟨q,3,none⟩=some (.int .i64 ((k:Int) + 1)):=⟨d2,d3⟩
 refine wp_region_held_drew (S:=fun w''=>w''.cell? ⟨q,2,none⟩=some (.int .i64 (-1))∧w''.cell? ⟨q,3,none⟩=some (.int .i64 ((k:Int) + 1))) (by kernel_rfl) (ks) (fun _=>?_)
 refine tkH 0 rfl ?_
 refine tkH 1 rfl ?_
 refine tkH 2 rfl ?_
 refine tkH 3 rfl ?_
 refine tkH 4 rfl ?_
 refine tkH 5 rfl ?_
 refine tkH 6 rfl ?_
 refine tkH 7 rfl ?_
 refine tkH 8 rfl ?_
 refine tkH 9 rfl ?_
 refine tkH 10 rfl ?_
 refine tkH 11 rfl ?_
 refine rdH 12 rfl fun K hK=>?_
 go_simp
 generalize hwS:World.setCell _ _ _=w6;obtain ⟨p1,p2⟩:=set1 HW5.out.1 4 (.bool false)
 rw [hwS] at p1 p2
 have HP1:=zh p1
 have HP2:=zh p2
 have e4:w6.cell? ⟨q,4,none⟩=some (.bool false):=by simp [World.cell?,HP1.out]
 clear hwS p1 p2 ks;have ks:w6.cell? ⟨q,2,none⟩=some (.int .i64 (-1))∧w6.cell? ⟨q,3,none⟩=some (.int .i64 ((k:Int) + 1)):=⟨by simp [World.cell?,HP1.out],by simp [World.cell?,HP1.out]⟩
 refine hK.out _ _ ?_ (fun _=>?_)
 ·(try simp only [World.cell?_drew]);exact ks
 clear hK K
 try simp only [Act.put,tS]
 refine dnH ?_
 go_wp2_with fail
 go_ret
 have HKK:Hid (Kps (fun j=>j=q) w w6):=((Kps.of_below (fun j=>j=q) (zxt HB0.out Hy1.out)).trans (Kps.grown (o:=fun j=>j=q) HW5.out.2 (fun j e _=>(Option.some.inj e).symm)) (fun _ _ e=>e)).trans (Kps.grown (o:=fun j=>j=q) HP2.out (fun j e _=>(Option.some.inj e).symm)) (fun _ _ e=>e)
 refine ⟨rfl,?_,?_⟩
 ·unfold Wk
  rw [Int.natCast_add]
  first | exact HP1.out | exact (World.heap_drew ▸ HP1.out)
 ·first | exact HKK.out | exact HKK.out.trans (Kps.of_below (fun _=>False) (Below.drew (Below.refl _ _))) (fun _ _ e=>e.elim)
theorem well_any {w:World} {q gr m cap n:Nat} (h:Wk w q gr m cap n n):Calls Tryz.prog 28 #[.pointer (some ⟨q,0,none⟩)] w fun e w'=>e=.returned (.bool true)∧Below w.heap.size w w':=by
 obtain ⟨_,c0,c1,c2,c3,c4,c5,cf⟩:=h.cs
 clear h
 go_enter Tryz.func28,Tryz.ntmps28
 go_upto_region 1 with fail
 go_quiet (fail)
 go_wp2_with fail
 go_ret
 exact ⟨rfl,⟨rfl,rfl,rfl,Nat.le_refl _,fun _ _=>rfl⟩⟩
end Go.Proofs.YtgfdfajblidleaaGreat.P
