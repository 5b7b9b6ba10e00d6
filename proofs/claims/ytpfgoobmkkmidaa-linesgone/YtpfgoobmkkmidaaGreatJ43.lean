import Derived.Test.YtpfgoobmkkmidaaGreatJ00
import Derived.Test.YtpfgoobmkkmidaaGreatJ42
namespace Go.Proofs.YtpfgoobmkkmidaaGreat.P
open Go.RowKit
def Wg (w:World) (q gr m cap n:Nat) (a:Int) (k:Nat) (e:Bool):Prop:=w.heap[q]?=some (.cells #[.slice (some ⟨gr,0,none⟩) m cap,.int .i64 (n:Nat),.int .i64 a,.int .i64 (k:Nat),.bool e,.bool false] 80 (0,0))
theorem Wg.cs {w:World} {q gr m cap n:Nat} {a:Int} {k:Nat} {e:Bool} (h:Wg w q gr m cap n a k e):q < w.heap.size∧w.cell? ⟨q,0,none⟩=some (.slice (some ⟨gr,0,none⟩) m cap)∧w.cell? ⟨q,1,none⟩=some (.int .i64 (n:Nat))∧w.cell? ⟨q,2,none⟩=some (.int .i64 a)∧w.cell? ⟨q,3,none⟩=some (.int .i64 (k:Nat))∧w.cell? ⟨q,4,none⟩=some (.bool e)∧w.cell? ⟨q,5,none⟩=some (.bool false)∧∀ i,w.frozen? ⟨q,i,none⟩=false:=by
 unfold Wg at h
 refine ⟨(Array.getElem?_eq_some_iff.1 h).1,?_,?_,?_,?_,?_,?_,fun i=>by simp [World.frozen?,h]⟩ <;> simp [World.cell?,h]
theorem Wg.ext {w w':World} {q gr m cap n:Nat} {a:Int} {k:Nat} {e:Bool} (h:Wg w q gr m cap n a k e) (hb:Below w.heap.size w w'):Wg w' q gr m cap n a k e:=(hb.block q h.cs.1).trans h
theorem Wg.typ {w:World} {q gr m cap n:Nat} {a:Int} {k:Nat} {e:Bool} (h:Wg w q gr m cap n a k e):Typ 80 w q:=⟨_,h⟩
set_option maxRecDepth 100000 in
set_option maxHeartbeats 8000000 in
theorem metG_any {w:World} {q gr m cap n k:Nat} {a:Int} (h:Wg w q gr m cap n a k false) (L:Ln) (hr:Rw4 w gr k L) (hkn:k < n) (hnm:n≤m) (_hm:m≤65537) (hcap:m≤cap) (hcap2:cap≤9223372036854775807) (_hgq:gr≠q) :
  Calls Tryz.prog 42 #[.pointer (some ⟨q,0,none⟩),.int .i64 (k:Nat),lnV L] w fun e w'=>e=.returned (.bool !((k:Int) + 1 == a))∧Wg w' q gr m cap n a (k + 1) ((k:Int) + 1 == a)∧Kps (fun j=>j=q) w w':=by
 obtain ⟨bb,hbb⟩:∃ bb,((k:Int) + 1 == a)=bb:=⟨_,rfl⟩
 rw [hbb]
 unfold lnV
 obtain ⟨w0,hw0,hbx,hb0⟩:∃ w0,w0=w.alloc (.cells #[.int .i64 L.f,.int .i64 L.t,.int .i64 L.n,.int .i64 L.b] 50)∧w0.heap[w.heap.size]?=some (.cells #[.int .i64 L.f,.int .i64 L.t,.int .i64 L.n,.int .i64 L.b] 50 (0,0))∧Below w.heap.size w w0:=⟨_,rfl,heap_alloc_new _ _,ext_alloc (Below.refl _ _) _⟩
 have HW0:=hidIt hw0
 have HB0:=hidIt hb0
 have hgl:=hr.lt
 have HS:Hid (∀ w',Below w0.heap.size w0 w'→(w'.cell? ⟨q,0,none⟩=some (.slice (some ⟨gr,0,none⟩) m cap)∧w'.cell? ⟨q,1,none⟩=some (.int .i64 (n:Nat))∧w'.cell? ⟨q,3,none⟩=some (.int .i64 (k:Nat))∧w'.cell? ⟨q,4,none⟩=some (.bool false))∧(w'.cell? ⟨gr,k * 4,none⟩=some (.int .i64 L.f)∧w'.cell? ⟨gr,k * 4 + 1,none⟩=some (.int .i64 L.t)∧w'.cell? ⟨gr,k * 4 + 2,none⟩=some (.int .i64 L.n)∧w'.cell? ⟨gr,k * 4 + 3,none⟩=some (.int .i64 L.b))∧(w'.cell? ⟨w.heap.size,0,none⟩=some (.int .i64 L.f)∧w'.cell? ⟨w.heap.size,1,none⟩=some (.int .i64 L.t)∧w'.cell? ⟨w.heap.size,2,none⟩=some (.int .i64 L.n)∧w'.cell? ⟨w.heap.size,3,none⟩=some (.int .i64 L.b))):=fun w' hb=>by
  have hww:Below w.heap.size w w':=ext_trans hb0 hb
  obtain ⟨_,c0,c1,_,c3,c4,_,_⟩:=(h.ext hww).cs
  obtain ⟨_,x0,x1,x2,x3,_⟩:=cells4 ((hb.block _ (Array.getElem?_eq_some_iff.1 hbx).1).trans hbx)
  exact ⟨⟨c0,c1,c3,c4⟩,hr.same (hww.block gr hgl),x0,x1,x2,x3⟩
 have HK:=hidIt h
 have LA:=hidIt (line_any L)
 have hk1:¬ ((n:Int)≤(k:Int)):=by omega
 have hk1':¬ (n≤k):=by omega
 have hkm:k < m:=by omega
 have hkm':(k:Int) < (m:Int):=by omega
 have ks:=HS.out w0 (Below.refl _ _)
 have hwk:IntKind.i64.wrap ((k:Int) + 1)=(k:Int) + 1:=by rw [IntKind.wrap_i64];omega
 clear hw0 hbx hb0 h hr
 go_enter Tryz.func42,Tryz.ntmps42
 go_upto_region 1 with fail
 rw [← HW0.out]
 clear HW0
 refine wp_region_held_drew (S:=fun w''=>(w''.cell? ⟨q,0,none⟩=some (.slice (some ⟨gr,0,none⟩) m cap)∧w''.cell? ⟨q,1,none⟩=some (.int .i64 (n:Nat))∧w''.cell? ⟨q,3,none⟩=some (.int .i64 (k:Nat))∧w''.cell? ⟨q,4,none⟩=some (.bool false))∧(w''.cell? ⟨gr,k * 4,none⟩=some (.int .i64 L.f)∧w''.cell? ⟨gr,k * 4 + 1,none⟩=some (.int .i64 L.t)∧w''.cell? ⟨gr,k * 4 + 2,none⟩=some (.int .i64 L.n)∧w''.cell? ⟨gr,k * 4 + 3,none⟩=some (.int .i64 L.b))∧(w''.cell? ⟨w.heap.size,0,none⟩=some (.int .i64 L.f)∧w''.cell? ⟨w.heap.size,1,none⟩=some (.int .i64 L.t)∧w''.cell? ⟨w.heap.size,2,none⟩=some (.int .i64 L.n)∧w''.cell? ⟨w.heap.size,3,none⟩=some (.int .i64 L.b))) (by kernel_rfl) (ks) (fun hHeld=>?_)
 refine tkH (v:=?_) 0 rfl ?_ ?_;rotate_left 1
 ·intro wq hSw;(try dsimp only at hSw);go_simp;try (with_reducible rfl)
 try simp only [Act.put,sA1,sA3,sA4,sA5,sA6]
 refine tkH (v:=?_) 1 rfl ?_ ?_;rotate_left 1
 ·intro wq hSw;(try dsimp only at hSw);go_simp;try (with_reducible rfl)
 try simp only [Act.put,sA1,sA2,sA3,sA4,sA5,sA6]
 refine tkH (v:=?_) 2 rfl ?_ ?_;rotate_left 1
 ·intro wq hSw;(try dsimp only at hSw);go_simp;try (with_reducible rfl)
 try simp only [Act.put,sA1,sA2,sA3,sA4,sA5,sA6]
 refine tkH (v:=?_) 3 rfl ?_ ?_;rotate_left 1
 ·intro wq hSw;(try dsimp only at hSw);go_simp;try (with_reducible rfl)
 try simp only [Act.put,sA1,sA2,sA3,sA4,sA5,sA6]
 refine tkH (v:=?_) 4 rfl ?_ ?_;rotate_left 1
 ·intro wq hSw;(try dsimp only at hSw);go_simp;try (with_reducible rfl)
 try simp only [Act.put,sA1,sA2,sA3,sA4,sA5,sA6]
 refine tkH (v:=?_) 5 rfl ?_ ?_;rotate_left 1
 ·intro wq hSw;(try dsimp only at hSw);go_simp;try (with_reducible rfl)
 try simp only [Act.put,sA1,sA2,sA3,sA4,sA5,sA6]
 refine tkH (v:=?_) 6 rfl ?_ ?_;rotate_left 1
 ·intro wq hSw;(try dsimp only at hSw);go_simp;try (with_reducible rfl)
 try simp only [Act.put,sA1,sA2,sA3,sA4,sA5,sA6]
 refine tkH (v:=?_) 7 rfl ?_ ?_;rotate_left 1
 ·intro wq hSw;(try dsimp only at hSw);go_simp;try (with_reducible rfl)
 try simp only [Act.put,sA1,sA2,sA3,sA4,sA5,sA6]
 refine tkH (v:=?_) 8 rfl ?_ ?_;rotate_left 1
 ·intro wq hSw;(try dsimp only at hSw);go_simp;try (with_reducible rfl)
 try simp only [Act.put,sA1,sA2,sA3,sA4,sA5,sA6]
 refine tkH (v:=?_) 9 rfl ?_ ?_;rotate_left 1
 ·intro wq hSw;(try dsimp only at hSw);go_simp;try (with_reducible rfl)
 try simp only [Act.put,sA1,sA2,sA3,sA4,sA5,sA6]
 refine tkH (v:=?_) 10 rfl ?_ ?_;rotate_left 1
 ·intro wq hSw;(try dsimp only at hSw);go_simp;try (with_reducible rfl)
 try simp only [Act.put,sA1,sA2,sA3,sA4,sA5,sA6]
 refine tkH (v:=?_) 11 rfl ?_ ?_;rotate_left 1
 ·intro wq hSw;(try dsimp only at hSw);go_simp;try (with_reducible rfl)
 try simp only [Act.put,sA1,sA2,sA3,sA4,sA5,sA6]
 refine tkH (v:=?_) 12 rfl ?_ ?_;rotate_left 1
 ·intro wq hSw;(try dsimp only at hSw);go_simp;try (with_reducible rfl)
 try simp only [Act.put,sA1,sA2,sA3,sA4,sA5,sA6]
 refine tkH (v:=?_) 13 rfl ?_ ?_;rotate_left 1
 ·intro wq hSw;(try dsimp only at hSw);go_simp;try (with_reducible rfl)
 try simp only [Act.put,sA1,sA2,sA3,sA4,sA5,sA6]
 refine tkH (v:=?_) 14 rfl ?_ ?_;rotate_left 1
 ·intro wq hSw;(try dsimp only at hSw);go_simp;try (with_reducible rfl)
 try simp only [Act.put,sA1,sA2,sA3,sA4,sA5,sA6]
 refine tkH (v:=?_) 15 rfl ?_ ?_;rotate_left 1
 ·intro wq hSw;(try dsimp only at hSw);go_simp;try (with_reducible rfl)
 try simp only [Act.put,sA1,sA2,sA3,sA4,sA5,sA6]
 refine tkH (v:=?_) 16 rfl ?_ ?_;rotate_left 1
 ·intro wq hSw;(try dsimp only at hSw);go_simp;try (with_reducible rfl)
 try simp only [Act.put,sA1,sA2,sA3,sA4,sA5,sA6]
 refine tkH (v:=?_) 17 rfl ?_ ?_;rotate_left 1
 ·intro wq hSw;(try dsimp only at hSw);go_simp;try (with_reducible rfl)
 try simp only [Act.put,sA1,sA2,sA3,sA4,sA5,sA6]
 refine tkH (v:=?_) 18 rfl ?_ ?_;rotate_left 1
 ·intro wq hSw;(try dsimp only at hSw);go_simp;try (with_reducible rfl)
 try simp only [Act.put,sA1,sA2,sA3,sA4,sA5,sA6]
 refine tkH (v:=?_) 19 rfl ?_ ?_;rotate_left 1
 ·intro wq hSw;(try dsimp only at hSw);go_simp;try (with_reducible rfl)
 try simp only [Act.put,sA1,sA2,sA3,sA4,sA5,sA6]
 refine tkH (v:=?_) 20 rfl ?_ ?_;rotate_left 1
 ·intro wq hSw;(try dsimp only at hSw);go_simp;try (with_reducible rfl)
 try simp only [Act.put,sA1,sA2,sA3,sA4,sA5,sA6]
 refine tkH (v:=?_) 21 rfl ?_ ?_;rotate_left 1
 ·intro wq hSw;(try dsimp only at hSw);go_simp;try (with_reducible rfl)
 try simp only [Act.put,sA1,sA2,sA3,sA4,sA5,sA6]
 refine tkH (v:=?_) 22 rfl ?_ ?_;rotate_left 1
 ·intro wq hSw;(try dsimp only at hSw);go_simp;try (with_reducible rfl)
 try simp only [Act.put,sA1,sA2,sA3,sA4,sA5,sA6]
 refine tkH (v:=?_) 23 rfl ?_ ?_;rotate_left 1
 ·intro wq hSw;(try dsimp only at hSw);go_simp;try (with_reducible rfl)
 try simp only [Act.put,sA1,sA2,sA3,sA4,sA5,sA6]
 refine tkH (v:=?_) 24 rfl ?_ ?_;rotate_left 1
 ·intro wq hSw;(try dsimp only at hSw);go_simp;try (with_reducible rfl)
 try simp only [Act.put,sA1,sA2,sA3,sA4,sA5,sA6]
 refine tkH (v:=?_) 25 rfl ?_ ?_;rotate_left 1
 ·intro wq hSw;(try dsimp only at hSw);go_simp;try (with_reducible rfl)
 try simp only [Act.put,sA1,sA2,sA3,sA4,sA5,sA6]
 refine tkH (v:=?_) 26 rfl ?_ ?_;rotate_left 1
 ·intro wq hSw;(try dsimp only at hSw);go_simp;try (with_reducible rfl)
 try simp only [Act.put,sA1,sA2,sA3,sA4,sA5,sA6]
 refine tkH (v:=?_) 27 rfl ?_ ?_;rotate_left 1
 ·intro wq hSw;(try dsimp only at hSw);go_simp;try (with_reducible rfl)
 try simp only [Act.put,sA1,sA2,sA3,sA4,sA5,sA6]
 refine tkH (v:=?_) 28 rfl ?_ ?_;rotate_left 1
 ·intro wq hSw;(try dsimp only at hSw);go_simp;try (with_reducible rfl)
 try simp only [Act.put,sA1,sA2,sA3,sA4,sA5,sA6]
 refine tkH (v:=?_) 29 rfl ?_ ?_;rotate_left 1
 ·intro wq hSw;(try dsimp only at hSw);go_simp;try (with_reducible rfl)
 try simp only [Act.put,sA1,sA2,sA3,sA4,sA5,sA6]
 refine tkH (v:=?_) 30 rfl ?_ ?_;rotate_left 1
 ·intro wq hSw;(try dsimp only at hSw);go_simp;try (with_reducible rfl)
 try simp only [Act.put,sA1,sA2,sA3,sA4,sA5,sA6]
 refine tkH (v:=?_) 31 rfl ?_ ?_;rotate_left 1
 ·intro wq hSw;(try dsimp only at hSw);go_simp;try (with_reducible rfl)
 try simp only [Act.put,sA1,sA2,sA3,sA4,sA5,sA6]
 refine tkH (v:=?_) 32 rfl ?_ ?_;rotate_left 1
 ·intro wq hSw;(try dsimp only at hSw);go_simp;try (with_reducible rfl)
 try simp only [Act.put,sA1,sA2,sA3,sA4,sA5,sA6]
 refine tkH (v:=?_) 33 rfl ?_ ?_;rotate_left 1
 ·intro wq hSw;(try dsimp only at hSw);go_simp;try (with_reducible rfl)
 try simp only [Act.put,sA1,sA2,sA3,sA4,sA5,sA6]
 refine tkH (v:=?_) 34 rfl ?_ ?_;rotate_left 1
 ·intro wq hSw;(try dsimp only at hSw);go_simp;try (with_reducible rfl)
 try simp only [Act.put,sA1,sA2,sA3,sA4,sA5,sA6]
 refine wpAnyH_ready (rs:=[35]) (by kernel_rfl) (by simp) ?_
 refine AllReadyH.cons (o:=_) rfl (fun K hK=>?_) AllReadyH.nil
 go_simp
 refine (LA.out _).mono ?_;rintro e y1 ⟨rfl,hb⟩;have Hy1:=hidIt (ext_trans (Below.drew (Below.refl w0.heap.size w0)) hb);clear hb ks;have ks:=HS.out y1 Hy1.out;try dsimp only
 refine hK.out _ _ ?_ (fun hHeld=>?_)
 ·(try simp only [World.cell?_drew]);exact ks
 clear hK K
 try simp only [Act.put,sA1,sA2,sA3,sA4,sA5,sA6]
 refine tkH (v:=?_) 36 rfl ?_ ?_;rotate_left 1
 ·intro wq hSw;(try dsimp only at hSw);go_simp;try (with_reducible rfl)
 try simp only [Act.put,sA1,sA2,sA3,sA4,sA5,sA6]
 refine tkH (v:=?_) 37 rfl ?_ ?_;rotate_left 1
 ·intro wq hSw;(try dsimp only at hSw);go_simp;try (with_reducible rfl)
 try simp only [Act.put,sA1,sA2,sA3,sA4,sA5,sA6]
 refine wpAnyH_done (by kernel_rfl) ?_ _
 go_upto_region 5 with fail
 have HK2:=hidIt ((HK.out.ext HB0.out).ext Hy1.out)
 obtain ⟨_,c0,c1,c2,c3,c4,c5,cf⟩:=HK2.out.cs
 clear ks HS
 go_upto_region 6 with fail
 generalize hw5:World.setCell _ _ _=w5
 have HW5:Hid (w5.heap[q]?=some (.cells #[.slice (some ⟨gr,0,none⟩) m cap,.int .i64 (n:Nat),.int .i64 a,.int .i64 ((k:Int) + 1),.bool false,.bool false] 80 (0,0))∧y1.grownBy w5 (some q)):=by
  unfold Hid
  rw [← hw5]
  exact set1 HK2.out 3 (.int .i64 ((k:Int) + 1))
 clear hw5 c0 c1 c2 c3 c4 c5 cf
 have d2:w5.cell? ⟨q,2,none⟩=some (.int .i64 a):=by simp [World.cell?,HW5.out.1]
 have d3:w5.cell? ⟨q,3,none⟩=some (.int .i64 ((k:Int) + 1)):=by simp [World.cell?,HW5.out.1]
 have d4:w5.cell? ⟨q,4,none⟩=some (.bool false):=by simp [World.cell?,HW5.out.1]
 have d5:∀ i,w5.frozen? ⟨q,i,none⟩=false:=fun i=>by simp [World.frozen?,HW5.out.1]
 have ks:w5.cell? ⟨q,2,none⟩=some (.int .i64 a)∧w5.cell? ⟨q,3,none⟩=some (.int .i64 ((k:Int) + 1)):=⟨d2,d3⟩
 refine wp_region_held_drew (S:=fun w''=>w''.cell? ⟨q,2,none⟩=some (.int .i64 a)∧w''.cell? ⟨q,3,none⟩=some (.int .i64 ((k:Int) + 1))) (by kernel_rfl) (ks) (fun hHeld=>?_)
 refine tkH (v:=?_) 0 rfl ?_ ?_;rotate_left 1
 ·intro wq hSw;(try dsimp only at hSw);go_simp;try (with_reducible rfl)
 try simp only [Act.put,sA1,sA3,sA4,sA5,sA6]
 refine tkH (v:=?_) 1 rfl ?_ ?_;rotate_left 1
 ·intro wq hSw;(try dsimp only at hSw);go_simp;try (with_reducible rfl)
 try simp only [Act.put,sA1,sA2,sA3,sA4,sA5,sA6]
 refine tkH (v:=?_) 2 rfl ?_ ?_;rotate_left 1
 ·intro wq hSw;(try dsimp only at hSw);go_simp;try (with_reducible rfl)
 try simp only [Act.put,sA1,sA2,sA3,sA4,sA5,sA6]
 refine tkH (v:=?_) 3 rfl ?_ ?_;rotate_left 1
 ·intro wq hSw;(try dsimp only at hSw);go_simp;try (with_reducible rfl)
 try simp only [Act.put,sA1,sA2,sA3,sA4,sA5,sA6]
 refine tkH (v:=?_) 4 rfl ?_ ?_;rotate_left 1
 ·intro wq hSw;(try dsimp only at hSw);go_simp;try (with_reducible rfl)
 try simp only [Act.put,sA1,sA2,sA3,sA4,sA5,sA6]
 refine tkH (v:=?_) 5 rfl ?_ ?_;rotate_left 1
 ·intro wq hSw;(try dsimp only at hSw);go_simp;try (with_reducible rfl)
 try simp only [Act.put,sA1,sA2,sA3,sA4,sA5,sA6]
 refine tkH (v:=?_) 6 rfl ?_ ?_;rotate_left 1
 ·intro wq hSw;(try dsimp only at hSw);go_simp;try (with_reducible rfl)
 try simp only [Act.put,sA1,sA2,sA3,sA4,sA5,sA6]
 refine tkH (v:=?_) 7 rfl ?_ ?_;rotate_left 1
 ·intro wq hSw;(try dsimp only at hSw);go_simp;try (with_reducible rfl)
 try simp only [Act.put,sA1,sA2,sA3,sA4,sA5,sA6]
 refine tkH (v:=?_) 8 rfl ?_ ?_;rotate_left 1
 ·intro wq hSw;(try dsimp only at hSw);go_simp;try (with_reducible rfl)
 try simp only [Act.put,sA1,sA2,sA3,sA4,sA5,sA6]
 refine tkH (v:=?_) 9 rfl ?_ ?_;rotate_left 1
 ·intro wq hSw;(try dsimp only at hSw);go_simp;try (with_reducible rfl)
 try simp only [Act.put,sA1,sA2,sA3,sA4,sA5,sA6]
 refine tkH (v:=?_) 10 rfl ?_ ?_;rotate_left 1
 ·intro wq hSw;(try dsimp only at hSw);go_simp;try (with_reducible rfl)
 try simp only [Act.put,sA1,sA2,sA3,sA4,sA5,sA6]
 refine tkH (v:=?_) 11 rfl ?_ ?_;rotate_left 1
 ·intro wq hSw;(try dsimp only at hSw);go_simp;try (with_reducible rfl)
 try simp only [Act.put,sA1,sA2,sA3,sA4,sA5,sA6]
 refine wpAnyH_ready (rs:=[12]) (by kernel_rfl) (by simp) ?_
 refine AllReadyH.cons (o:=_) rfl (fun K hK=>?_) AllReadyH.nil
 go_simp
 generalize hwS:World.setCell _ _ _=w6;obtain ⟨p1,p2⟩:=set1 HW5.out.1 4 (.bool bb)
 rw [hwS] at p1 p2
 have HP1:=hidIt p1
 have HP2:=hidIt p2
 have e4:w6.cell? ⟨q,4,none⟩=some (.bool bb):=by simp [World.cell?,HP1.out]
 clear hwS p1 p2 ks;have ks:w6.cell? ⟨q,2,none⟩=some (.int .i64 a)∧w6.cell? ⟨q,3,none⟩=some (.int .i64 ((k:Int) + 1)):=⟨by simp [World.cell?,HP1.out],by simp [World.cell?,HP1.out]⟩
 refine hK.out _ _ ?_ (fun hHeld=>?_)
 ·(try simp only [World.cell?_drew]);exact ks
 clear hK K
 try simp only [Act.put,sA1,sA2,sA3,sA4,sA5,sA6]
 refine wpAnyH_done (by kernel_rfl) ?_ _
 go_wp2_with fail
 go_ret
 have HKK:Hid (Kps (fun j=>j=q) w w6):=((Kps.of_below (fun j=>j=q) (ext_trans HB0.out Hy1.out)).trans (Kps.grown (o:=fun j=>j=q) HW5.out.2 (fun j e _=>(Option.some.inj e).symm)) (fun _ _ e=>e)).trans (Kps.grown (o:=fun j=>j=q) HP2.out (fun j e _=>(Option.some.inj e).symm)) (fun _ _ e=>e)
 refine ⟨rfl,?_,?_⟩
 ·unfold Wg
  rw [Int.natCast_add]
  first | exact HP1.out | exact (World.heap_drew ▸ HP1.out)
 ·first | exact HKK.out | exact HKK.out.trans (Kps.of_below (fun _=>False) (Below.drew (Below.refl _ _))) (fun _ _ e=>e.elim)
set_option maxRecDepth 100000 in
theorem wellG_any {w:World} {q gr m cap n k:Nat} {a:Int} {e:Bool} (h:Wg w q gr m cap n a k e) (hk:k=n∨(k:Int)=a):Calls Tryz.prog 43 #[.pointer (some ⟨q,0,none⟩)] w fun e w'=>e=.returned (.bool true)∧Below w.heap.size w w':=by
 obtain ⟨_,c0,c1,c2,c3,c4,c5,cf⟩:=h.cs
 clear h
 by_cases hkn:k=n
 ·subst hkn
  clear hk
  go_enter Tryz.func43,Tryz.ntmps43
  go_upto_region 1 with fail
  go_quiet (fail)
  go_wp2_with fail
  go_ret
  exact ⟨rfl,⟨rfl,rfl,rfl,Nat.le_refl _,fun _ _=>rfl⟩⟩
 ·obtain rfl:a=(k:Int):=by rcases hk with h | h;exact absurd h hkn;exact h.symm
  have hb:((k:Int) == (n:Int))=false:=by simp;omega
  have hb':(k == n)=false:=by simp [hkn]
  clear hk
  go_enter Tryz.func43,Tryz.ntmps43
  go_upto_region 1 with fail
  go_quiet (fail)
  go_wp2_with fail
  go_ret
  exact ⟨rfl,⟨rfl,rfl,rfl,Nat.le_refl _,fun _ _=>rfl⟩⟩
set_option maxRecDepth 100000 in
theorem alls1_any {w:World} {bx q gr m cap n k:Nat} {a:Int} (hbx:w.heap[bx]?=some (.cells #[.pointer (some ⟨q,0,none⟩)] 78 (0,0))) (h:Wg w q gr m cap n a k false) (L:Ln) (hr:Rw4 w gr k L) (hkn:k < n) (hnm:n≤m) (hm:m≤65537) (hcap:m≤cap) (hcap2:cap≤9223372036854775807) (hgq:gr≠q) :
  Calls Tryz.prog 127 #[.int .i64 (k:Nat),lnV L,.pointer (some ⟨bx,0,none⟩)] w fun e w'=>e=.returned (.bool !((k:Int) + 1 == a))∧Wg w' q gr m cap n a (k + 1) ((k:Int) + 1 == a)∧Kps (fun j=>j=q) w w':=by
 obtain ⟨w0,hw0,hlx,hb0⟩:∃ w0,w0=w.alloc (.cells #[.int .i64 L.f,.int .i64 L.t,.int .i64 L.n,.int .i64 L.b] 50)∧w0.heap[w.heap.size]?=some (.cells #[.int .i64 L.f,.int .i64 L.t,.int .i64 L.n,.int .i64 L.b] 50 (0,0))∧Below w.heap.size w w0:=⟨_,rfl,heap_alloc_new _ _,ext_alloc (Below.refl _ _) _⟩
 have ME:=hidIt (metG_any (h.ext hb0) L (hr.same (hb0.block gr hr.lt)) hkn hnm hm hcap hcap2 hgq)
 have cb:w0.cell? ⟨bx,0,none⟩=some (.pointer (some ⟨q,0,none⟩)):=by simp [World.cell?,(hb0.block bx (Array.getElem?_eq_some_iff.1 hbx).1).trans hbx]
 obtain ⟨_,x0,x1,x2,x3,_⟩:=cells4 hlx
 have HW0:=hidIt hw0
 have HB0:=hidIt hb0
 obtain ⟨bb,hbb⟩:∃ bb,((k:Int) + 1 == a)=bb:=⟨_,rfl⟩
 rw [hbb] at ME ⊢
 clear hw0 hb0 h hr hbx hlx hbb
 unfold lnV at ME ⊢
 go_enter Tryz.func127,Tryz.ntmps127
 go_upto_region 1 with fail
 rw [← HW0.out]
 clear HW0
 go_wp2_with (go_at_call 42;refine ME.out.mono ?_;rintro e w9 ⟨rfl,h1,h2⟩;have H1:=hidIt h1;have H2:=hidIt ((Kps.of_below (fun j=>j=q) HB0.out).trans h2 (fun _ _ e=>e));clear h1 h2;(try dsimp only))
 go_ret
 exact ⟨rfl,H1.out,H2.out⟩
set_option maxRecDepth 100000 in
theorem alls2_any {w:World} {bx q gr m cap n k:Nat} {a:Int} (hbx:w.heap[bx]?=some (.cells #[.pointer (some ⟨q,0,none⟩)] 78 (0,0))) (h:Wg w q gr m cap n a k false) (L:Ln) (hr:Rw4 w gr k L) (hkn:k < n) (hnm:n≤m) (hm:m≤65537) (hcap:m≤cap) (hcap2:cap≤9223372036854775807) (hgq:gr≠q) :
  Calls Tryz.prog 128 #[.int .i64 (k:Nat),lnV L,.pointer (some ⟨bx,0,none⟩)] w fun e w'=>e=.returned (.bool !((k:Int) + 1 == a))∧Wg w' q gr m cap n a (k + 1) ((k:Int) + 1 == a)∧Kps (fun j=>j=q) w w':=by
 obtain ⟨w0,hw0,hlx,hb0⟩:∃ w0,w0=w.alloc (.cells #[.int .i64 L.f,.int .i64 L.t,.int .i64 L.n,.int .i64 L.b] 50)∧w0.heap[w.heap.size]?=some (.cells #[.int .i64 L.f,.int .i64 L.t,.int .i64 L.n,.int .i64 L.b] 50 (0,0))∧Below w.heap.size w w0:=⟨_,rfl,heap_alloc_new _ _,ext_alloc (Below.refl _ _) _⟩
 have ME:=hidIt (metG_any (h.ext hb0) L (hr.same (hb0.block gr hr.lt)) hkn hnm hm hcap hcap2 hgq)
 have cb:w0.cell? ⟨bx,0,none⟩=some (.pointer (some ⟨q,0,none⟩)):=by simp [World.cell?,(hb0.block bx (Array.getElem?_eq_some_iff.1 hbx).1).trans hbx]
 obtain ⟨_,x0,x1,x2,x3,_⟩:=cells4 hlx
 have HW0:=hidIt hw0
 have HB0:=hidIt hb0
 obtain ⟨bb,hbb⟩:∃ bb,((k:Int) + 1 == a)=bb:=⟨_,rfl⟩
 rw [hbb] at ME ⊢
 clear hw0 hb0 h hr hbx hlx hbb
 unfold lnV at ME ⊢
 go_enter Tryz.func128,Tryz.ntmps128
 go_upto_region 1 with fail
 rw [← HW0.out]
 clear HW0
 go_wp2_with (go_at_call 42;refine ME.out.mono ?_;rintro e w9 ⟨rfl,h1,h2⟩;have H1:=hidIt h1;have H2:=hidIt ((Kps.of_below (fun j=>j=q) HB0.out).trans h2 (fun _ _ e=>e));clear h1 h2;(try dsimp only))
 go_ret
 exact ⟨rfl,H1.out,H2.out⟩
set_option maxRecDepth 100000 in
theorem alls3x1_any {w:World} {bx q gr m cap n k:Nat} {a:Int} (hbx:w.heap[bx]?=some (.cells #[.pointer (some ⟨q,0,none⟩)] 78 (0,0))) (h:Wg w q gr m cap n a k false) (L:Ln) (hr:Rw4 w gr k L) (hkn:k < n) (hnm:n≤m) (hm:m≤65537) (hcap:m≤cap) (hcap2:cap≤9223372036854775807) (hgq:gr≠q) :
  Calls Tryz.prog 130 #[.int .i64 (k:Nat),lnV L,.pointer (some ⟨bx,0,none⟩)] w fun e w'=>e=.returned (.bool !((k:Int) + 1 == a))∧Wg w' q gr m cap n a (k + 1) ((k:Int) + 1 == a)∧Kps (fun j=>j=q) w w':=by
 obtain ⟨w0,hw0,hlx,hb0⟩:∃ w0,w0=w.alloc (.cells #[.int .i64 L.f,.int .i64 L.t,.int .i64 L.n,.int .i64 L.b] 50)∧w0.heap[w.heap.size]?=some (.cells #[.int .i64 L.f,.int .i64 L.t,.int .i64 L.n,.int .i64 L.b] 50 (0,0))∧Below w.heap.size w w0:=⟨_,rfl,heap_alloc_new _ _,ext_alloc (Below.refl _ _) _⟩
 have ME:=hidIt (metG_any (h.ext hb0) L (hr.same (hb0.block gr hr.lt)) hkn hnm hm hcap hcap2 hgq)
 have cb:w0.cell? ⟨bx,0,none⟩=some (.pointer (some ⟨q,0,none⟩)):=by simp [World.cell?,(hb0.block bx (Array.getElem?_eq_some_iff.1 hbx).1).trans hbx]
 obtain ⟨_,x0,x1,x2,x3,_⟩:=cells4 hlx
 have HW0:=hidIt hw0
 have HB0:=hidIt hb0
 obtain ⟨bb,hbb⟩:∃ bb,((k:Int) + 1 == a)=bb:=⟨_,rfl⟩
 rw [hbb] at ME ⊢
 clear hw0 hb0 h hr hbx hlx hbb
 unfold lnV at ME ⊢
 go_enter Tryz.func130,Tryz.ntmps130
 go_upto_region 1 with fail
 rw [← HW0.out]
 clear HW0
 go_wp2_with (go_at_call 42;refine ME.out.mono ?_;rintro e w9 ⟨rfl,h1,h2⟩;have H1:=hidIt h1;have H2:=hidIt ((Kps.of_below (fun j=>j=q) HB0.out).trans h2 (fun _ _ e=>e));clear h1 h2;(try dsimp only))
 go_ret
 exact ⟨rfl,H1.out,H2.out⟩
end Go.Proofs.YtpfgoobmkkmidaaGreat.P
