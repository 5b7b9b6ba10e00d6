import Derived.Test.YtjomfbegghgbdaaGreatJ00
import Derived.Test.YtjomfbegghgbdaaGreatJ40
import Derived.Test.YtjomfbegghgbdaaGreatJ42
namespace Go.Proofs.YtjomfbegghgbdaaGreat.P
open Go.RowKit
set_option maxRecDepth 100000 in
set_option maxHeartbeats 8000000 in
theorem typeds_any (enc:Int) (w:World) (g t:Nat) (A:List Int) (m:Nat) (o:Opv) (v:Value) (h:BtW enc w g t A m) (ho:o.put.length≤1048576) (hp:Rd .i64 w v o.put):Yes 105 w g o v:=by
 intro w1 hb1
 obtain ⟨ap,cp,rfl,_⟩:=id hp
 obtain ⟨who,k,a,b,put⟩:=o
 unfold Opv.val
 dsimp only at *
 obtain ⟨w2,hw2,kk2,hb2⟩:∃ w2,w2=w1.alloc (.cells #[.int .i64 who,.int .i64 k,.int .i64 a,.int .i64 b,.slice ap put.length cp] 38)∧w2.heap[w1.heap.size]?=some (.cells #[.int .i64 who,.int .i64 k,.int .i64 a,.int .i64 b,.slice ap put.length cp] 38 (0,0))∧Below w1.heap.size w1 w2:=⟨_,rfl,heap_alloc_new _ _,ext_alloc (Below.refl _ _) _⟩
 have HB2:=hidIt hb2
 have hbw:=ext_trans hb1 hb2
 have h2:=h.ext hbw
 obtain ⟨vA,hg,hov⟩:=h2.ex
 obtain ⟨av,cv,rfl⟩:=hov.form
 have hlA:=h2.tz.len
 have HTZ:=hidIt h2.tz
 have HPT:=hidIt (hp.ext hbw)
 have HOV:=hidIt hov.rdi
 have HC:Hid (∀ w',Below w2.heap.size w2 w'→w'.cell? ⟨g,0,none⟩=some (.pointer (some ⟨t,0,none⟩))∧w'.cell? ⟨g,1,none⟩=some (.slice av A.length cv)∧w'.cell? ⟨w1.heap.size,2,none⟩=some (.int .i64 a)∧w'.cell? ⟨w1.heap.size,3,none⟩=some (.int .i64 b)∧w'.cell? ⟨w1.heap.size,4,none⟩=some (.slice ap put.length cp)):=fun w' hb=>by
  obtain ⟨_,c0,c1,_⟩:=cells2 ((hb.block g (Array.getElem?_eq_some_iff.1 hg).1).trans hg)
  obtain ⟨_,_,_,d2,d3,d4⟩:=cells5 ((hb.block _ (Array.getElem?_eq_some_iff.1 kk2).1).trans kk2)
  exact ⟨c0,c1,d2,d3,d4⟩
 have CPY:Hid (∀ w',Below w2.heap.size w2 w'→Calls Tryz.prog 20 #[.slice ap put.length cp] w' fun e w''=>∃ v',e=.returned v'∧Hid (OwnI w'' w'.heap.size v' put)∧Below w'.heap.size w' w''):=fun w' hb=>copied_any _ put w' (HPT.out.ext hb) (by omega)
 have TYP:Hid (∀ w' v',Below w2.heap.size w2 w'→Rd .i64 w' v' put→Calls Tryz.prog 23 #[.pointer (some ⟨t,0,none⟩),.int .i64 a,v',.int .i64 b] w' fun e w''=>∃ v,e=.returned (.tuple #[v,.int .i64 (tyE A a b)])∧Hid (OwnI w'' w'.heap.size v (tyL A a b put))∧Below w'.heap.size w' w''):=fun w' v' hb hv=>Typed_any enc w' t A a v' put b (HTZ.out.ext hb) hv (by omega)
 have RTY:Hid (∀ w',Below w2.heap.size w2 w'→Calls Tryz.prog 26 #[.slice av A.length cv,.int .i64 a,.slice ap put.length cp,.int .i64 b] w' fun e w''=>∃ v,e=.returned (.tuple #[v,.int .i64 (tyE A a b)])∧Hid (OwnI w'' w'.heap.size v (tyL A a b put))∧Below w'.heap.size w' w''):=fun w' hb=>rTyped_any w' _ A a _ put b (HOV.out.ext hb) hlA (HPT.out.ext hb) (by omega)
 obtain ⟨R,hR⟩:∃ R,R=tyL A a b put:=⟨_,rfl⟩
 rw [← hR] at TYP RTY
 obtain ⟨er,her⟩:∃ er,er=tyE A a b:=⟨_,rfl⟩
 rw [← her] at TYP RTY
 have SAM:Hid (∀ w' v1 v2,Rd .i64 w' v1 R→Rd .i64 w' v2 R→Calls Tryz.prog 24 #[v1,v2] w' fun e w''=>e=.returned (.bool true)∧Below w'.heap.size w' w''):=fun w' v1 v2 k1 k2=>same_yes v1 v2 R w' k1 k2
 obtain ⟨c0,c1,d2,d3,d4⟩:=HC.out w2 (Below.refl _ _)
 clear h hp hb1 hb2 hbw h2 hg hov kk2 hR her ho
 go_enter Tryz.func105,Tryz.ntmps105
 go_upto_region 1 with fail
 rw [← hw2]
 clear hw2
 refine wp_region_held_drew (S:=fun w''=>w''.cell? ⟨g,0,none⟩=some (.pointer (some ⟨t,0,none⟩))∧w''.cell? ⟨g,1,none⟩=some (.slice av A.length cv)∧w''.cell? ⟨w1.heap.size,2,none⟩=some (.int .i64 a)∧w''.cell? ⟨w1.heap.size,3,none⟩=some (.int .i64 b)∧w''.cell? ⟨w1.heap.size,4,none⟩=some (.slice ap put.length cp)) (by kernel_rfl) (⟨c0,c1,d2,d3,d4⟩) (fun hHeld=>?_)
 refine tkH (v:=?_) 0 rfl ?_ ?_;rotate_left 1
 ·intro wq hSw;(try dsimp only at hSw);go_simp;try (with_reducible rfl)
 try simp only [Act.put,sA1,sA3,sA4,sA5,sA6]
 refine tkH (v:=?_) 1 rfl ?_ ?_;rotate_left 1
 ·intro wq hSw;(try dsimp only at hSw);go_simp;try (with_reducible rfl)
 try simp only [Act.put,sA1,sA2,sA3,sA4,sA5,sA6]
 refine tkH (v:=?_) 2 rfl ?_ ?_;rotate_left 1
 ·intro wq hSw;(try dsimp only at hSw);go_simp;try (with_reducible rfl)
 try simp only [Act.put,sA1,sA2,sA3,sA4,sA5,sA6]
 refine tkH (v:=?_) 3 rfl ?_ ?_;rotate_left 1
 ·intro wq hSw;(try dsimp only at hSw);go_simp;try (with_reducible rfl)
 try simp only [Act.put,sA1,sA2,sA3,sA4,sA5,sA6]
 refine tkH (v:=?_) 4 rfl ?_ ?_;rotate_left 1
 ·intro wq hSw;(try dsimp only at hSw);go_simp;try (with_reducible rfl)
 try simp only [Act.put,sA1,sA2,sA3,sA4,sA5,sA6]
 refine tkH (v:=?_) 5 rfl ?_ ?_;rotate_left 1
 ·intro wq hSw;(try dsimp only at hSw);go_simp;try (with_reducible rfl)
 try simp only [Act.put,sA1,sA2,sA3,sA4,sA5,sA6]
 refine tkH (v:=?_) 6 rfl ?_ ?_;rotate_left 1
 ·intro wq hSw;(try dsimp only at hSw);go_simp;try (with_reducible rfl)
 try simp only [Act.put,sA1,sA2,sA3,sA4,sA5,sA6]
 refine tkH (v:=?_) 7 rfl ?_ ?_;rotate_left 1
 ·intro wq hSw;(try dsimp only at hSw);go_simp;try (with_reducible rfl)
 try simp only [Act.put,sA1,sA2,sA3,sA4,sA5,sA6]
 refine tkH (v:=?_) 9 rfl ?_ ?_;rotate_left 1
 ·intro wq hSw;(try dsimp only at hSw);go_simp;try (with_reducible rfl)
 try simp only [Act.put,sA1,sA2,sA3,sA4,sA5,sA6]
 refine tkH (v:=?_) 10 rfl ?_ ?_;rotate_left 1
 ·intro wq hSw;(try dsimp only at hSw);go_simp;try (with_reducible rfl)
 try simp only [Act.put,sA1,sA2,sA3,sA4,sA5,sA6]
 refine wpAnyH_ready (rs:=[8]) (by kernel_rfl) (by simp) ?_
 refine AllReadyH.cons (o:=_) rfl (fun K hK=>?_) AllReadyH.nil
 go_simp
 refine (CPY.out _ (Below.drew (Below.refl _ _))).mono ?_;clear c0 c1 d2 d3 d4;rintro e y3 ⟨v3,rfl,ho3,hb⟩;have HY3:=hidIt (ext_trans (Below.drew (Below.refl w2.heap.size w2)) hb);clear hb;obtain ⟨a3,k3,hv3⟩:=ho3.out.form;subst hv3;have HO3:=hidIt ho3.out;clear ho3;obtain ⟨c0,c1,d2,d3,d4⟩:=HC.out y3 HY3.out;try dsimp only
 refine hK.out _ _ ?_ (fun hHeld=>?_)
 ·(try simp only [World.cell?_drew]);exact ⟨c0,c1,d2,d3,d4⟩
 clear hK K
 try simp only [Act.put,sA1,sA2,sA3,sA4,sA5,sA6]
 refine wpAnyH_ready (rs:=[11]) (by kernel_rfl) (by simp) ?_
 refine AllReadyH.cons (o:=_) rfl (fun K hK=>?_) AllReadyH.nil
 go_simp
 refine (TYP.out _ _ HY3.out HO3.out.rdi).mono ?_;clear c0 c1 d2 d3 d4;rintro e y4 ⟨v4,rfl,ho4,hb⟩;have HY4:=hidIt (ext_trans HY3.out hb);clear hb;obtain ⟨a4,k4,hv4⟩:=ho4.out.form;generalize hn4:R.length=n4 at hv4;clear hn4;subst hv4;have HO4:=hidIt ho4.out;clear ho4;obtain ⟨c0,c1,d2,d3,d4⟩:=HC.out y4 HY4.out;try dsimp only
 refine hK.out _ _ ?_ (fun hHeld=>?_)
 ·(try simp only [World.cell?_drew]);exact ⟨c0,c1,d2,d3,d4⟩
 clear hK K
 try simp only [Act.put,sA1,sA2,sA3,sA4,sA5,sA6]
 refine tkH (v:=?_) 12 rfl ?_ ?_;rotate_left 1
 ·intro wq hSw;(try dsimp only at hSw);go_simp;try (with_reducible rfl)
 try simp only [Act.put,sA1,sA2,sA3,sA4,sA5,sA6]
 refine tkH (v:=?_) 13 rfl ?_ ?_;rotate_left 1
 ·intro wq hSw;(try dsimp only at hSw);go_simp;try (with_reducible rfl)
 try simp only [Act.put,sA1,sA2,sA3,sA4,sA5,sA6]
 refine tkH (v:=?_) 14 rfl ?_ ?_;rotate_left 1
 ·intro wq hSw;(try dsimp only at hSw);go_simp;try (with_reducible rfl)
 try simp only [Act.put,sA1,sA2,sA3,sA4,sA5,sA6]
 refine tkH (v:=?_) 15 rfl ?_ ?_;rotate_left 1
 ·intro wq hSw;(try dsimp only at hSw);go_simp;try (with_reducible rfl)
 try simp only [Act.put,sA1,sA2,sA3,sA4,sA5,sA6]
 refine tkH (v:=?_) 16 rfl ?_ ?_;rotate_left 1
 ·intro wq hSw;(try dsimp only at hSw);go_simp;try (with_reducible rfl)
 try simp only [Act.put,sA1,sA2,sA3,sA4,sA5,sA6]
 refine wpAnyH_done (by kernel_rfl) ?_ _
 skip
 go_upto_region 2 with fail
 refine wp_region_held_drew (S:=fun w''=>w''.cell? ⟨g,0,none⟩=some (.pointer (some ⟨t,0,none⟩))∧w''.cell? ⟨g,1,none⟩=some (.slice av A.length cv)∧w''.cell? ⟨w1.heap.size,2,none⟩=some (.int .i64 a)∧w''.cell? ⟨w1.heap.size,3,none⟩=some (.int .i64 b)∧w''.cell? ⟨w1.heap.size,4,none⟩=some (.slice ap put.length cp)) (by kernel_rfl) (⟨c0,c1,d2,d3,d4⟩) (fun hHeld=>?_)
 refine tkH (v:=?_) 0 rfl ?_ ?_;rotate_left 1
 ·intro wq hSw;(try dsimp only at hSw);go_simp;try (with_reducible rfl)
 try simp only [Act.put,sA1,sA3,sA4,sA5,sA6]
 refine tkH (v:=?_) 1 rfl ?_ ?_;rotate_left 1
 ·intro wq hSw;(try dsimp only at hSw);go_simp;try (with_reducible rfl)
 try simp only [Act.put,sA1,sA2,sA3,sA4,sA5,sA6]
 refine tkH (v:=?_) 2 rfl ?_ ?_;rotate_left 1
 ·intro wq hSw;(try dsimp only at hSw);go_simp;try (with_reducible rfl)
 try simp only [Act.put,sA1,sA2,sA3,sA4,sA5,sA6]
 refine tkH (v:=?_) 3 rfl ?_ ?_;rotate_left 1
 ·intro wq hSw;(try dsimp only at hSw);go_simp;try (with_reducible rfl)
 try simp only [Act.put,sA1,sA2,sA3,sA4,sA5,sA6]
 refine tkH (v:=?_) 4 rfl ?_ ?_;rotate_left 1
 ·intro wq hSw;(try dsimp only at hSw);go_simp;try (with_reducible rfl)
 try simp only [Act.put,sA1,sA2,sA3,sA4,sA5,sA6]
 refine tkH (v:=?_) 5 rfl ?_ ?_;rotate_left 1
 ·intro wq hSw;(try dsimp only at hSw);go_simp;try (with_reducible rfl)
 try simp only [Act.put,sA1,sA2,sA3,sA4,sA5,sA6]
 refine tkH (v:=?_) 6 rfl ?_ ?_;rotate_left 1
 ·intro wq hSw;(try dsimp only at hSw);go_simp;try (with_reducible rfl)
 try simp only [Act.put,sA1,sA2,sA3,sA4,sA5,sA6]
 refine tkH (v:=?_) 7 rfl ?_ ?_;rotate_left 1
 ·intro wq hSw;(try dsimp only at hSw);go_simp;try (with_reducible rfl)
 try simp only [Act.put,sA1,sA2,sA3,sA4,sA5,sA6]
 refine tkH (v:=?_) 8 rfl ?_ ?_;rotate_left 1
 ·intro wq hSw;(try dsimp only at hSw);go_simp;try (with_reducible rfl)
 try simp only [Act.put,sA1,sA2,sA3,sA4,sA5,sA6]
 refine tkH (v:=?_) 9 rfl ?_ ?_;rotate_left 1
 ·intro wq hSw;(try dsimp only at hSw);go_simp;try (with_reducible rfl)
 try simp only [Act.put,sA1,sA2,sA3,sA4,sA5,sA6]
 refine wpAnyH_ready (rs:=[10]) (by kernel_rfl) (by simp) ?_
 refine AllReadyH.cons (o:=_) rfl (fun K hK=>?_) AllReadyH.nil
 go_simp
 refine (RTY.out _ HY4.out.drew).mono ?_;clear c0 c1 d2 d3 d4;rintro e y5 ⟨v5,rfl,ho5,hb⟩;have HB45:=hidIt (ext_trans (Below.drew (Below.refl y4.heap.size y4)) hb);have HY5:=hidIt (ext_trans HY4.out.drew hb);clear hb;obtain ⟨a5,k5,hv5⟩:=ho5.out.form;generalize hn5:R.length=n5 at hv5;clear hn5;subst hv5;have HO5:=hidIt ho5.out;clear ho5;obtain ⟨c0,c1,d2,d3,d4⟩:=HC.out y5 HY5.out;try dsimp only
 refine hK.out _ _ ?_ (fun hHeld=>?_)
 ·(try simp only [World.cell?_drew]);exact ⟨c0,c1,d2,d3,d4⟩
 clear hK K
 try simp only [Act.put,sA1,sA2,sA3,sA4,sA5,sA6]
 refine tkH (v:=?_) 11 rfl ?_ ?_;rotate_left 1
 ·intro wq hSw;(try dsimp only at hSw);go_simp;try (with_reducible rfl)
 try simp only [Act.put,sA1,sA2,sA3,sA4,sA5,sA6]
 refine tkH (v:=?_) 12 rfl ?_ ?_;rotate_left 1
 ·intro wq hSw;(try dsimp only at hSw);go_simp;try (with_reducible rfl)
 try simp only [Act.put,sA1,sA2,sA3,sA4,sA5,sA6]
 refine tkH (v:=?_) 13 rfl ?_ ?_;rotate_left 1
 ·intro wq hSw;(try dsimp only at hSw);go_simp;try (with_reducible rfl)
 try simp only [Act.put,sA1,sA2,sA3,sA4,sA5,sA6]
 refine tkH (v:=?_) 14 rfl ?_ ?_;rotate_left 1
 ·intro wq hSw;(try dsimp only at hSw);go_simp;try (with_reducible rfl)
 try simp only [Act.put,sA1,sA2,sA3,sA4,sA5,sA6]
 refine tkH (v:=?_) 15 rfl ?_ ?_;rotate_left 1
 ·intro wq hSw;(try dsimp only at hSw);go_simp;try (with_reducible rfl)
 try simp only [Act.put,sA1,sA2,sA3,sA4,sA5,sA6]
 refine wpAnyH_done (by kernel_rfl) ?_ _
 skip
 have SM:=hidIt (SAM.out y5 _ _ (HO4.out.rdi.ext HB45.out) HO5.out.rdi)
 clear c0 c1 d2 d3 d4 CPY TYP RTY SAM
 go_wp2_with (go_at_call 24;refine SM.out.mono ?_;rintro e y9 ⟨rfl,hb⟩;have HB9:=hidIt hb;clear hb;(try dsimp only))
 go_ret
 exact ⟨rfl,ext_trans (ext_trans HB2.out HY5.out) HB9.out⟩
end Go.Proofs.YtjomfbegghgbdaaGreat.P
