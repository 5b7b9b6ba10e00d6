import Derived.Test.YtjjfakokakamaaaGreatJ01
import Derived.Deep.LoopGhost
import Derived.Deep.CutRange
import Derived.Deep.CutBlock
import Derived.RangeFuncNested
import Derived.RangeFuncBound
import Derived.Deep.RegionHeld3
namespace Go.Proofs.YtjjfakokakamaaaGreat
open Go.RowKit
set_option maxRecDepth 100000 in
set_option maxHeartbeats 2000000 in
theorem Next_1 (v:Value) (zs:List Int) (n:Nat) (w:World) (h:Rd .u8 w v zs) (hb:Byt zs) (hn:n < zs.length) :
  Calls Tryz.prog 52 #[.int .i64 1,v,.int .i64 n] w fun e w'=>e=.returned (.tuple #[.int .i64 (Cx.fst 1 (zs.drop n)).1,.int .i64 (Cx.fst 1 (zs.drop n)).2])∧Below w.heap.size w w':=by
 have HR:Hid (Rd .u8 w v zs):=h
 have HB:Hid (Byt zs):=hb
 have hlen:=h.len
 obtain ⟨ao,cap,rfl,hl,hm,hc⟩:=h
 obtain ⟨b,off,rfl,_⟩:=hc (List.length_pos_iff.1 (by omega))
 have HN:Hid (zs.drop n≠[]):=List.length_pos_iff.1 (by rw [List.length_drop];omega)
 obtain ⟨a,m,hf⟩:∃ (a:Int) (m:Nat),Cx.fst 1 (zs.drop n)=(a,(m:Int)):=by
  have:=Cx.fst_bd 1 (zs.drop n) HN.out
  exact ⟨_,(Cx.fst 1 (zs.drop n)).2.toNat,Prod.ext rfl (by simp only;omega)⟩
 have HF:Hid (Cx.fst 1 (zs.drop n)=(a,(m:Int))):=hf
 have hcn:¬ cap=n:=by omega
 have HC:Hid (Rd .u8 w (.slice (some ⟨b,off + n,none⟩) (zs.length - n) (cap - n)) (zs.drop n)):=HR.out.cut (by omega)
 have hcm:cap≤9223372036854775807:=hm
 rw [hf]
 clear hb hc hf hm
 have hmt:=m_first1
 have hnt:=n_first1
 go_enter Tryz.func52,Tryz.ntmps52
 go_wp2_with fail
 refine (coderOf_1 _).mono ?_
 rintro e w' ⟨rfl,rfl⟩
 go_wp2_with fail
 first | go_region_with (go_at_call 172;refine (fst1_any _ (zs.drop n) a m _ (HC.out.ext (by repeat (first | exact Below.refl _ _ | apply below_drewN | refine ext_alloc ?_ _ | apply Below.drew))) (HB.out.drop n) HN.out HF.out).mono ?_;rintro e w1 ⟨rfl,hb1⟩;have HW1:Hid (Below w'.heap.size w' w1):=ext_trans (by repeat (first | exact Below.refl _ _ | apply below_drewN | refine ext_alloc ?_ _ | apply Below.drew)) hb1;clear hb1) | fail
 all_goals
  go_wp2
  go_ret2
  exact ⟨rfl,(by repeat (first | exact HW1.out | exact Below.refl _ _ | apply below_drewN | refine ext_alloc ?_ _ | apply Below.drew))⟩
set_option maxRecDepth 100000 in
set_option maxHeartbeats 2000000 in
theorem Next_2 (v:Value) (zs:List Int) (n:Nat) (w:World) (h:Rd .u8 w v zs) (hb:Byt zs) (hn:n < zs.length) :
  Calls Tryz.prog 52 #[.int .i64 2,v,.int .i64 n] w fun e w'=>e=.returned (.tuple #[.int .i64 (Cx.fst 2 (zs.drop n)).1,.int .i64 (Cx.fst 2 (zs.drop n)).2])∧Below w.heap.size w w':=by
 have HR:Hid (Rd .u8 w v zs):=h
 have HB:Hid (Byt zs):=hb
 have hlen:=h.len
 obtain ⟨ao,cap,rfl,hl,hm,hc⟩:=h
 obtain ⟨b,off,rfl,_⟩:=hc (List.length_pos_iff.1 (by omega))
 have HN:Hid (zs.drop n≠[]):=List.length_pos_iff.1 (by rw [List.length_drop];omega)
 obtain ⟨a,m,hf⟩:∃ (a:Int) (m:Nat),Cx.fst 2 (zs.drop n)=(a,(m:Int)):=by
  have:=Cx.fst_bd 2 (zs.drop n) HN.out
  exact ⟨_,(Cx.fst 2 (zs.drop n)).2.toNat,Prod.ext rfl (by simp only;omega)⟩
 have HF:Hid (Cx.fst 2 (zs.drop n)=(a,(m:Int))):=hf
 have hcn:¬ cap=n:=by omega
 have HC:Hid (Rd .u8 w (.slice (some ⟨b,off + n,none⟩) (zs.length - n) (cap - n)) (zs.drop n)):=HR.out.cut (by omega)
 have hcm:cap≤9223372036854775807:=hm
 rw [hf]
 clear hb hc hf hm
 have hmt:=m_first2
 have hnt:=n_first2
 go_enter Tryz.func52,Tryz.ntmps52
 go_wp2_with fail
 refine (coderOf_2 _).mono ?_
 rintro e w' ⟨rfl,rfl⟩
 go_wp2_with fail
 first | go_region_with (go_at_call 187;refine (fst2_any _ (zs.drop n) a m _ (HC.out.ext (by repeat (first | exact Below.refl _ _ | apply below_drewN | refine ext_alloc ?_ _ | apply Below.drew))) (HB.out.drop n) HN.out HF.out).mono ?_;rintro e w1 ⟨rfl,hb1⟩;have HW1:Hid (Below w'.heap.size w' w1):=ext_trans (by repeat (first | exact Below.refl _ _ | apply below_drewN | refine ext_alloc ?_ _ | apply Below.drew)) hb1;clear hb1) | fail
 all_goals
  go_wp2
  go_ret2
  exact ⟨rfl,(by repeat (first | exact HW1.out | exact Below.refl _ _ | apply below_drewN | refine ext_alloc ?_ _ | apply Below.drew))⟩
set_option maxRecDepth 100000 in
set_option maxHeartbeats 2000000 in
theorem Next_3 (v:Value) (zs:List Int) (n:Nat) (w:World) (h:Rd .u8 w v zs) (hb:Byt zs) (hn:n < zs.length) :
  Calls Tryz.prog 52 #[.int .i64 3,v,.int .i64 n] w fun e w'=>e=.returned (.tuple #[.int .i64 (Cx.fst 3 (zs.drop n)).1,.int .i64 (Cx.fst 3 (zs.drop n)).2])∧Below w.heap.size w w':=by
 have HR:Hid (Rd .u8 w v zs):=h
 have HB:Hid (Byt zs):=hb
 have hlen:=h.len
 obtain ⟨ao,cap,rfl,hl,hm,hc⟩:=h
 obtain ⟨b,off,rfl,_⟩:=hc (List.length_pos_iff.1 (by omega))
 have HN:Hid (zs.drop n≠[]):=List.length_pos_iff.1 (by rw [List.length_drop];omega)
 obtain ⟨a,m,hf⟩:∃ (a:Int) (m:Nat),Cx.fst 3 (zs.drop n)=(a,(m:Int)):=by
  have:=Cx.fst_bd 3 (zs.drop n) HN.out
  exact ⟨_,(Cx.fst 3 (zs.drop n)).2.toNat,Prod.ext rfl (by simp only;omega)⟩
 have HF:Hid (Cx.fst 3 (zs.drop n)=(a,(m:Int))):=hf
 have hcn:¬ cap=n:=by omega
 have HC:Hid (Rd .u8 w (.slice (some ⟨b,off + n,none⟩) (zs.length - n) (cap - n)) (zs.drop n)):=HR.out.cut (by omega)
 have hcm:cap≤9223372036854775807:=hm
 rw [hf]
 clear hb hc hf hm
 have hmt:=m_first2
 have hnt:=n_first2
 go_enter Tryz.func52,Tryz.ntmps52
 go_wp2_with fail
 refine (coderOf_3 _).mono ?_
 rintro e w' ⟨rfl,rfl⟩
 go_wp2_with fail
 first | go_region_with (go_at_call 187;refine (fst3_any _ (zs.drop n) a m _ (HC.out.ext (by repeat (first | exact Below.refl _ _ | apply below_drewN | refine ext_alloc ?_ _ | apply Below.drew))) (HB.out.drop n) HN.out HF.out).mono ?_;rintro e w1 ⟨rfl,hb1⟩;have HW1:Hid (Below w'.heap.size w' w1):=ext_trans (by repeat (first | exact Below.refl _ _ | apply below_drewN | refine ext_alloc ?_ _ | apply Below.drew)) hb1;clear hb1) | fail
 all_goals
  go_wp2
  go_ret2
  exact ⟨rfl,(by repeat (first | exact HW1.out | exact Below.refl _ _ | apply below_drewN | refine ext_alloc ?_ _ | apply Below.drew))⟩
set_option maxRecDepth 100000 in
set_option maxHeartbeats 2000000 in
theorem Next_4 (v:Value) (zs:List Int) (n:Nat) (w:World) (h:Rd .u8 w v zs) (hb:Byt zs) (hn:n < zs.length) :
  Calls Tryz.prog 52 #[.int .i64 4,v,.int .i64 n] w fun e w'=>e=.returned (.tuple #[.int .i64 (Cx.fst 4 (zs.drop n)).1,.int .i64 (Cx.fst 4 (zs.drop n)).2])∧Below w.heap.size w w':=by
 have HR:Hid (Rd .u8 w v zs):=h
 have HB:Hid (Byt zs):=hb
 have hlen:=h.len
 obtain ⟨ao,cap,rfl,hl,hm,hc⟩:=h
 obtain ⟨b,off,rfl,_⟩:=hc (List.length_pos_iff.1 (by omega))
 have HN:Hid (zs.drop n≠[]):=List.length_pos_iff.1 (by rw [List.length_drop];omega)
 obtain ⟨a,m,hf⟩:∃ (a:Int) (m:Nat),Cx.fst 4 (zs.drop n)=(a,(m:Int)):=by
  have:=Cx.fst_bd 4 (zs.drop n) HN.out
  exact ⟨_,(Cx.fst 4 (zs.drop n)).2.toNat,Prod.ext rfl (by simp only;omega)⟩
 have HF:Hid (Cx.fst 4 (zs.drop n)=(a,(m:Int))):=hf
 have hcn:¬ cap=n:=by omega
 have HC:Hid (Rd .u8 w (.slice (some ⟨b,off + n,none⟩) (zs.length - n) (cap - n)) (zs.drop n)):=HR.out.cut (by omega)
 have hcm:cap≤9223372036854775807:=hm
 rw [hf]
 clear hb hc hf hm
 have hmt:=m_first4
 have hnt:=n_first4
 go_enter Tryz.func52,Tryz.ntmps52
 go_wp2_with fail
 refine (coderOf_4 _).mono ?_
 rintro e w' ⟨rfl,rfl⟩
 go_wp2_with fail
 first | go_region_with (go_at_call 199;refine (fst4_any _ (zs.drop n) a m _ (HC.out.ext (by repeat (first | exact Below.refl _ _ | apply below_drewN | refine ext_alloc ?_ _ | apply Below.drew))) (HB.out.drop n) HN.out HF.out).mono ?_;rintro e w1 ⟨rfl,hb1⟩;have HW1:Hid (Below w'.heap.size w' w1):=ext_trans (by repeat (first | exact Below.refl _ _ | apply below_drewN | refine ext_alloc ?_ _ | apply Below.drew)) hb1;clear hb1) | fail
 all_goals
  go_wp2
  go_ret2
  exact ⟨rfl,(by repeat (first | exact HW1.out | exact Below.refl _ _ | apply below_drewN | refine ext_alloc ?_ _ | apply Below.drew))⟩
end Go.Proofs.YtjjfakokakamaaaGreat

namespace Go.Proofs.YtjjfakokakamaaaGreat
open Go.RowKit
set_option maxRecDepth 100000 in
set_option maxHeartbeats 2000000 in
theorem Prev_1 (v:Value) (zs:List Int) (n:Nat) (w:World) (h:Rd .u8 w v zs) (hb:Byt zs) (h0:0 < n) (hn:n≤zs.length) :
  Calls Tryz.prog 127 #[.int .i64 1,v,.int .i64 n] w fun e w'=>e=.returned (.tuple #[.int .i64 (Cx.lst 1 (zs.take n)).1,.int .i64 (Cx.lst 1 (zs.take n)).2])∧Below w.heap.size w w':=by
 have HR:Hid (Rd .u8 w v zs):=h
 have HB:Hid (Byt zs):=hb
 have hlen:=h.len
 obtain ⟨ao,cap,rfl,hl,hm,hc⟩:=h
 obtain ⟨b,off,rfl,_⟩:=hc (List.length_pos_iff.1 (by omega))
 have HN:Hid (zs.take n≠[]):=List.length_pos_iff.1 (by rw [List.length_take];omega)
 have hcm:cap≤9223372036854775807:=hm
 have hnc:n≤cap:=by omega
 have HX:Hid (∀ w':World,Below w.heap.size w w'→Calls Tryz.prog 173 #[.agg #[],.slice (some ⟨b,off,none⟩) n cap] w' fun e w''=>e=.returned (.tuple #[.int .i64 (Cx.lst 1 (zs.take n)).1,.int .i64 (Cx.lst 1 (zs.take n)).2])∧Below w'.heap.size w' w''):=fun w' hw=>lst1_any (.slice (some ⟨b,off,none⟩) n cap) (zs.take n) w' ((HR.out.take n hn).ext hw) (HB.out.take n) HN.out
 generalize (Cx.lst 1 (zs.take n)).1=x at *
 generalize (Cx.lst 1 (zs.take n)).2=y at *
 clear hb hc hm
 have hmt:=m_last1
 have hnt:=n_last1
 go_enter Tryz.func127,Tryz.ntmps127
 go_wp2_with fail
 refine (coderOf_1 _).mono ?_
 rintro e w' ⟨rfl,rfl⟩
 go_wp2_with fail
 first | go_region_with (go_at_call 173;refine (HX.out _ (by repeat (first | exact Below.refl _ _ | apply below_drewN | refine ext_alloc ?_ _ | apply Below.drew))).mono ?_;rintro e w1 ⟨rfl,hb1⟩;have HW1:Hid (Below w'.heap.size w' w1):=ext_trans (by repeat (first | exact Below.refl _ _ | apply below_drewN | refine ext_alloc ?_ _ | apply Below.drew)) hb1;clear hb1) | fail
 all_goals
  go_wp2
  go_ret2
  exact ⟨rfl,(by repeat (first | exact HW1.out | exact Below.refl _ _ | apply below_drewN | refine ext_alloc ?_ _ | apply Below.drew))⟩
set_option maxRecDepth 100000 in
set_option maxHeartbeats 2000000 in
theorem Prev_2 (v:Value) (zs:List Int) (n:Nat) (w:World) (h:Rd .u8 w v zs) (hb:Byt zs) (h0:0 < n) (hn:n≤zs.length) :
  Calls Tryz.prog 127 #[.int .i64 2,v,.int .i64 n] w fun e w'=>e=.returned (.tuple #[.int .i64 (Cx.lst 2 (zs.take n)).1,.int .i64 (Cx.lst 2 (zs.take n)).2])∧Below w.heap.size w w':=by
 have HR:Hid (Rd .u8 w v zs):=h
 have HB:Hid (Byt zs):=hb
 have hlen:=h.len
 obtain ⟨ao,cap,rfl,hl,hm,hc⟩:=h
 obtain ⟨b,off,rfl,_⟩:=hc (List.length_pos_iff.1 (by omega))
 have HN:Hid (zs.take n≠[]):=List.length_pos_iff.1 (by rw [List.length_take];omega)
 have hcm:cap≤9223372036854775807:=hm
 have hnc:n≤cap:=by omega
 have HX:Hid (∀ w':World,Below w.heap.size w w'→Calls Tryz.prog 188 #[.agg #[.int .i64 0],.slice (some ⟨b,off,none⟩) n cap] w' fun e w''=>e=.returned (.tuple #[.int .i64 (Cx.lst 2 (zs.take n)).1,.int .i64 (Cx.lst 2 (zs.take n)).2])∧Below w'.heap.size w' w''):=fun w' hw=>lst2_any (.slice (some ⟨b,off,none⟩) n cap) (zs.take n) w' ((HR.out.take n hn).ext hw) (HB.out.take n) HN.out
 generalize (Cx.lst 2 (zs.take n)).1=x at *
 generalize (Cx.lst 2 (zs.take n)).2=y at *
 clear hb hc hm
 have hmt:=m_last2
 have hnt:=n_last2
 go_enter Tryz.func127,Tryz.ntmps127
 go_wp2_with fail
 refine (coderOf_2 _).mono ?_
 rintro e w' ⟨rfl,rfl⟩
 go_wp2_with fail
 first | go_region_with (go_at_call 188;refine (HX.out _ (by repeat (first | exact Below.refl _ _ | apply below_drewN | refine ext_alloc ?_ _ | apply Below.drew))).mono ?_;rintro e w1 ⟨rfl,hb1⟩;have HW1:Hid (Below w'.heap.size w' w1):=ext_trans (by repeat (first | exact Below.refl _ _ | apply below_drewN | refine ext_alloc ?_ _ | apply Below.drew)) hb1;clear hb1) | fail
 all_goals
  go_wp2
  go_ret2
  exact ⟨rfl,(by repeat (first | exact HW1.out | exact Below.refl _ _ | apply below_drewN | refine ext_alloc ?_ _ | apply Below.drew))⟩
set_option maxRecDepth 100000 in
set_option maxHeartbeats 2000000 in
theorem Prev_3 (v:Value) (zs:List Int) (n:Nat) (w:World) (h:Rd .u8 w v zs) (hb:Byt zs) (h0:0 < n) (hn:n≤zs.length) :
  Calls Tryz.prog 127 #[.int .i64 3,v,.int .i64 n] w fun e w'=>e=.returned (.tuple #[.int .i64 (Cx.lst 3 (zs.take n)).1,.int .i64 (Cx.lst 3 (zs.take n)).2])∧Below w.heap.size w w':=by
 have HR:Hid (Rd .u8 w v zs):=h
 have HB:Hid (Byt zs):=hb
 have hlen:=h.len
 obtain ⟨ao,cap,rfl,hl,hm,hc⟩:=h
 obtain ⟨b,off,rfl,_⟩:=hc (List.length_pos_iff.1 (by omega))
 have HN:Hid (zs.take n≠[]):=List.length_pos_iff.1 (by rw [List.length_take];omega)
 have hcm:cap≤9223372036854775807:=hm
 have hnc:n≤cap:=by omega
 have HX:Hid (∀ w':World,Below w.heap.size w w'→Calls Tryz.prog 188 #[.agg #[.int .i64 1],.slice (some ⟨b,off,none⟩) n cap] w' fun e w''=>e=.returned (.tuple #[.int .i64 (Cx.lst 3 (zs.take n)).1,.int .i64 (Cx.lst 3 (zs.take n)).2])∧Below w'.heap.size w' w''):=fun w' hw=>lst3_any (.slice (some ⟨b,off,none⟩) n cap) (zs.take n) w' ((HR.out.take n hn).ext hw) (HB.out.take n) HN.out
 generalize (Cx.lst 3 (zs.take n)).1=x at *
 generalize (Cx.lst 3 (zs.take n)).2=y at *
 clear hb hc hm
 have hmt:=m_last2
 have hnt:=n_last2
 go_enter Tryz.func127,Tryz.ntmps127
 go_wp2_with fail
 refine (coderOf_3 _).mono ?_
 rintro e w' ⟨rfl,rfl⟩
 go_wp2_with fail
 first | go_region_with (go_at_call 188;refine (HX.out _ (by repeat (first | exact Below.refl _ _ | apply below_drewN | refine ext_alloc ?_ _ | apply Below.drew))).mono ?_;rintro e w1 ⟨rfl,hb1⟩;have HW1:Hid (Below w'.heap.size w' w1):=ext_trans (by repeat (first | exact Below.refl _ _ | apply below_drewN | refine ext_alloc ?_ _ | apply Below.drew)) hb1;clear hb1) | fail
 all_goals
  go_wp2
  go_ret2
  exact ⟨rfl,(by repeat (first | exact HW1.out | exact Below.refl _ _ | apply below_drewN | refine ext_alloc ?_ _ | apply Below.drew))⟩
set_option maxRecDepth 100000 in
set_option maxHeartbeats 2000000 in
theorem Prev_4 (v:Value) (zs:List Int) (n:Nat) (w:World) (h:Rd .u8 w v zs) (hb:Byt zs) (h0:0 < n) (hn:n≤zs.length) :
  Calls Tryz.prog 127 #[.int .i64 4,v,.int .i64 n] w fun e w'=>e=.returned (.tuple #[.int .i64 (Cx.lst 4 (zs.take n)).1,.int .i64 (Cx.lst 4 (zs.take n)).2])∧Below w.heap.size w w':=by
 have HR:Hid (Rd .u8 w v zs):=h
 have HB:Hid (Byt zs):=hb
 have hlen:=h.len
 obtain ⟨ao,cap,rfl,hl,hm,hc⟩:=h
 obtain ⟨b,off,rfl,_⟩:=hc (List.length_pos_iff.1 (by omega))
 have HN:Hid (zs.take n≠[]):=List.length_pos_iff.1 (by rw [List.length_take];omega)
 have hcm:cap≤9223372036854775807:=hm
 have hnc:n≤cap:=by omega
 have HX:Hid (∀ w':World,Below w.heap.size w w'→Calls Tryz.prog 200 #[.agg #[],.slice (some ⟨b,off,none⟩) n cap] w' fun e w''=>e=.returned (.tuple #[.int .i64 (Cx.lst 4 (zs.take n)).1,.int .i64 (Cx.lst 4 (zs.take n)).2])∧Below w'.heap.size w' w''):=fun w' hw=>lst4_any (.slice (some ⟨b,off,none⟩) n cap) (zs.take n) w' ((HR.out.take n hn).ext hw) (HB.out.take n) HN.out
 generalize (Cx.lst 4 (zs.take n)).1=x at *
 generalize (Cx.lst 4 (zs.take n)).2=y at *
 clear hb hc hm
 have hmt:=m_last4
 have hnt:=n_last4
 go_enter Tryz.func127,Tryz.ntmps127
 go_wp2_with fail
 refine (coderOf_4 _).mono ?_
 rintro e w' ⟨rfl,rfl⟩
 go_wp2_with fail
 first | go_region_with (go_at_call 200;refine (HX.out _ (by repeat (first | exact Below.refl _ _ | apply below_drewN | refine ext_alloc ?_ _ | apply Below.drew))).mono ?_;rintro e w1 ⟨rfl,hb1⟩;have HW1:Hid (Below w'.heap.size w' w1):=ext_trans (by repeat (first | exact Below.refl _ _ | apply below_drewN | refine ext_alloc ?_ _ | apply Below.drew)) hb1;clear hb1) | fail
 all_goals
  go_wp2
  go_ret2
  exact ⟨rfl,(by repeat (first | exact HW1.out | exact Below.refl _ _ | apply below_drewN | refine ext_alloc ?_ _ | apply Below.drew))⟩
end Go.Proofs.YtjjfakokakamaaaGreat

namespace Go.Proofs.YtjjfakokakamaaaGreat.P
open Go.RowKit
def sg (a k:Int):Rs:=⟨1,k,if a=10∨a=13 then 1 else 0,decide (a=10),decide (a=13)⟩
theorem size_nn (enc a:Int):0≤Cx.size enc a:=by unfold Cx.size;split <;> omega
theorem sg_ok (a k:Int) (h:0≤k):Rs.Ok (sg a k):=by
 unfold sg
 refine ⟨by simp,h,?_,?_,fun h=>by simp at h⟩
 ·simp only;split <;> omega
 ·simp only [decide_eq_true_eq];intro e;rw [if_pos (.inl e)];omega
def aA (enc:Int):Alg Int Rs where
 zero:=Rs.zero
 add:=Rs.add
 meas:=fun a=>sg a (Cx.size enc a)
 key:=Rs.key
 Ok:=Rs.Ok
 okz:=Rs.ok_zero
 okm:=fun a=>sg_ok a _ (size_nn enc a)
 oka:=fun _ _ ha hb=>Rs.ok_add ha hb
 assoc:=Rs.assoc
 zadd:=fun a _=>Rs.zadd a
 addz:=Rs.addz
 mono:=Rs.mono
 keyz:=fun k=>by unfold Rs.key Rs.zero;simp
def spn (enc:Int) (l:List Int):Rs:=(aA enc).su l
theorem spn_nil (enc:Int):spn enc []=Rs.zero:=rfl
theorem spn_app (enc:Int) (a b:List Int):spn enc (a ++ b)=Rs.add (spn enc a) (spn enc b):=(aA enc).su_app a b
theorem spn_snoc (enc:Int) (a:List Int) (x:Int):spn enc (a ++ [x])=Rs.add (spn enc a) (sg x (Cx.size enc x)):=(aA enc).su_snoc a x
theorem spn_cons (enc:Int) (x:Int) (l:List Int):spn enc (x :: l)=Rs.add (sg x (Cx.size enc x)) (spn enc l):=(aA enc).su_cons x l
theorem spn_ok (enc:Int) (l:List Int):Rs.Ok (spn enc l):=(aA enc).ok l
theorem add_as (x y:Rs) (hx:Rs.Ok x) (hy:Rs.Ok y):(Rs.add x y).a=x.a + y.a∧(Rs.add x y).s=x.s + y.s:=by
 unfold Rs.add
 by_cases h1:x.a=0
 ·rw [if_pos h1,hx.z h1];exact ⟨(Int.zero_add _).symm,(Int.zero_add _).symm⟩
 ·rw [if_neg h1]
  by_cases h2:y.a=0
  ·rw [if_pos h2,hy.z h2];exact ⟨(Int.add_zero _).symm,(Int.add_zero _).symm⟩
  ·rw [if_neg h2];exact ⟨rfl,rfl⟩
theorem spn_as (enc:Int) (l:List Int) (h:∀ a ∈ l,Cx.fits enc a=true):(spn enc l).a=l.length∧(spn enc l).s=(Cx.encB enc l).length:=by
 induction l with
 | nil=>exact ⟨rfl,rfl⟩
 | cons x l ih =>
   obtain ⟨i1,i2⟩:=ih (fun a ha=>h a (List.mem_cons_of_mem _ ha))
   obtain ⟨k1,k2⟩:=add_as (sg x (Cx.size enc x)) (spn enc l) (sg_ok x _ (size_nn enc x)) (spn_ok enc l)
   rw [spn_cons,k1,k2,i1,i2,Cx.encB_cons,List.length_append,List.length_cons]
   have e:Cx.size enc x=(Cx.put enc x).length:=by unfold Cx.size;rw [if_pos (h x List.mem_cons_self)]
   refine ⟨?_,?_⟩
   ·show (1:Int) + _=_
    omega
   ·show Cx.size enc x + _=_
    rw [e];omega
theorem single_any (a k:Int) (w:World):Calls Tryz.prog 71 #[.int .i64 a,.int .i64 k] w fun e w'=>e=.returned (.agg #[.int .i64 (sg a k).a,.int .i64 (sg a k).s,.int .i64 (sg a k).b,.bool (sg a k).lf,.bool (sg a k).cr])∧Below w.heap.size w w':=by
 by_cases h1:a=10
 ·subst h1
  go_enter Tryz.func71,Tryz.ntmps71
  go_wp2_with fail
  exact bodyPost_ret (v:=.agg #[.int .i64 1,.int .i64 k,.int .i64 1,.bool true,.bool false]) (by simp [results,Tryz.results71,go_sem]) rfl ⟨rfl,by repeat (first | exact Below.refl _ _ | refine ext_alloc ?_ _)⟩
 by_cases h2:a=13
 ·subst h2
  go_enter Tryz.func71,Tryz.ntmps71
  go_wp2_with fail
  exact bodyPost_ret (v:=.agg #[.int .i64 1,.int .i64 k,.int .i64 1,.bool false,.bool true]) (by simp [results,Tryz.results71,go_sem]) rfl ⟨rfl,by repeat (first | exact Below.refl _ _ | refine ext_alloc ?_ _)⟩
 ·have e:sg a k=⟨1,k,0,false,false⟩:=by unfold sg;rw [if_neg (by omega)];simp [h1,h2]
  have b1:(a == 10)=false:=by simp [h1]
  have b2:(a == 13)=false:=by simp [h2]
  rw [e]
  clear e
  go_enter Tryz.func71,Tryz.ntmps71
  go_wp2_with fail
  exact bodyPost_ret (v:=.agg #[.int .i64 1,.int .i64 k,.int .i64 0,.bool false,.bool false]) (by simp [results,Tryz.results71,go_sem]) rfl ⟨rfl,by repeat (first | exact Below.refl _ _ | refine ext_alloc ?_ _)⟩
def tg (pl k:Int):Int:=if pl=-1 then -1 else pl + k
theorem tag_any (x:It) (k:Int) (w:World) (h0:-1≤x.pl) (hk:0≤k) (h1:x.pl + k≤9223372036854775807):Calls Tryz.prog 101 #[.agg #[.slice x.p x.n x.c,.int .i64 x.pl,.int .i64 x.sp.a,.int .i64 x.sp.s,.int .i64 x.sp.b,.bool x.sp.lf,.bool x.sp.cr],.int .i64 k] w fun e w'=>e=.returned (.int .i64 (tg x.pl k))∧Below w.heap.size w w':=by
 obtain ⟨p,n,c,pl,sp,ok⟩:=x
 simp only at *
 by_cases h:pl=-1
 ·have e:tg pl k=-1:=by unfold tg;rw [if_pos h]
  rw [e,h]
  go_enter Tryz.func101,Tryz.ntmps101
  go_wp2_with fail
  go_ret
  exact ⟨rfl,ext_alloc (Below.refl _ _) _⟩
 ·have e:tg pl k=pl + k:=by unfold tg;rw [if_neg h]
  have hb:(pl == -1)=false:=by simp [h]
  rw [e]
  clear e
  go_enter Tryz.func101,Tryz.ntmps101
  go_wp2_with fail
  go_ret
  exact ⟨rfl,ext_alloc (Below.refl _ _) _⟩
theorem Next_any (enc:Int) (he:Cx.En enc) (v:Value) (zs:List Int) (n:Nat) (w:World) (h:Rd .u8 w v zs) (hb:Byt zs) (hn:n < zs.length) :
  Calls Tryz.prog 52 #[.int .i64 enc,v,.int .i64 n] w fun e w'=>e=.returned (.tuple #[.int .i64 (Cx.fst enc (zs.drop n)).1,.int .i64 (Cx.fst enc (zs.drop n)).2])∧Below w.heap.size w w':=by
 rcases he with rfl | rfl | rfl | rfl
 ·exact Next_1 v zs n w h hb hn
 ·exact Next_2 v zs n w h hb hn
 ·exact Next_3 v zs n w h hb hn
 ·exact Next_4 v zs n w h hb hn
theorem Prev_any (enc:Int) (he:Cx.En enc) (v:Value) (zs:List Int) (n:Nat) (w:World) (h:Rd .u8 w v zs) (hb:Byt zs) (h0:0 < n) (hn:n≤zs.length) :
  Calls Tryz.prog 127 #[.int .i64 enc,v,.int .i64 n] w fun e w'=>e=.returned (.tuple #[.int .i64 (Cx.lst enc (zs.take n)).1,.int .i64 (Cx.lst enc (zs.take n)).2])∧Below w.heap.size w w':=by
 rcases he with rfl | rfl | rfl | rfl
 ·exact Prev_1 v zs n w h hb h0 hn
 ·exact Prev_2 v zs n w h hb h0 hn
 ·exact Prev_3 v zs n w h hb h0 hn
 ·exact Prev_4 v zs n w h hb h0 hn
theorem endsWith_any (enc:Int) (he:Cx.En enc) (v:Value) (zs:List Int) (a:Int) (w:World) (h:Rd .u8 w v zs) (hb:Byt zs) (h0:0 < zs.length) :
  Calls Tryz.prog 106 #[.int .i64 enc,v,.int .i64 a] w fun e w'=>e=.returned (.bool (decide ((Cx.lst enc zs).1=a)))∧Below w.heap.size w w':=by
 have PV:=hidIt (Prev_any enc he v zs zs.length w h hb h0 (Nat.le_refl _))
 rw [List.take_length] at PV
 obtain ⟨ao,cap,rfl,_⟩:=h
 generalize (Cx.lst enc zs).1=q at *
 generalize (Cx.lst enc zs).2=q2 at *
 by_cases hq:q=a
 ·have hq':(q == a)=true:=by simp [hq]
  have hd:decide (q=a)=true:=by simp [hq]
  rw [hd]
  clear hq hd
  go_enter Tryz.func106,Tryz.ntmps106
  go_wp2_with (go_at_call 127;refine PV.out.mono ?_;rintro e w1 ⟨rfl,hb1⟩;have HB1:=hidIt hb1;clear hb1)
  go_ret
  exact ⟨rfl,HB1.out⟩
 ·have hq':(q == a)=false:=by simp [hq]
  have hd:decide (q=a)=false:=by simp [hq]
  rw [hd]
  clear hd
  go_enter Tryz.func106,Tryz.ntmps106
  go_wp2_with (go_at_call 127;refine PV.out.mono ?_;rintro e w1 ⟨rfl,hb1⟩;have HB1:=hidIt hb1;clear hb1)
  go_ret
  exact ⟨rfl,HB1.out⟩
end Go.Proofs.YtjjfakokakamaaaGreat.P

namespace Go.Proofs.YtjjfakokakamaaaGreat.P
open Go.RowKit
def off (enc:Int) (zs:List Int) (j:Nat):Nat:=(Cx.encB enc ((Cx.dec enc zs).take j)).length
theorem off_le (enc:Int) (he:Cx.En enc) (zs:List Int) (hB:Byt zs) (j:Nat) (h:j≤(Cx.dec enc zs).length):off enc zs j≤zs.length:=(Cx.dec_cut enc he j zs hB h).1
theorem off_step (enc:Int) (he:Cx.En enc) (zs:List Int) (hB:Byt zs) (j:Nat) (h:j < (Cx.dec enc zs).length) :
  off enc zs j < zs.length∧∃ (a:Int) (s:Nat),Cx.fst enc (zs.drop (off enc zs j))=(a,(s:Int))∧(Cx.dec enc zs)[j]?=some a∧off enc zs (j + 1)=off enc zs j + s∧1≤s∧Cx.fits enc a=true∧Cx.size enc a=s:=by
 obtain ⟨h1,h2,h3⟩:=Cx.dec_cut enc he j zs hB (by omega)
 have e0:(Cx.encB enc ((Cx.dec enc zs).take j)).length=off enc zs j:=rfl
 rw [e0] at h1 h2 h3
 have hne:zs.drop (off enc zs j)≠[]:=by
  intro e
  rw [e,Cx.dec_nil] at h2
  have:=congrArg List.length h2
  rw [List.length_nil,List.length_drop] at this
  omega
 have hlt:off enc zs j < zs.length:=by
  have:0 < (zs.drop (off enc zs j)).length:=List.length_pos_iff.2 hne
  rw [List.length_drop] at this
  omega
 obtain ⟨a,s,hf,s1,s2,hp,hl,hfit,hd⟩:=Cx.dec_step enc he (zs.drop (off enc zs j)) (hB.drop _) hne
 have hj:(Cx.dec enc zs)[j]?=some a:=by
  have:=congrArg (fun l=>l[0]?) h2
  simp only [List.getElem?_drop,Nat.add_zero] at this
  rw [← this,hd];rfl
 refine ⟨hlt,a,s,hf,hj,?_,s1,hfit,?_⟩
 ·show (Cx.encB enc ((Cx.dec enc zs).take (j + 1))).length=_
  rw [List.take_add_one,hj,Option.toList_some,Cx.encB_app,List.length_append,e0]
  congr 1
  simp [Cx.encB,hl]
 ·unfold Cx.size;rw [if_pos hfit,hl]
theorem off_one (enc:Int) (he:Cx.En enc) (zs:List Int) (hB:Byt zs) (h:zs.length=(Cx.dec enc zs).length):∀ j,j≤(Cx.dec enc zs).length→off enc zs j=j:=by
 have lo:∀ j,j≤(Cx.dec enc zs).length→j≤off enc zs j:=by
  intro j
  induction j with
  | zero=>intro _;exact Nat.zero_le _
  | succ j ih =>
    intro hj
    obtain ⟨_,a,s,_,_,h1,h2,_⟩:=off_step enc he zs hB j (by omega)
    have:=ih (by omega)
    omega
 have hi:∀ d j,j + d=(Cx.dec enc zs).length→off enc zs j + d≤zs.length:=by
  intro d
  induction d with
  | zero=>intro j hj;rw [Nat.add_zero] at hj ⊢;exact off_le enc he zs hB j (by omega)
  | succ d ih =>
    intro j hj
    obtain ⟨_,a,s,_,_,h1,h2,_⟩:=off_step enc he zs hB j (by omega)
    have:=ih (j + 1) (by omega)
    omega
 intro j hj
 have h1:=lo j hj
 have h2:=hi ((Cx.dec enc zs).length - j) j (by omega)
 omega
set_option maxRecDepth 100000 in
set_option maxHeartbeats 1000000 in
theorem skip_any (enc:Int) (he:Cx.En enc) (x:It) (zs:List Int) (n:Nat) (w:World) (hR:Rd .u8 w (.slice x.p x.n x.c) zs) (hB:Byt zs) (hl:zs.length≤4611686018427387904) (ha:x.sp.a=(Cx.dec enc zs).length) (hn:n≤(Cx.dec enc zs).length) :
  Calls Tryz.prog 100 #[.agg #[.slice x.p x.n x.c,.int .i64 x.pl,.int .i64 x.sp.a,.int .i64 x.sp.s,.int .i64 x.sp.b,.bool x.sp.lf,.bool x.sp.cr],.int .i64 enc,.int .i64 n] w fun e w'=>e=.returned (.int .i64 (off enc zs n:Nat))∧Below w.heap.size w w':=by
 have hxn:x.n=zs.length:=by obtain ⟨_,_,e,_⟩:=hR;simp only [Value.slice.injEq] at e;exact e.2.1
 obtain ⟨p,xn,c,pl,⟨a,s,b,lf,cr⟩,ok⟩:=x
 simp only at *
 subst hxn
 have hdl:(Cx.dec enc zs).length≤zs.length:=Cx.dec_len enc _ _
 by_cases h1:zs.length=(Cx.dec enc zs).length
 ·have HE:=hidIt (off_one enc he zs hB h1 n hn)
  have hz:((zs.length:Int) == a)=true:=by rw [ha,h1];simp
  clear ha
  rw [HE.out]
  go_enter Tryz.func100,Tryz.ntmps100
  go_wp2_with fail
  go_ret
  exact ⟨rfl,ext_alloc (Below.refl _ _) _⟩
 ·have hz:((zs.length:Int) == a)=false:=by rw [ha];simp;omega
  have hz':¬ (zs.length:Int)=a:=by rw [ha];omega
  obtain ⟨w0,hw0⟩:∃ w0,w0=w.alloc (.cells #[.slice p zs.length c,.int .i64 pl,.int .i64 a,.int .i64 s,.int .i64 b,.bool lf,.bool cr] 122):=⟨_,rfl⟩
  have hb0:Below w.heap.size w w0:=by rw [hw0];exact ext_alloc (Below.refl _ _) _
  have HB0:=hidIt hb0
  have hX:w0.heap[w.heap.size]?=some (.cells #[.slice p zs.length c,.int .i64 pl,.int .i64 a,.int .i64 s,.int .i64 b,.bool lf,.bool cr] 122 (0,0)):=by rw [hw0];exact heap_alloc_new _ _
  have hzl:w.heap.size < w0.heap.size:=(Array.getElem?_eq_some_iff.1 hX).1
  have d0:w0.cell? ⟨w.heap.size,0,none⟩=some (.slice p zs.length c):=by rw [cell_of_row w0 _ _ _ _ _ hX];rfl
  have HC:Hid (∀ w',Below w0.heap.size w0 w'→w'.cell? ⟨w.heap.size,0,none⟩=some (.slice p zs.length c)∧Rd .u8 w' (.slice p zs.length c) zs):=fun w' h=>⟨(h.cell (p:=⟨w.heap.size,0,none⟩) hzl).trans d0,(hR.ext hb0).ext h⟩
  have ST:=hidIt (off_step enc he zs hB)
  have HLE:=hidIt (off_le enc he zs hB)
  have HBY:=hidIt hB
  have HEN:=hidIt he
  clear ha hX d0 hR hb0 hB he
  go_enter Tryz.func100,Tryz.ntmps100
  go_upto_region 4 with fail
  rw [← hw0]
  clear hw0
  go_wp2_with fail
  go_loopg [7,19] n (fun gk k p wr=>∃ j:Nat,j + gk=n∧k=.int .i64 (off enc zs j:Nat)∧p=.int .i64 (j:Nat)∧Hid (Below w0.heap.size w0 wr))
  case atStart=>exact ⟨0,by omega,rfl,rfl,Below.refl _ _⟩
  case round =>
   obtain ⟨j,hj,rfl,rfl,HB⟩:=hrel
   by_cases hi:j < n
   ·have hi':(j:Int) < (n:Int):=by omega
    obtain ⟨q1,q,sz,hf,hq,ho,hs1,hfit,hsz⟩:=ST.out j (by omega)
    have hle:=HLE.out (j + 1) (by omega)
    obtain ⟨c0,hrd⟩:=HC.out wr HB.out
    have NX:=hidIt (Next_any enc HEN.out _ zs (off enc zs j) wr hrd HBY.out q1)
    rw [hf] at NX
    have HO:=hidIt ho
    rw [ho] at hle
    clear hrd ho hq hfit hsz hf
    generalize off enc zs j=k at *
    go_wp2_with (go_at_call 52;refine NX.out.mono ?_;clear c0;rintro e w1 ⟨rfl,hb1⟩;have HB1:=hidIt (ext_trans HB.out hb1);clear hb1)
    go_roundg (n - (j + 1))
    case rel=>exact ⟨j + 1,by omega,by rw [HO.out];go_num,by go_num,HB1.out⟩
    case measure=>omega
   ·have hi':¬ (j:Int) < (n:Int):=by omega
    obtain rfl:j=n:=by omega
    have HBE:=hidIt (ext_trans HB0.out HB.out)
    go_wp2_with fail
    go_ret
    exact ⟨rfl,HBE.out⟩
end Go.Proofs.YtjjfakokakamaaaGreat.P

namespace Go.Proofs.YtjjfakokakamaaaGreat.P
open Go.RowKit
def bhd (s h:Rs) (nx:Int):Rs:=⟨s.a - h.a,s.s - h.s,s.b - h.b + (if h.cr=true∧nx=10 then 1 else 0),decide (nx=10),s.cr⟩
theorem spn_lf (enc y:Int) (l:List Int):(spn enc (y :: l)).lf=decide (y=10):=by
 rw [spn_cons]
 unfold Rs.add
 rw [if_neg (by simp [sg])]
 split
 ·rfl
 ·rfl
theorem spn_pos (enc:Int) (l:List Int) (h:l≠[]):0 < (spn enc l).a:=by
 cases l with
 | nil=>exact absurd rfl h
 | cons y l =>
   rw [spn_cons,(add_as _ _ (sg_ok y _ (size_nn enc y)) (spn_ok enc l)).1]
   have:=(spn_ok enc l).a0
   show 0 < (1:Int) + _
   omega
theorem spn_b (enc:Int) (l:List Int):(spn enc l).b≤l.length:=by
 induction l with
 | nil=>exact Int.le_refl _
 | cons x l ih =>
   rw [spn_cons,List.length_cons]
   have k:(sg x (Cx.size enc x)).b≤1:=by unfold sg;simp only;split <;> omega
   have m:=Rs.mlt_range (sg x (Cx.size enc x)) (spn enc l)
   unfold Rs.add
   split
   ·omega
   ·split
    ·omega
    ·simp only;omega
theorem bhd_spn (enc:Int) (h:List Int) (y:Int) (r:List Int) (hh:h≠[]):bhd (spn enc (h ++ y :: r)) (spn enc h) y=spn enc (y :: r):=by
 have p1:=spn_pos enc h hh
 have p2:=spn_pos enc (y :: r) (by simp)
 have hl:=spn_lf enc y r
 rw [spn_app]
 generalize spn enc h=a at *
 generalize spn enc (y :: r)=b at *
 unfold Rs.add
 rw [if_neg (by omega),if_neg (by omega)]
 unfold bhd Rs.mlt
 obtain ⟨b1,b2,b3,b4,b5⟩:=b
 simp only at *
 subst hl
 simp only [Rs.mk.injEq,decide_eq_true_eq]
 refine ⟨by omega,by omega,?_,by simp,by simp⟩
 split <;> omega
set_option maxRecDepth 100000 in
set_option maxHeartbeats 1000000 in
theorem behind_any (s h:Rs) (nx:Int) (w:World) (h1:0≤s.a - h.a∧s.a≤4611686018427387904∧0≤h.a) (h2:0≤s.s - h.s∧s.s≤4611686018427387904∧0≤h.s) (h3:-1≤s.b - h.b∧s.b≤4611686018427387904∧0≤h.b) :
  Calls Tryz.prog 103 #[.agg #[.int .i64 s.a,.int .i64 s.s,.int .i64 s.b,.bool s.lf,.bool s.cr],.agg #[.int .i64 h.a,.int .i64 h.s,.int .i64 h.b,.bool h.lf,.bool h.cr],.int .i64 nx] w fun e w'=>e=.returned (.agg #[.int .i64 (bhd s h nx).a,.int .i64 (bhd s h nx).s,.int .i64 (bhd s h nx).b,.bool (bhd s h nx).lf,.bool (bhd s h nx).cr])∧Below w.heap.size w w':=by
 obtain ⟨a1,s1,b1,f1,r1⟩:=s
 obtain ⟨a2,s2,b2,f2,r2⟩:=h
 simp only at *
 have MT:Hid (∀ w',Calls Tryz.prog 70 #[.agg #[.int .i64 a2,.int .i64 s2,.int .i64 b2,.bool f2,.bool r2],.agg #[.int .i64 (a1 - a2),.int .i64 (s1 - s2),.int .i64 (b1 - b2),.bool (decide (nx=10)),.bool r1]] w' fun e w''=>e=.returned (.bool (r2 && decide (nx=10)))∧Below w'.heap.size w' w''):=fun w'=>melt_any ⟨a2,s2,b2,f2,r2⟩ ⟨a1 - a2,s1 - s2,b1 - b2,decide (nx=10),r1⟩ w'
 obtain ⟨w4,hw4⟩:∃ w4,w4=(((w.alloc (.cells #[.int .i64 a1,.int .i64 s1,.int .i64 b1,.bool f1,.bool r1] 119)).alloc (.cells #[.int .i64 a2,.int .i64 s2,.int .i64 b2,.bool f2,.bool r2] 119)).alloc (.cells #[.int .i64 0,.int .i64 0,.int .i64 0,.bool false,.bool false] 119)).alloc (.cells #[.int .i64 (a1 - a2),.int .i64 (s1 - s2),.int .i64 (b1 - b2),.bool (decide (nx=10)),.bool r1] 119):=⟨_,rfl⟩
 have HB4:Hid (Below w.heap.size w w4):=by unfold Hid;rw [hw4];repeat (first | exact Below.refl _ _ | refine ext_alloc ?_ _)
 have K1:Hid (Blk 119 w4 (w.heap.size + 3) ⟨a1 - a2,s1 - s2,b1 - b2,decide (nx=10),r1⟩):=by
  unfold Hid Blk
  rw [hw4]
  have e:w.heap.size + 3=(((w.alloc (.cells #[.int .i64 a1,.int .i64 s1,.int .i64 b1,.bool f1,.bool r1] 119)).alloc (.cells #[.int .i64 a2,.int .i64 s2,.int .i64 b2,.bool f2,.bool r2] 119)).alloc (.cells #[.int .i64 0,.int .i64 0,.int .i64 0,.bool false,.bool false] 119)).heap.size:=by simp
  rw [e];exact heap_alloc_new _ _
 have K2:Hid (Blk 119 w4 (w.heap.size + 2) Rs.zero):=by
  unfold Hid
  rw [hw4]
  have e:w.heap.size + 2=((w.alloc (.cells #[.int .i64 a1,.int .i64 s1,.int .i64 b1,.bool f1,.bool r1] 119)).alloc (.cells #[.int .i64 a2,.int .i64 s2,.int .i64 b2,.bool f2,.bool r2] 119)).heap.size:=by simp
  rw [e]
  exact (Blk.new 119 _ Rs.zero).ext (ext_alloc (Below.refl _ _) _)
 obtain ⟨nb,hnb⟩:∃ nb:Bool,nb=decide (nx=10):=⟨_,rfl⟩
 have HNB:=hidIt hnb
 have hnb':(nx == 10)=nb:=by rw [hnb];rfl
 unfold bhd
 simp only
 rw [← hnb] at hw4 MT K1 ⊢
 have EB:Hid ((if r2=true∧nx=10 then (1:Int) else 0)=if (r2 && nb)=true then 1 else 0):=by unfold Hid;rw [hnb];simp only [Bool.and_eq_true,decide_eq_true_eq]
 rw [EB.out]
 clear hnb EB
 generalize (r2 && nb)=mb at MT ⊢
 go_enter Tryz.func103,Tryz.ntmps103
 go_wp2_with fail
 rw [← hw4]
 clear hw4
 refine (MT.out w4).mono ?_
 rintro e w5 ⟨rfl,hb5⟩
 have HB5:=hidIt (ext_trans HB4.out hb5)
 have G1:=hidIt (K1.out.ext hb5)
 have G2:=hidIt (K2.out.ext hb5)
 clear hb5 MT K1 K2 HB4
 obtain ⟨c0,_,_,_,cf⟩:=G1.out.cells
 obtain ⟨d0,_,_,_,df⟩:=G2.out.cells
 have l1:=G1.out.lt
 have l2:=G2.out.lt
 simp only at c0 d0
 cases mb
 ·go_wp2_with fail
  obtain ⟨p1,p2⟩:=G2.out.put ⟨a1 - a2,s1 - s2,b1 - b2,nb,r1⟩
  exact bodyPost_ret (v:=.agg #[.int .i64 (a1 - a2),.int .i64 (s1 - s2),.int .i64 (b1 - b2),.bool nb,.bool r1]) (by simp [results,Tryz.results103,go_sem,d0]) rfl ⟨by simp,below_put HB5.out HB5.out.size p2 (by omega)⟩
 ·go_wp2_with fail
  obtain ⟨n1,n2⟩:=set1 G1.out 2 (.int .i64 (b1 - b2 + 1))
  obtain ⟨p1,p2⟩:=(G2.out.other n2 (by omega)).put ⟨a1 - a2,s1 - s2,b1 - b2 + 1,nb,r1⟩
  have q1:(w5.setCell ⟨w.heap.size + 3,2,none⟩ (.int .i64 (b1 - b2 + 1))).heap.size=w5.heap.size:=by simp
  exact bodyPost_ret (v:=.agg #[.int .i64 (a1 - a2),.int .i64 (s1 - s2),.int .i64 (b1 - b2 + 1),.bool nb,.bool r1]) (by simp [results,Tryz.results103,go_sem,d0]) rfl ⟨by simp,below_put (below_put HB5.out HB5.out.size n2 (by omega)) (by rw [q1];exact HB5.out.size) p2 (by omega)⟩
end Go.Proofs.YtjjfakokakamaaaGreat.P

namespace Go.Proofs.YtjjfakokakamaaaGreat
theorem Cx.put_byt (enc a:Int) (hf:Cx.fits enc a=true):Byt (Cx.put enc a):=by
 have hfb:-256≤a∧a≤1114111∧(enc=4→a≤255):=by
  unfold Cx.fits Cx.isSc at hf
  repeat' split at hf
  all_goals simp at hf
  all_goals omega
 intro z hz
 unfold Cx.put Cx.put8 Cx.unit at hz
 repeat' split at hz
 all_goals simp at hz
 all_goals omega
theorem Cx.mean_put8 (a:Int) (h:Cx.isSc a=true):Cx.mean (Cx.put8 a)=a:=by
 have:=(Cx.sc_iff a).1 h
 rcases (show a < 128∨(128≤a∧a < 2048)∨(2048≤a∧a < 65536)∨65536≤a from by omega) with h | ⟨h,h'⟩ | ⟨h,h'⟩ | h
 ·rw [Cx.put8_1 a h];rfl
 ·rw [Cx.put8_2 a h h'];simp only [Cx.mean];omega
 ·rw [Cx.put8_3 a h h'];simp only [Cx.mean];omega
 ·rw [Cx.put8_4 a h];simp only [Cx.mean];omega
theorem Cx.read1 (a:Int) (r:List Int) (h:Cx.isSc a=true) (hr:Byt r):Cx.first8 (Cx.put 1 a ++ r)=(a,((Cx.put 1 a).length:Int)):=by
 have hs:=(Cx.sc_iff a).1 h
 have e:Cx.put 1 a=Cx.put8 a:=by unfold Cx.put;rw [if_neg (by omega),if_pos rfl]
 have hb:Byt (Cx.put 1 a ++ r):=by
  intro z hz
  rcases List.mem_append.1 hz with hz | hz
  ·exact Cx.put_byt 1 a (by unfold Cx.fits;rw [if_pos rfl,h,Bool.true_or]) z hz
  ·exact hr z hz
 have ht:(Cx.put 1 a ++ r).take (Cx.put 1 a).length=Cx.put8 a:=by rw [List.take_left',e];rfl
 have hl:=Cx.put_len 1 a
 have hm:Cx.mean ((Cx.put 1 a ++ r).take (Cx.put 1 a).length)=a:=by rw [ht,Cx.mean_put8 a h]
 have hh:Cx.hitB (Cx.put 1 a ++ r) (Cx.put 1 a).length=true:=by
  rw [Cx.hitB_iff _ _ a hm]
  refine ⟨by rw [List.length_append];omega,h,by rw [e],?_⟩
  rw [List.isPrefixOf_iff_prefix,e]
  exact List.prefix_append _ _
 rw [Cx.first8_hit _ hb _ hl.1 hl.2 hh,hm]
theorem Cx.wv_unit (enc u:Int) (r:List Int) (he:enc=2∨enc=3):Cx.wv (Cx.lowOf enc) (Cx.unit enc u ++ r)=u:=by
 rcases he with rfl | rfl
 ·simp only [Cx.wv,Cx.lowOf,Cx.unit,if_true,List.cons_append,List.nil_append,List.getElem?_cons_succ,List.getElem?_cons_zero,Option.getD_some]
  omega
 ·simp only [Cx.wv,Cx.lowOf,Cx.unit,show ¬ ((3:Int)=2) from by decide,show ¬ ((1:Int)=0) from by decide,if_false,List.cons_append,List.nil_append,List.getElem?_cons_succ,List.getElem?_cons_zero,Option.getD_some]
  omega
theorem Cx.unit_len (enc u:Int):(Cx.unit enc u).length=2:=by unfold Cx.unit;split <;> rfl
theorem Cx.read2 (enc a:Int) (r:List Int) (h:Cx.isSc a=true) (he:enc=2∨enc=3):Cx.first16 (Cx.lowOf enc) (Cx.put enc a ++ r)=(a,((Cx.put enc a).length:Int)):=by
 have hs:=(Cx.sc_iff a).1 h
 by_cases hb:65536≤a
 ·have e:Cx.put enc a=Cx.unit enc (55296 + (a - 65536) / 1024) ++ Cx.unit enc (56320 + a % 1024):=by
   unfold Cx.put;rw [if_neg (by omega),if_neg (by omega),if_neg (by omega),if_pos hb]
  have l1:=Cx.unit_len enc (55296 + (a - 65536) / 1024)
  have l2:=Cx.unit_len enc (56320 + a % 1024)
  rw [e,List.append_assoc]
  have e1:=Cx.wv_unit enc (55296 + (a - 65536) / 1024) (Cx.unit enc (56320 + a % 1024) ++ r) he
  have e2:Cx.wv (Cx.lowOf enc) ((Cx.unit enc (55296 + (a - 65536) / 1024) ++ (Cx.unit enc (56320 + a % 1024) ++ r)).drop 2)=56320 + a % 1024:=by
   rw [← l1,List.drop_left];exact Cx.wv_unit enc _ r he
  have hP:Cx.isP (Cx.lowOf enc) (Cx.unit enc (55296 + (a - 65536) / 1024) ++ (Cx.unit enc (56320 + a % 1024) ++ r))=true:=by
   unfold Cx.isP
   rw [e1,e2]
   unfold Cx.hiU Cx.loU
   simp only [List.length_append,l1,l2,Bool.and_eq_true,decide_eq_true_eq]
   omega
  unfold Cx.first16
  rw [if_neg (by simp only [List.length_append,l1,l2];omega),hP,if_pos rfl]
  unfold Cx.pairV
  rw [e1,e2,List.length_append,l1,l2]
  refine Prod.ext (by simp only;omega) rfl
 ·have e:Cx.put enc a=Cx.unit enc a:=by
   unfold Cx.put;rw [if_neg (by omega),if_neg (by omega),if_neg (by omega),if_neg hb]
  have l1:=Cx.unit_len enc a
  have e1:=Cx.wv_unit enc a r he
  rw [e]
  have hP:Cx.isP (Cx.lowOf enc) (Cx.unit enc a ++ r)=false:=by
   unfold Cx.isP
   rw [e1]
   have:Cx.hiU a=false:=by unfold Cx.hiU;simp;omega
   rw [this,Bool.and_false,Bool.false_and]
  unfold Cx.first16
  rw [if_neg (by simp only [List.length_append,l1];omega),hP,if_neg (by simp),e1,l1]
  rfl
theorem Cx.read (enc a:Int) (r:List Int) (h:Cx.isSc a=true) (hf:Cx.fits enc a=true) (hr:Byt r) (he:enc=1∨enc=2∨enc=3∨enc=4):Cx.fst enc (Cx.put enc a ++ r)=(a,((Cx.put enc a).length:Int)):=by
 rcases he with rfl | rfl | rfl | rfl
 ·exact Cx.read1 a r h hr
 ·exact Cx.read2 2 a r h (.inl rfl)
 ·exact Cx.read2 3 a r h (.inr rfl)
 ·have hs:=(Cx.sc_iff a).1 h
  have e:Cx.put 4 a=[a]:=by unfold Cx.put;rw [if_neg (by omega)];rfl
  rw [e];rfl
end Go.Proofs.YtjjfakokakamaaaGreat

namespace Go.Proofs.YtjjfakokakamaaaGreat
open Go.RowKit
theorem Cx.put_ne (enc a:Int):Cx.put enc a≠[]:=by
 unfold Cx.put Cx.put8 Cx.unit
 repeat' split
 all_goals simp
theorem Cx.fst_put16 (enc a:Int) (he:enc=2∨enc=3) (hf:-256≤a∧a≤1114111) (hns:¬ ((0≤a∧a < 55296)∨(57343 < a∧a≤1114111))):Cx.fst enc (Cx.put enc a)=(a,((Cx.put enc a).length:Int)):=by
 rw [Cx.fst_low enc _ he]
 by_cases h0:a < 0
 ·have hp:Cx.put enc a=[-1 - a]:=by unfold Cx.put;rw [if_pos h0]
  rw [hp]
  unfold Cx.first16
  rw [if_pos (show [-1 - a].length=1 from rfl)]
  simp [Cx.c0]
  omega
 ·have hp:Cx.put enc a=Cx.unit enc a:=by unfold Cx.put;rw [if_neg h0,if_neg (by omega),if_neg (by omega),if_neg (by omega)]
  have hl:=Cx.unit_len enc a
  have hw:=Cx.wv_unit enc a [] he
  rw [List.append_nil] at hw
  rw [hp]
  unfold Cx.first16
  rw [if_neg (by omega),hl]
  have hP:Cx.isP (Cx.lowOf enc) (Cx.unit enc a)=false:=by unfold Cx.isP;rw [hl];simp
  rw [hP,hw]
  rfl
theorem Cx.fst_put (enc a:Int) (he:Cx.En enc) (hf:Cx.fits enc a=true):Cx.fst enc (Cx.put enc a)=(a,((Cx.put enc a).length:Int)):=by
 by_cases hs:Cx.isSc a=true
 ·have:=Cx.read enc a [] hs hf (fun _ h=>by cases h) he
  rwa [List.append_nil] at this
 ·have hns:¬ ((0≤a∧a < 55296)∨(57343 < a∧a≤1114111)):=fun h=>hs ((Cx.sc_iff a).2 h)
  rcases he with rfl | rfl | rfl | rfl
  ·have hf':-256≤a∧a≤-129:=by
    unfold Cx.fits at hf
    simp [hs] at hf
    omega
   have hp:Cx.put 1 a=[-1 - a]:=by unfold Cx.put;rw [if_pos (by omega)]
   rw [hp]
   show Cx.first8 [-1 - a]=_
   rcases Cx.fst8_cases [-1 - a] with ⟨h1,h2,_⟩ | ⟨_,h2⟩
   ·have hm:Cx.mtch [-1 - a]=1:=by simp at h2;omega
    rw [Cx.mtch_eq] at hm
    split at hm
    ·unfold Cx.rowN Cx.c0 at hm
     simp at hm
     repeat' split at hm
     all_goals omega
    ·omega
   ·rw [h2]
    simp [Cx.c0]
    omega
  ·exact Cx.fst_put16 2 a (.inl rfl) (by unfold Cx.fits at hf;simp at hf;omega) hns
  ·exact Cx.fst_put16 3 a (.inr rfl) (by unfold Cx.fits at hf;simp at hf;omega) hns
  ·exfalso
   unfold Cx.fits at hf
   simp at hf
   omega
theorem Cx.dec_put (enc a:Int) (he:Cx.En enc) (hf:Cx.fits enc a=true):Cx.dec enc (Cx.put enc a)=[a]:=by
 rw [Cx.dec_cons enc (Cx.put enc a) (Cx.put_ne enc a) a _ (Cx.fst_put enc a he hf),List.drop_length,Cx.dec_nil]
theorem Cx.lst_put (enc a:Int) (he:Cx.En enc) (hf:Cx.fits enc a=true):(Cx.lst enc (Cx.put enc a)).1=a:=by
 obtain ⟨l,hl⟩:=Cx.dec_last enc he _ (Cx.put enc a) (Nat.le_refl _) (Cx.put_byt enc a hf) (Cx.put_ne enc a)
 rw [Cx.dec_put enc a he hf] at hl
 have:=congrArg List.getLast? hl
 simp at this
 exact this.symm
end Go.Proofs.YtjjfakokakamaaaGreat

namespace Go.Proofs.YtjjfakokakamaaaGreat.P
open Go.RowKit
structure Gr (enc:Int) (g:List Int):Prop where
 ne:g≠[]
 fit:∀ a ∈ g,Cx.fits enc a=true
 dec:Cx.dec enc (Cx.encB enc g)=g
def ln (enc:Int) (g:List Int):Nat:=(Cx.encB enc g).length
theorem ln_nil (enc:Int):ln enc []=0:=rfl
theorem ln_app (enc:Int) (a b:List Int):ln enc (a ++ b)=ln enc a + ln enc b:=by unfold ln;rw [Cx.encB_app,List.length_append]
theorem ln_one (enc a:Int):ln enc [a]=(Cx.put enc a).length:=by simp [ln,Cx.encB]
theorem ln_cons (enc a:Int) (l:List Int):ln enc (a :: l)=(Cx.put enc a).length + ln enc l:=by unfold ln;rw [Cx.encB_cons,List.length_append]
theorem ln_ge (enc:Int) (g:List Int):g.length≤ln enc g:=by
 induction g with
 | nil=>exact Nat.le_refl _
 | cons a g ih=>rw [ln_cons,List.length_cons];have:=(Cx.put_len enc a).1;omega
theorem ln_le (enc:Int) (g:List Int):ln enc g≤4 * g.length:=by
 induction g with
 | nil=>exact Nat.le_refl _
 | cons a g ih=>rw [ln_cons,List.length_cons];have:=(Cx.put_len enc a).2;omega
theorem encB_byt (enc:Int) (g:List Int) (h:∀ a ∈ g,Cx.fits enc a=true):Byt (Cx.encB enc g):=by
 induction g with
 | nil=>intro z hz;cases hz
 | cons a g ih =>
   rw [Cx.encB_cons]
   intro z hz
   rcases List.mem_append.1 hz with h1 | h1
   ·exact Cx.put_byt enc a (h a List.mem_cons_self) z h1
   ·exact ih (fun b hb=>h b (List.mem_cons_of_mem _ hb)) z h1
theorem size_fit (enc a:Int) (h:Cx.fits enc a=true):Cx.size enc a=(Cx.put enc a).length:=by unfold Cx.size;rw [if_pos h]
theorem Gr.one {enc a:Int} (he:Cx.En enc) (h:Cx.fits enc a=true):Gr enc [a]:=⟨by simp,by simpa using h,by rw [show Cx.encB enc [a]=Cx.put enc a by simp [Cx.encB]];exact Cx.dec_put enc a he h⟩
theorem Gr.snoc {enc a:Int} {g:List Int} (he:Cx.En enc) (hg:Gr enc g) (h:Cx.fits enc a=true) (hl:(Cx.lst enc (Cx.encB enc (g ++ [a]))).1=a):Gr enc (g ++ [a]):=by
 refine ⟨by simp,fun b hb=>(List.mem_append.1 hb).elim (hg.fit b) (fun e=>by rw [List.mem_singleton] at e;subst e;exact h),?_⟩
 have e:Cx.encB enc (g ++ [a])=Cx.encB enc g ++ Cx.put enc a:=by rw [Cx.encB_app];simp [Cx.encB]
 rw [e] at hl ⊢
 rw [Cx.dec_snoc enc he _ a (encB_byt enc g hg.fit) (Cx.put_byt enc a h) (Cx.put_ne enc a) hl,hg.dec]
theorem Gr.pos {enc:Int} {g:List Int} (h:Gr enc g):0 < g.length:=List.length_pos_iff.2 h.ne
theorem Gr.lpos {enc:Int} {g:List Int} (h:Gr enc g):0 < ln enc g:=Nat.lt_of_lt_of_le h.pos (ln_ge enc g)
theorem Gr.byt {enc:Int} {g:List Int} (h:Gr enc g):Byt (Cx.encB enc g):=encB_byt enc g h.fit
theorem spn_a (enc:Int) (g:List Int) (h:∀ a ∈ g,Cx.fits enc a=true):(spn enc g).a=g.length∧(spn enc g).s=ln enc g:=spn_as enc g h
theorem off_gr {enc:Int} {g:List Int} (h:Gr enc g) (j:Nat):off enc (Cx.encB enc g) j=ln enc (g.take j):=by unfold off;rw [h.dec];rfl
theorem Gr.cut {enc:Int} {g:List Int} (he:Cx.En enc) (h:Gr enc g) (n:Nat) (h0:0 < n) (hn:n < g.length):Gr enc (g.take n)∧Gr enc (g.drop n):=by
 obtain ⟨k1,k2,k3⟩:=Cx.dec_cut enc he n (Cx.encB enc g) h.byt (by rw [h.dec];omega)
 rw [h.dec] at k1 k2 k3
 have e:Cx.encB enc g=Cx.encB enc (g.take n) ++ Cx.encB enc (g.drop n):=by rw [← Cx.encB_app,List.take_append_drop]
 refine ⟨⟨fun e=>?_,fun a ha=>h.fit a (List.mem_of_mem_take ha),?_⟩,⟨fun e=>?_,fun a ha=>h.fit a (List.mem_of_mem_drop ha),?_⟩⟩
 ·have:=congrArg List.length e;rw [List.length_take,List.length_nil] at this;omega
 ·rw [e,List.take_left' rfl] at k3;exact k3
 ·have:=congrArg List.length e;rw [List.length_drop,List.length_nil] at this;omega
 ·rw [e,List.drop_left' rfl] at k2;exact k2
theorem Gr.load {enc:Int} (he:Cx.En enc) {L:List Int} (hL:Byt L) {g:List Int} {i:Nat} (hg:((Cx.dec enc L).drop i).take g.length=g) (hi:i + g.length≤(Cx.dec enc L).length) (hn:g≠[]) :
  Gr enc g∧(L.drop (off enc L i)).take (ln enc g)=Cx.encB enc g∧off enc L i + ln enc g=off enc L (i + g.length)∧off enc L i + ln enc g≤L.length:=by
 obtain ⟨b1,b2⟩:=Cx.back_all enc he _ L (Nat.le_refl _) hL
 obtain ⟨k1,k2,k3⟩:=Cx.dec_cut enc he i L hL (by omega)
 have e0:(Cx.encB enc ((Cx.dec enc L).take i)).length=off enc L i:=rfl
 rw [e0] at k1 k2 k3
 have hfit:∀ a ∈ g,Cx.fits enc a=true:=fun a ha=>by rw [← hg] at ha;exact b2 a (List.mem_of_mem_drop (List.mem_of_mem_take ha))
 obtain ⟨m1,m2,m3⟩:=Cx.dec_cut enc he g.length (L.drop (off enc L i)) (hL.drop _) (by rw [k2,List.length_drop];omega)
 rw [k2,hg] at m1 m2 m3
 have e1:(Cx.encB enc g).length=ln enc g:=rfl
 rw [e1] at m1 m2 m3
 have e2:(L.drop (off enc L i)).take (ln enc g)=Cx.encB enc g:=by
  have:=(Cx.back_all enc he _ ((L.drop (off enc L i)).take (ln enc g)) (Nat.le_refl _) ((hL.drop _).take _)).1
  rw [m3] at this
  exact this.symm
 rw [List.length_drop] at m1
 refine ⟨⟨hn,hfit,?_⟩,e2,?_,by omega⟩
 ·rw [← e2];exact m3
 ·unfold off
  rw [show (Cx.dec enc L).take (i + g.length)=(Cx.dec enc L).take i ++ g by rw [List.take_add,hg],Cx.encB_app,List.length_append]
  rfl
def mkx (enc:Int) (b o pl:Nat) (g:List Int):It:=⟨some ⟨b,o + pl,none⟩,ln enc g,ln enc g,(pl:Int),spn enc g,spn_ok enc g⟩
def mks (enc:Int) (b o:Nat):Nat→List (List Int)→List It
 | _,[]=>[]
 | pl,g :: gs=>mkx enc b o pl g :: mks enc b o (pl + ln enc g) gs
theorem mks_snoc (enc:Int) (b o:Nat) (g:List Int):∀ (gs:List (List Int)) (pl:Nat),mks enc b o pl (gs ++ [g])=mks enc b o pl gs ++ [mkx enc b o (pl + ln enc gs.flatten) g]:=by
 intro gs
 induction gs with
 | nil=>intro pl;rfl
 | cons h gs ih =>
   intro pl
   rw [List.cons_append,mks,ih,mks,List.cons_append,List.flatten_cons,ln_app,Nat.add_assoc]
theorem mks_len (enc:Int) (b o:Nat):∀ (gs:List (List Int)) (pl:Nat),(mks enc b o pl gs).length=gs.length:=by
 intro gs
 induction gs with
 | nil=>intro pl;rfl
 | cons h gs ih=>intro pl;rw [mks,List.length_cons,ih,List.length_cons]
def ctn (enc:Int):Int→List Int→List (Int × Int)
 | _,[]=>[]
 | pl,a :: g=>(a,pl) :: ctn enc (tg pl ((Cx.put enc a).length:Nat)) g
theorem tg_new (k:Int):tg (-1) k=-1:=rfl
theorem tg_tg (pl:Int) (h:-1≤pl) (j k:Int) (hj:0≤j):tg (tg pl j) k=tg pl (j + k):=by
 unfold tg
 by_cases e:pl=-1
 ·rw [if_pos e,if_pos rfl,if_pos e]
 ·rw [if_neg e,if_neg (by omega),if_neg e];omega
theorem tg_zero (pl:Int):tg pl 0=pl:=by unfold tg;split <;> omega
theorem tg_ge (pl:Int) (h:-1≤pl) (j:Int) (hj:0≤j):-1≤tg pl j:=by unfold tg;split <;> omega
theorem ctn_app (enc:Int) (b:List Int):∀ (a:List Int) (pl:Int),-1≤pl→ctn enc pl (a ++ b)=ctn enc pl a ++ ctn enc (tg pl (ln enc a:Nat)) b:=by
 intro a
 induction a with
 | nil=>intro pl _;rw [ln_nil];show _=ctn enc (tg pl 0) b;rw [tg_zero];rfl
 | cons x a ih =>
   intro pl h
   rw [List.cons_append,ctn,ih _ (tg_ge pl h _ (by omega)),tg_tg pl h _ _ (by omega),ctn,List.cons_append,ln_cons]
   congr 4
theorem ctn_len (enc:Int):∀ (g:List Int) (pl:Int),(ctn enc pl g).length=g.length:=by
 intro g
 induction g with
 | nil=>intro pl;rfl
 | cons a g ih=>intro pl;rw [ctn,List.length_cons,ih,List.length_cons]
theorem ctn_fst (enc:Int):∀ (g:List Int) (pl:Int),(ctn enc pl g).map Prod.fst=g:=by
 intro g
 induction g with
 | nil=>intro pl;rfl
 | cons a g ih=>intro pl;rw [ctn,List.map_cons,ih]
theorem ctn_take (enc:Int) (g:List Int) (pl:Int) (h:-1≤pl) (n:Nat):(ctn enc pl g).take n=ctn enc pl (g.take n)∧(ctn enc pl g).drop n=ctn enc (tg pl (ln enc (g.take n):Nat)) (g.drop n):=by
 have e:=ctn_app enc (g.drop n) (g.take n) pl h
 rw [List.take_append_drop] at e
 by_cases hn:n≤g.length
 ·have hl:(ctn enc pl (g.take n)).length=n:=by rw [ctn_len,List.length_take];omega
  rw [e]
  exact ⟨List.take_left' hl,List.drop_left' hl⟩
 ·rw [List.take_of_length_le (by rw [ctn_len];omega),List.drop_eq_nil_of_le (by rw [ctn_len];omega),List.take_of_length_le (by omega),List.drop_eq_nil_of_le (by omega)]
  exact ⟨rfl,rfl⟩
theorem ctn_new (enc:Int) (g:List Int):ctn enc (-1) g=g.map fun a=>(a,-1):=by
 induction g with
 | nil=>rfl
 | cons a g ih=>rw [ctn,tg_new,ih,List.map_cons]
end Go.Proofs.YtjjfakokakamaaaGreat.P

namespace Go.Proofs.YtjjfakokakamaaaGreat.P
open Go.RowKit
structure Kps (own:Nat→Prop) (W W':World):Prop where
 os:W'.os=W.os
 tape:W'.tape=W.tape
 output:W'.output=W.output
 size:W.heap.size≤W'.heap.size
 same:∀ k,k < W.heap.size→¬ own k→W'.heap[k]?=W.heap[k]?
theorem Kps.refl (own:Nat→Prop) (W:World):Kps own W W:=⟨rfl,rfl,rfl,Nat.le_refl _,fun _ _ _=>rfl⟩
theorem Kps.trans {o p:Nat→Prop} {A B C:World} (h:Kps o A B) (k:Kps p B C) (hp:∀ i,i < A.heap.size→p i→o i):Kps o A C :=
 ⟨k.os.trans h.os,k.tape.trans h.tape,k.output.trans h.output,Nat.le_trans h.size k.size,fun i hi ho=>(k.same i (Nat.lt_of_lt_of_le hi h.size) (fun e=>ho (hp i hi e))).trans (h.same i hi ho)⟩
theorem Kps.below {o:Nat→Prop} {A B:World} (h:Kps o A B) {n:Nat} (hn:n≤A.heap.size) (ho:∀ k,o k→n≤k):Below n A B :=
 ⟨h.os,h.tape,h.output,h.size,fun k hk=>h.same k (Nat.lt_of_lt_of_le hk hn) (fun e=>by have:=ho k e;omega)⟩
theorem Kps.of_below {A B:World} (o:Nat→Prop) (h:Below A.heap.size A B):Kps o A B:=⟨h.os,h.tape,h.output,h.size,fun k hk _=>h.block k hk⟩
theorem Kps.put {o:Nat→Prop} {A:World} {r:Nat} (x:Obj) (hr:o r):Kps o A (A.putObj r x) :=
 ⟨rfl,rfl,rfl,by simp,fun k _ hk=>World.putObj_heap_other (fun e=>hk (e ▸ hr))⟩
theorem Kps.mono {o p:Nat→Prop} {A B:World} (h:Kps o A B) (hp:∀ i,i < A.heap.size→o i→p i):Kps p A B:=⟨h.os,h.tape,h.output,h.size,fun k hk hn=>h.same k hk (fun e=>hn (hp k hk e))⟩
theorem Kps.grown {o:Nat→Prop} {A B:World} {row:Option Nat} (h:A.grownBy B row) (hr:∀ k,row=some k→k < A.heap.size→o k):Kps o A B :=
 ⟨h.os,h.tape,h.output,h.size,fun k hk hn=>h.block k hk (fun e=>hn (hr k e.symm hk))⟩
structure Guest (σ α:Type) where
 own:σ→Nat→Prop
 J:σ→List α→World→Prop
 Jx:σ→List α→World→Prop
 lean:Nat→Prop
 stay:∀ s pre W W',J s pre W→W.heap.size≤W'.heap.size→(∀ k,own s k∨lean k→W'.heap[k]?=W.heap[k]?)→J s pre W'
 stayx:∀ s pre W W',Jx s pre W→W.heap.size≤W'.heap.size→(∀ k,own s k∨lean k→W'.heap[k]?=W.heap[k]?)→Jx s pre W'
 lives:∀ s pre W,J s pre W→∀ k,own s k→k < W.heap.size
def Newer {σ:Type} (own:σ→Nat→Prop) (s s':σ) (W:World):Prop:=∀ k,own s' k→own s k∨W.heap.size≤k
def SeqX {α:Type} (F:Fence) (n:Nat) (P:Program) (g:Nat) (lb:Array Value) (encs:α→Array Value) (rel:Nat→Prop) (S Sp:List α→Prop) (w:World):Prop :=
 ∀ (l:Nat) (σ:Type) (G:Guest σ α) (s:σ) (W:World),Kps (fun k=>¬ rel k) w W→(∀ k,rel k→k < w.heap.size∧¬ G.own s k)→(∀ k,G.lean k→k < W.heap.size) →
   (∀ s pre x W1,G.J s pre W1→Sp (pre ++ [x])→YieldAt F (n - 1) P l (encs x) W1 fun e W' =>
    (e=.returned (.bool true)∧∃ s',G.J s' (pre ++ [x]) W'∧Kps (G.own s) W1 W'∧Newer G.own s s' W1)∨(e=.returned (.bool false)∧∃ s',G.Jx s' (pre ++ [x]) W'∧Kps (G.own s) W1 W'∧Newer G.own s s' W1)) →
   G.J s [] W →
   CallsIn F n P g (#[.func (.yield l) #[] #[]] ++ lb) W fun e W'=>(∃ v,e=.returned v)∧∃ s',Kps (G.own s) W W'∧Newer G.own s s' W∧((∃ xs,S xs∧G.J s' xs W')∨(∃ pre,Sp pre∧G.Jx s' pre W'))
def postX {σ α:Type} (own:σ→Nat→Prop) (I:σ→List α→World→Prop) (Ix:Code→σ→List α→World→Prop) (s:σ) (xs:List α) (W:World):Exit→Act→World→Prop
 | .normal,_,W'=>∃ s',I s' xs W'∧Kps (own s) W W'∧Newer own s s' W
 | .ret,_,W'=>∃ s',Ix .ret s' xs W'∧Kps (own s) W W'∧Newer own s s' W
 | .exit id,_,W'=>∃ s',Ix (.exit id) s' xs W'∧Kps (own s) W W'∧Newer own s s' W
 | .goto t,_,W'=>∃ s',Ix (.goto t) s' xs W'∧Kps (own s) W W'∧Newer own s s' W
 | .panic _,_,_=>False
 | .outgrown,_,_=>False
variable {F:Fence} {n:Nat} {P:Program}
set_option maxHeartbeats 1000000 in
theorem range_x {σ α:Type} {g:Operand} {ps:Array Tmp} {assign body:Code} {Q:Exit→Act→World→Prop} {a:Act} {w:World}
  (hro:F.round=none) (h1:1≤n) {gf:Nat} {lb:Array Value} (hg:a.eval g=.func (.func gf) #[] lb) (hFg:F.fn gf) (eg:∀ args w,(callFunc gf args).run P w=.ok (.enter gf args) w)
  {encs:α→Array Value} {rel:Nat→Prop} {S Sp:List α→Prop} {w0:World} (hseq:SeqX F (n - 1) P gf lb encs rel S Sp w0) (hrw:Kps (fun k=>¬ rel k) w0 w) (hps:∀ x,(encs x).size=ps.size)
  (own:σ→Nat→Prop) (I:σ→List α→World→Prop) (Ix:Code→σ→List α→World→Prop) (s0:σ) (hrel:∀ k,rel k→k < w0.heap.size∧¬ own s0 k)
  (lean:Nat→Prop) (hln:∀ k,lean k→k < w.heap.size)
  (hI:∀ s pre W W',I s pre W→W.heap.size≤W'.heap.size→(∀ k,own s k∨lean k→W'.heap[k]?=W.heap[k]?)→I s pre W')
  (hIx:∀ c s pre W W',Ix c s pre W→W.heap.size≤W'.heap.size→(∀ k,own s k∨lean k→W'.heap[k]?=W.heap[k]?)→Ix c s pre W')
  (hlv:∀ s pre W,I s pre W→∀ k,own s k→k < W.heap.size) (h0:I s0 [] w) (Ax:α→Act→World→Prop) (hAx:∀ x a' W W',Ax x a' W→W.heap.size≤W'.heap.size→(∀ k,w.heap.size + 2≤k→k < W.heap.size→W'.heap[k]?=W.heap[k]?)→Ax x a' W')
  (hassign:∀ (l:Nat) (x:α) (W:World) (K:Act→World→Prop),w.heap.size + 2≤W.heap.size→(∀ a' W',Below W.heap.size W W'→Ax x a' W'→K a' W') →
   assign.wpIn (F.inRound l) (n - 1 - 1) P (Exit.then K (fun _ _ _=>False)) { tmps:=(ps.zip (encs x)).foldl (fun t (p,v)=>t.setIfInBounds p v) a.tmps,defers:=[] } W)
  (hbody:∀ (l:Nat) (s:σ) (pre:List α) (x:α) (a':Act) (W:World),I s pre W→Ax x a' W→Sp (pre ++ [x])→w.heap.size + 2≤W.heap.size→body.wpIn (F.inRound l) (n - 1 - 1) P (postX own I Ix s (pre ++ [x]) W) a' W)
  (hdone:∀ (s:σ) (xs:List α) (W:World),Kps (own s0) w W→Newer own s0 s w→S xs→I s xs W→W.heap[w.heap.size]?=some (.deferred (some []))→¬ own s w.heap.size→Q .normal { a with defers:={ target:=.collected w.heap.size,args:=#[] } :: a.defers } W)
  (hstop:∀ (c:Code) (s:σ) (pre:List α) (W:World),Kps (own s0) w W→Newer own s0 s w→Sp pre→Ix c s pre W→W.heap[w.heap.size]?=some (.deferred (some []))→¬ own s w.heap.size→c.wpIn F n P Q { a with defers:={ target:=.collected w.heap.size,args:=#[] } :: a.defers } W) :
  (Code.rangeFunc g ps assign body).wpIn F n P Q a w:=by
 refine wpIn_rangeFunc fun fn hfn=>?_
 rw [hro]
 obtain ⟨rec,hrec⟩:∃ rec:LoopState→Option Code→Loop,rec=fun st pe=>{ state:=st,pending:=pe,fn,tmps:=a.tmps,params:=ps,assign,body,defers:=w.heap.size }:=⟨_,rfl⟩
 obtain ⟨W1,hW1⟩:∃ W1,(w.alloc (.deferred (some []))).alloc (.loop (rec .ready none))=W1:=⟨_,rfl⟩
 have bW:Below w.heap.size w W1:=by rw [← hW1];exact ext_alloc (ext_alloc (Below.refl _ _) _) _
 have sW:W1.heap.size=w.heap.size + 2:=by rw [← hW1];simp
 have hL1:W1.heap[w.heap.size + 1]?=some (.loop (rec .ready none)):=by
  rw [← hW1]
  have:=World.alloc_heap_new (w.alloc (.deferred (some []))) (.loop (rec .ready none))
  rwa [World.size_alloc] at this
 have hD1:W1.heap[w.heap.size]?=some (.deferred (some [])):=by
  rw [← hW1]
  exact (Below.heap_alloc _ _ _ (by simp)).trans (World.alloc_heap_new w _)
 -- what the caller owns besides: the record and the block for the rounds' deferred calls
 let G:Guest σ α:={
  own:=fun s k=>own s k∨k=w.heap.size∨k=w.heap.size + 1
  J:=fun s pre W=>I s pre W∧(∀ k,own s k→k≠w.heap.size∧k≠w.heap.size + 1)∧W.heap[w.heap.size + 1]?=some (.loop (rec .ready none))∧W.heap[w.heap.size]?=some (.deferred (some []))∧w.heap.size + 2≤W.heap.size
  Jx:=fun s pre W=>∃ c,Ix c s pre W∧(∀ k,own s k→k≠w.heap.size∧k≠w.heap.size + 1)∧W.heap[w.heap.size + 1]?=some (.loop (rec .done (some c)))∧W.heap[w.heap.size]?=some (.deferred (some []))∧w.heap.size + 2≤W.heap.size
  lean:=lean
  stay:=fun s pre W W' h hs hk=>⟨hI s pre W W' h.1 hs (fun k ho=>ho.elim (fun o=>hk k (.inl (.inl o))) (fun q=>hk k (.inr q))),h.2.1,(hk _ (.inl (.inr (.inr rfl)))).trans h.2.2.1,(hk _ (.inl (.inr (.inl rfl)))).trans h.2.2.2.1,Nat.le_trans h.2.2.2.2 hs⟩
  stayx:=fun s pre W W' h hs hk=>by
   obtain ⟨c,h1,h2,h3,h4,h5⟩:=h
   exact ⟨c,hIx c s pre W W' h1 hs (fun k ho=>ho.elim (fun o=>hk k (.inl (.inl o))) (fun q=>hk k (.inr q))),h2,(hk _ (.inl (.inr (.inr rfl)))).trans h3,(hk _ (.inl (.inr (.inl rfl)))).trans h4,Nat.le_trans h5 hs⟩
  lives:=fun s pre W h k ho=>by
   rcases ho with ho | rfl | rfl
   ·exact hlv s pre W h.1 k ho
   ·have:=h.2.2.2.2;omega
   ·have:=h.2.2.2.2;omega }
 have ap0:∀ k,own s0 k→k < w.heap.size:=fun k ho=>hlv s0 [] w h0 k ho
 refine ⟨w.heap.size + 1,[{ target:=.collected w.heap.size,args:=#[] }],W1,{ target:=.fn (.func gf) lb,args:=#[.func (.yield (w.heap.size + 1)) #[] #[]] },W1,gf,
  #[.func (.yield (w.heap.size + 1)) #[] #[]] ++ lb,W1,?_,?_,?_,?_,fun _=>h1,?_⟩
 ·rw [← hW1,hrec];exact run_enterLoop_outer _ _ _ _ _
 ·simp only [resolve,hg]
  simp [go_sem]
 ·intro f' hf'
  simp [Target.leads] at hf'
  subst hf'
  exact hFg
 ·simp [invoke,go_sem,eg]
 ·refine (hseq (w.heap.size + 1) σ G s0 W1 (hrw.trans (Kps.of_below (fun k=>¬ rel k) bW) (fun _ _ e=>e)) (fun k hk=>?_) (fun k hk=>Nat.lt_of_lt_of_le (hln k hk) bW.size) ?_ ?_).mono ?_
  ·obtain ⟨k1,k2⟩:=hrel k hk
   have hsz:=hrw.size
   refine ⟨k1,?_⟩
   rintro (h | rfl | rfl)
   ·exact k2 h
   ·omega
   ·omega
  ·-- a round
   rintro s pre x W ⟨hi,hap,hl,hk,hz⟩ hlen
   have hy:=run_yield (P:=P) (args:=encs x) hl (by rw [hrec];exact hps x)
   rw [hrec] at hy
   refine ⟨fn,_,assign,body,hy,roundIn_of_wpIn hfn (hassign _ x W _ hz fun a' Wa bA hax=>?_)⟩
   have za:=bA.size
   have hla:Wa.heap[w.heap.size + 1]?=some (.loop (rec .ready none)):=(bA.block _ (by omega)).trans hl
   have hka:Wa.heap[w.heap.size]?=some (.deferred (some [])):=(bA.block _ (by omega)).trans hk
   refine ⟨_,run_beginRound hla (by rw [hrec]),?_⟩
   obtain ⟨W2,hW2⟩:∃ W2,Wa.putObj (w.heap.size + 1) (.loop { rec .ready none with state:=.busy })=W2:=⟨_,rfl⟩
   rw [hW2]
   have k2:Kps (G.own s) W W2:=by rw [← hW2];exact Kps.trans (Kps.of_below _ bA) (Kps.put (o:=G.own s) _ (.inr (.inr rfl))) (fun _ _ e=>e)
   have z2:W2.heap.size=Wa.heap.size:=by rw [← hW2];simp
   have l2:W2.heap[w.heap.size + 1]?=some (.loop { rec .ready none with state:=.busy }):=by rw [← hW2];exact World.putObj_heap_same (by omega)
   have d2:W2.heap[w.heap.size]?=some (.deferred (some [])):=by rw [← hW2];exact (World.putObj_heap_other (by omega)).trans hka
   have i2:I s pre W2:=hI s pre W W2 hi (by omega) (fun k ho=>by
    rw [← hW2]
    rcases ho with ho | ho
    ·exact (World.putObj_heap_other (hap k ho).2).trans (bA.block k (hlv s pre W hi k ho))
    ·have:=hln k ho
     exact (World.putObj_heap_other (by omega)).trans (bA.block k (by omega)))
   have a2:Ax x a' W2:=hAx x a' Wa W2 hax (by omega) (fun k hk _=>by rw [← hW2];exact World.putObj_heap_other (by omega))
   refine wpIn_mono (hbody _ s pre x a' W2 i2 a2 hlen (by omega)) ?_
   -- the round's end,whichever it is
   have fin:∀ (jump:Option Code) (s':σ) (W3:World),Kps (own s) W2 W3→Newer own s s' W2 →
     ∃ W4,(Instr.endRound (w.heap.size + 1) jump).run P W3=.ok (.bool jump.isNone) W4∧W4.heap[w.heap.size + 1]?=some (.loop (rec (if jump.isNone then .ready else .done) jump))∧W4.heap[w.heap.size]?=some (.deferred (some [])) ∧
       W3.heap.size≤W4.heap.size∧w.heap.size + 2≤W4.heap.size∧(∀ k,own s' k→k≠w.heap.size∧k≠w.heap.size + 1)∧(∀ k,own s' k∨lean k→W4.heap[k]?=W3.heap[k]?)∧Kps (G.own s) W W4∧Newer G.own s s' W:=fun jump s' W3 k3 n3=>by
    have l3:W3.heap[w.heap.size + 1]?=some (.loop { rec .ready none with state:=.busy }):=(k3.same _ (by omega) (fun e=>(hap _ e).2 rfl)).trans l2
    have d3:W3.heap[w.heap.size]?=some (.deferred (some [])):=(k3.same _ (by omega) (fun e=>(hap _ e).1 rfl)).trans d2
    have z3:=k3.size
    have hap':∀ k,own s' k→k≠w.heap.size∧k≠w.heap.size + 1:=fun k ho=>by
     rcases n3 k ho with h | h
     ·exact hap k h
     ·omega
    have hr:=run_endRound (P:=P) jump l3
    refine ⟨_,hr,?_,?_,by simp,by simp;omega,hap',fun k ho=>World.putObj_heap_other (ho.elim (fun o=>(hap' k o).2) (fun q=>by have:=hln k q;omega)),?_,?_⟩
    ·rw [hrec];exact World.putObj_heap_same (by omega)
    ·exact (World.putObj_heap_other (by omega)).trans d3
    ·refine Kps.trans (Kps.trans k2 k3 (fun i _ e=>.inl e)) (Kps.put (o:=G.own s) _ (.inr (.inr rfl))) (fun i _ e=>e)
    ·intro k ho
     rcases ho with ho | ho | ho
     ·rcases n3 k ho with h | h
      ·exact .inl (.inl h)
      ·exact .inr (by omega)
     ·exact .inl (.inr (.inl ho))
     ·exact .inl (.inr (.inr ho))
   rintro e a3 W3 hp
   cases e with
   | normal =>
     obtain ⟨s',hi3,k3,n3⟩:=hp
     obtain ⟨W4,hr,q1,q2,q3,q4,q5,q6,q7,q8⟩:=fin none s' W3 k3 n3
     exact ⟨_,_,hr,.inl ⟨rfl,s',⟨hI s' _ W3 W4 hi3 q3 q6,q5,q1,q2,q4⟩,q7,q8⟩⟩
   | ret =>
     obtain ⟨s',hi3,k3,n3⟩:=hp
     obtain ⟨W4,hr,q1,q2,q3,q4,q5,q6,q7,q8⟩:=fin (some .ret) s' W3 k3 n3
     exact ⟨_,_,hr,.inr ⟨rfl,s',⟨_,hIx _ s' _ W3 W4 hi3 q3 q6,q5,q1,q2,q4⟩,q7,q8⟩⟩
   | exit id =>
     obtain ⟨s',hi3,k3,n3⟩:=hp
     obtain ⟨W4,hr,q1,q2,q3,q4,q5,q6,q7,q8⟩:=fin (some (.exit id)) s' W3 k3 n3
     exact ⟨_,_,hr,.inr ⟨rfl,s',⟨_,hIx _ s' _ W3 W4 hi3 q3 q6,q5,q1,q2,q4⟩,q7,q8⟩⟩
   | goto t =>
     obtain ⟨s',hi3,k3,n3⟩:=hp
     obtain ⟨W4,hr,q1,q2,q3,q4,q5,q6,q7,q8⟩:=fin (some (.goto t)) s' W3 k3 n3
     exact ⟨_,_,hr,.inr ⟨rfl,s',⟨_,hIx _ s' _ W3 W4 hi3 q3 q6,q5,q1,q2,q4⟩,q7,q8⟩⟩
   | panic ch=>exact hp.elim
   | outgrown=>exact hp.elim
  ·exact ⟨hI s0 [] w W1 h0 (by omega) (fun k ho=>bW.block k (ho.elim (ap0 k) (hln k))),fun k ho=>by have:=ap0 k ho;omega,hL1,hD1,by omega⟩
  ·-- behind the iterator
   rintro e W2 ⟨⟨v,rfl⟩,s',kW,nW,hend⟩
   have kw:∀ W3,Kps (G.own s0) W1 W3→Kps (own s0) w W3:=fun W3 k=>⟨k.os.trans bW.os,k.tape.trans bW.tape,k.output.trans bW.output,by have:=k.size;omega,fun i hi ho=>(k.same i (by omega) (by rintro (h | h | h);exact ho h;omega;omega)).trans (bW.block i hi)⟩
   have nw:(∀ k,own s' k→k≠w.heap.size∧k≠w.heap.size + 1)→Newer own s0 s' w:=fun hap k ho=>by
    rcases nW k (.inl ho) with (h | h | h) | h
    ·exact .inl h
    ·exact absurd h (hap k ho).1
    ·exact absurd h (hap k ho).2
    ·exact .inr (by omega)
   rcases hend with ⟨xs,hS,hi,hap,hl,hd,hz⟩ | ⟨pre,hSp,c,hi,hap,hl,hd,hz⟩
   ·have hr:=run_endLoop (P:=P) hl (by rw [hrec];simp)
    have hr':(Instr.endLoop (w.heap.size + 1)).run P W2=.ok none (W2.putObj (w.heap.size + 1) (.loop { rec .ready none with state:=.exhausted })):=by rw [hr,hrec]
    refine ⟨none,_,hr',hdone s' xs _ (kw _ (Kps.trans kW (Kps.put (o:=G.own s0) _ (.inr (.inr rfl))) (fun i _ e=>e))) (nw hap) hS (hI s' xs W2 _ hi (by simp) (fun k ho=>World.putObj_heap_other (ho.elim (fun o=>(hap k o).2) (fun q=>by have:=hln k q;omega)))) ((World.putObj_heap_other (by omega)).trans hd) (fun h=>(hap _ h).1 rfl)⟩
   ·have hr:=run_endLoop (P:=P) hl (by rw [hrec];simp)
    have hr':(Instr.endLoop (w.heap.size + 1)).run P W2=.ok (some c) (W2.putObj (w.heap.size + 1) (.loop { rec .done (some c) with state:=.exhausted })):=by rw [hr,hrec]
    refine ⟨some c,_,hr',hstop c s' pre _ (kw _ (Kps.trans kW (Kps.put (o:=G.own s0) _ (.inr (.inr rfl))) (fun i _ e=>e))) (nw hap) hSp (hIx c s' pre W2 _ hi (by simp) (fun k ho=>World.putObj_heap_other (ho.elim (fun o=>(hap k o).2) (fun q=>by have:=hln k q;omega)))) ((World.putObj_heap_other (by omega)).trans hd) (fun h=>(hap _ h).1 rfl)⟩
end Go.Proofs.YtjjfakokakamaaaGreat.P

namespace Go.Proofs.YtjjfakokakamaaaGreat.P
open Go.RowKit
def ndrow (x:It) (lv rv:Option Addr) (n h:Nat) (s:Rs):Array Value :=
 #[.slice x.p x.n x.c,.int .i64 x.pl,.int .i64 x.sp.a,.int .i64 x.sp.s,.int .i64 x.sp.b,.bool x.sp.lf,.bool x.sp.cr,.pointer lv,.pointer rv,.int .i64 n,.int .i64 h,.int .i64 s.a,.int .i64 s.s,.int .i64 s.b,.bool s.lf,.bool s.cr]
def Tin (w:World):Tr It→Option Addr→Prop
 | ⟨none⟩,u=>u=none
 | ⟨some (l,x,r)⟩,u=>∃ g lv rv,u=some ⟨g,0,none⟩∧w.heap[g]?=some (.cells (ndrow x lv rv (l.list ++ x :: r.list).length (max l.ht r.ht + 1) (rA.su (l.list ++ x :: r.list))) 182 (0,0))∧Tin w l lv∧Tin w r rv
theorem Tin.ext {w w':World} (hb:Below w.heap.size w w'):∀ {t:Tr It} {u:Option Addr},Tin w t u→Tin w' t u
 | ⟨none⟩,_,h=>h
 | ⟨some (l,x,r)⟩,_,⟨g,lv,rv,hu,hg,hl,hr⟩=>⟨g,lv,rv,hu,by rw [hb.block g (Array.getElem?_eq_some_iff.1 hg).1];exact hg,Tin.ext hb hl,Tin.ext hb hr⟩
theorem count_any (t:Tr It) (u:Option Addr) (w:World) (h:Tin w t u):Calls Tryz.prog 102 #[.pointer u] w fun e w'=>e=.returned (.int .i64 t.list.length)∧w'=w:=by
 cases t using Tr.ind with
 | nil =>
   simp only [Tin] at h
   subst h
   go_enter Tryz.func102,Tryz.ntmps102
   go_wp2_with fail
   go_ret
   exact ⟨rfl,rfl⟩
 | node l x r =>
   obtain ⟨g,lv,rv,rfl,hg,hl,hr⟩:=h
   have c4:w.cell? ⟨g,9,none⟩=some (.int .i64 (l.list ++ x :: r.list).length):=by first | trivial | (refine ⟨?_,?_,?_,?_,?_,?_,?_⟩ <;> (rw [cell_of_row w g _ _ _ _ hg];rfl)) | (refine ⟨?_,?_,?_,?_,?_⟩ <;> (rw [cell_of_row w g _ _ _ _ hg];rfl)) | (rw [cell_of_row w g _ _ _ _ hg];rfl)
   show Calls _ _ _ _ fun e w'=>e=.returned (.int .i64 (l.list ++ x :: r.list).length)∧w'=w
   generalize (l.list ++ x :: r.list).length=n at *
   clear hg hl hr
   go_enter Tryz.func102,Tryz.ntmps102
   go_wp2_with fail
   go_ret
   exact ⟨rfl,rfl⟩
theorem levels_any (t:Tr It) (u:Option Addr) (w:World) (h:Tin w t u):Calls Tryz.prog 142 #[.pointer u] w fun e w'=>e=.returned (.int .i64 t.ht)∧w'=w:=by
 cases t using Tr.ind with
 | nil =>
   simp only [Tin] at h
   subst h
   go_enter Tryz.func142,Tryz.ntmps142
   go_wp2_with fail
   go_ret
   exact ⟨rfl,rfl⟩
 | node l x r =>
   obtain ⟨g,lv,rv,rfl,hg,hl,hr⟩:=h
   have c4:w.cell? ⟨g,10,none⟩=some (.int .i64 ((max l.ht r.ht + 1:Nat):Int)):=by first | trivial | (refine ⟨?_,?_,?_,?_,?_,?_,?_⟩ <;> (rw [cell_of_row w g _ _ _ _ hg];rfl)) | (refine ⟨?_,?_,?_,?_,?_⟩ <;> (rw [cell_of_row w g _ _ _ _ hg];rfl)) | (rw [cell_of_row w g _ _ _ _ hg];rfl)
   show Calls _ _ _ _ fun e w'=>e=.returned (.int .i64 ((max l.ht r.ht + 1:Nat):Int))∧w'=w
   generalize (max l.ht r.ht + 1)=n at *
   clear hg hl hr
   go_enter Tryz.func142,Tryz.ntmps142
   go_wp2_with fail
   go_ret
   exact ⟨rfl,rfl⟩
theorem total_any (t:Tr It) (u:Option Addr) (w:World) (h:Tin w t u):Calls Tryz.prog 96 #[.pointer u] w fun e w'=>∃ s,Hid (s=rA.su t.list)∧e=.returned (.agg #[.int .i64 s.a,.int .i64 s.s,.int .i64 s.b,.bool s.lf,.bool s.cr])∧Below w.heap.size w w':=by
 cases t using Tr.ind with
 | nil =>
   simp only [Tin] at h
   subst h
   have HE:Hid (Rs.zero=rA.su (Tr.nil:Tr It).list):=rfl
   go_enter Tryz.func96,Tryz.ntmps96
   go_wp2_with fail
   exact bodyPost_ret (v:=.agg #[.int .i64 0,.int .i64 0,.int .i64 0,.bool false,.bool false]) (by simp [results,Tryz.results96,go_sem]) rfl ⟨_,HE,rfl,ext_alloc (ext_alloc (Below.refl _ _) _) _⟩
 | node l x r =>
   obtain ⟨g,lv,rv,rfl,hg,hl,hr⟩:=h
   have HE:Hid (rA.su (l.list ++ x :: r.list)=rA.su (Tr.node l x r).list):=rfl
   have c4:(w.cell? ⟨g,11,none⟩=some (.int .i64 (rA.su (l.list ++ x :: r.list)).a)∧w.cell? ⟨g,12,none⟩=some (.int .i64 (rA.su (l.list ++ x :: r.list)).s)∧w.cell? ⟨g,13,none⟩=some (.int .i64 (rA.su (l.list ++ x :: r.list)).b)∧w.cell? ⟨g,14,none⟩=some (.bool (rA.su (l.list ++ x :: r.list)).lf)∧w.cell? ⟨g,15,none⟩=some (.bool (rA.su (l.list ++ x :: r.list)).cr)):=by first | trivial | (refine ⟨?_,?_,?_,?_,?_,?_,?_⟩ <;> (rw [cell_of_row w g _ _ _ _ hg];rfl)) | (refine ⟨?_,?_,?_,?_,?_⟩ <;> (rw [cell_of_row w g _ _ _ _ hg];rfl)) | (rw [cell_of_row w g _ _ _ _ hg];rfl)
   have c5:True:=by first | trivial | (refine ⟨?_,?_,?_,?_,?_,?_,?_⟩ <;> (rw [cell_of_row w g _ _ _ _ hg];rfl)) | (refine ⟨?_,?_,?_,?_,?_⟩ <;> (rw [cell_of_row w g _ _ _ _ hg];rfl)) | (rw [cell_of_row w g _ _ _ _ hg];rfl)
   have c6:True:=by first | trivial | (refine ⟨?_,?_,?_,?_,?_,?_,?_⟩ <;> (rw [cell_of_row w g _ _ _ _ hg];rfl)) | (refine ⟨?_,?_,?_,?_,?_⟩ <;> (rw [cell_of_row w g _ _ _ _ hg];rfl)) | (rw [cell_of_row w g _ _ _ _ hg];rfl)
   have c7:True:=by first | trivial | (refine ⟨?_,?_,?_,?_,?_,?_,?_⟩ <;> (rw [cell_of_row w g _ _ _ _ hg];rfl)) | (refine ⟨?_,?_,?_,?_,?_⟩ <;> (rw [cell_of_row w g _ _ _ _ hg];rfl)) | (rw [cell_of_row w g _ _ _ _ hg];rfl)
   have hlt:=(Array.getElem?_eq_some_iff.1 hg).1
   generalize rA.su (l.list ++ x :: r.list)=n at *
   clear hg hl hr
   go_enter Tryz.func96,Tryz.ntmps96
   go_wp2_with fail
   exact bodyPost_ret (v:=.agg #[.int .i64 n.a,.int .i64 n.s,.int .i64 n.b,.bool n.lf,.bool n.cr]) (by simp [results,Tryz.results96,go_sem]) rfl ⟨_,HE,rfl,ext_alloc (Below.refl _ _) _⟩
end Go.Proofs.YtjjfakokakamaaaGreat.P

namespace Go.Proofs.YtjjfakokakamaaaGreat.P
open Go.RowKit
set_option maxRecDepth 100000 in
set_option maxHeartbeats 2000000 in
theorem branch_any (l r:Tr It) (x:It) (lu ru:Option Addr) (w:World) (hl:Tin w l lu) (hr:Tin w r ru) (hw:wt (l.list ++ x :: r.list)≤4611686018427387904) :
  Calls Tryz.prog 126 #[.pointer lu,.agg #[.slice x.p x.n x.c,.int .i64 x.pl,.int .i64 x.sp.a,.int .i64 x.sp.s,.int .i64 x.sp.b,.bool x.sp.lf,.bool x.sp.cr],.pointer ru] w fun e w'=>∃ u,e=.returned (.pointer u)∧Tin w' (.node l x r) u∧Below w.heap.size w w':=by
 obtain ⟨w0,hw0⟩:∃ w0,w0=w.alloc (.cells #[.slice x.p x.n x.c,.int .i64 x.pl,.int .i64 x.sp.a,.int .i64 x.sp.s,.int .i64 x.sp.b,.bool x.sp.lf,.bool x.sp.cr] 122):=⟨_,rfl⟩
 have hb0:Below w.heap.size w w0:=by rw [hw0];exact ext_alloc (Below.refl _ _) _
 have HB0:Hid (Below w.heap.size w w0):=hb0
 have hsz:w.heap.size < w0.heap.size:=by first | trivial | (rw [hw0];simp)
 have hc1:(w0.cell? ⟨w.heap.size,0,none⟩=some (.slice x.p x.n x.c)∧w0.cell? ⟨w.heap.size,1,none⟩=some (.int .i64 x.pl)∧w0.cell? ⟨w.heap.size,2,none⟩=some (.int .i64 x.sp.a)∧w0.cell? ⟨w.heap.size,3,none⟩=some (.int .i64 x.sp.s)∧w0.cell? ⟨w.heap.size,4,none⟩=some (.int .i64 x.sp.b)∧w0.cell? ⟨w.heap.size,5,none⟩=some (.bool x.sp.lf)∧w0.cell? ⟨w.heap.size,6,none⟩=some (.bool x.sp.cr)):=by first | trivial | (rw [hw0];simp)
 have hc2:True:=by first | trivial | (rw [hw0];simp)
 have HC:Hid (∀ w',Below w0.heap.size w0 w'→(w'.cell? ⟨w.heap.size,0,none⟩=some (.slice x.p x.n x.c)∧w'.cell? ⟨w.heap.size,1,none⟩=some (.int .i64 x.pl)∧w'.cell? ⟨w.heap.size,2,none⟩=some (.int .i64 x.sp.a)∧w'.cell? ⟨w.heap.size,3,none⟩=some (.int .i64 x.sp.s)∧w'.cell? ⟨w.heap.size,4,none⟩=some (.int .i64 x.sp.b)∧w'.cell? ⟨w.heap.size,5,none⟩=some (.bool x.sp.lf)∧w'.cell? ⟨w.heap.size,6,none⟩=some (.bool x.sp.cr))∧True):=fun w' hw =>
  ⟨(by first | trivial | exact C7.ext hw hsz hc1 | exact C5.ext hw hsz hc1 | exact (hw.cell (p:=⟨w.heap.size,0,none⟩) hsz).trans hc1 | exact (hw.cell (p:=⟨w.heap.size,0,none⟩) hsz).trans hc1),(by first | trivial | exact C7.ext hw hsz hc2 | exact C5.ext hw hsz hc2 | exact (hw.cell (p:=⟨w.heap.size,1,none⟩) hsz).trans hc2 | exact (hw.cell (p:=⟨w.heap.size,1,none⟩) hsz).trans hc2)⟩
 have e1:=wt_app l.list (x :: r.list)
 rw [wt_cons] at e1
 have b1:=wt_len l.list
 have b2:=wt_len r.list
 have b3:=l.ht_le
 have b4:=r.ht_le
 have LL:=hl.ext hb0
 have RR:=hr.ext hb0
 have KL:Hid (∀ w',Below w0.heap.size w0 w'→Calls Tryz.prog 102 #[.pointer lu] w' fun e w''=>e=.returned (.int .i64 l.list.length)∧w''=w'):=fun w' h=>count_any l lu w' (LL.ext h)
 have KR:Hid (∀ w',Below w0.heap.size w0 w'→Calls Tryz.prog 102 #[.pointer ru] w' fun e w''=>e=.returned (.int .i64 r.list.length)∧w''=w'):=fun w' h=>count_any r ru w' (RR.ext h)
 have VL:Hid (∀ w',Below w0.heap.size w0 w'→Calls Tryz.prog 142 #[.pointer lu] w' fun e w''=>e=.returned (.int .i64 l.ht)∧w''=w'):=fun w' h=>levels_any l lu w' (LL.ext h)
 have VR:Hid (∀ w',Below w0.heap.size w0 w'→Calls Tryz.prog 142 #[.pointer ru] w' fun e w''=>e=.returned (.int .i64 r.ht)∧w''=w'):=fun w' h=>levels_any r ru w' (RR.ext h)
 have TL:Hid (∀ w',Below w0.heap.size w0 w'→Calls Tryz.prog 96 #[.pointer lu] w' fun e w''=>∃ s,Hid (s=rA.su l.list)∧e=.returned (.agg #[.int .i64 s.a,.int .i64 s.s,.int .i64 s.b,.bool s.lf,.bool s.cr])∧Below w0.heap.size w0 w''):=fun w' h=>(total_any l lu w' (LL.ext h)).mono fun _ _ ⟨s,h1,h2,h3⟩=>⟨s,h1,h2,ext_trans h h3⟩
 have TR:Hid (∀ w',Below w0.heap.size w0 w'→Calls Tryz.prog 96 #[.pointer ru] w' fun e w''=>∃ s,Hid (s=rA.su r.list)∧e=.returned (.agg #[.int .i64 s.a,.int .i64 s.s,.int .i64 s.b,.bool s.lf,.bool s.cr])∧Below w0.heap.size w0 w''):=fun w' h=>(total_any r ru w' (RR.ext h)).mono fun _ _ ⟨s,h1,h2,h3⟩=>⟨s,h1,h2,ext_trans h h3⟩
 have MM:Hid (∀ w',Below w0.heap.size w0 w'→Calls Tryz.prog 171 #[.agg #[.slice x.p x.n x.c,.int .i64 x.pl,.int .i64 x.sp.a,.int .i64 x.sp.s,.int .i64 x.sp.b,.bool x.sp.lf,.bool x.sp.cr]] w' fun e w''=>∃ s,Hid (s=rA.su [x])∧e=.returned (.agg #[.int .i64 s.a,.int .i64 s.s,.int .i64 s.b,.bool s.lf,.bool s.cr])∧Below w0.heap.size w0 w''):=fun w' h=>(Measure_any x w').mono fun _ _ ⟨s,h1,h2,h3⟩=>⟨s,h1.out.trans (su_one x).symm,h2,ext_trans h h3⟩
 have A1:Hid (∀ s t,Hid (s=rA.su l.list)→Hid (t=rA.su [x])→∀ w',Below w0.heap.size w0 w'→Calls Tryz.prog 69 #[.agg #[.int .i64 s.a,.int .i64 s.s,.int .i64 s.b,.bool s.lf,.bool s.cr],.agg #[.int .i64 t.a,.int .i64 t.s,.int .i64 t.b,.bool t.lf,.bool t.cr]] w' fun e w''=>∃ q,Hid (q=rA.su (l.list ++ [x]))∧e=.returned (.agg #[.int .i64 q.a,.int .i64 q.s,.int .i64 q.b,.bool q.lf,.bool q.cr])∧Below w0.heap.size w0 w''):=fun s t hs ht w' h=>(add_su _ _ s t w' hs ht (by rw [wt_app,wt_cons,wt_nil];omega)).mono fun _ _ ⟨s,h1,h2,h3⟩=>⟨s,h1,h2,ext_trans h h3⟩
 have A2:Hid (∀ s t,Hid (s=rA.su (l.list ++ [x]))→Hid (t=rA.su r.list)→∀ w',Below w0.heap.size w0 w'→Calls Tryz.prog 69 #[.agg #[.int .i64 s.a,.int .i64 s.s,.int .i64 s.b,.bool s.lf,.bool s.cr],.agg #[.int .i64 t.a,.int .i64 t.s,.int .i64 t.b,.bool t.lf,.bool t.cr]] w' fun e w''=>∃ q,Hid (q=rA.su (l.list ++ x :: r.list))∧e=.returned (.agg #[.int .i64 q.a,.int .i64 q.s,.int .i64 q.b,.bool q.lf,.bool q.cr])∧Below w0.heap.size w0 w''):=fun s t hs ht w' h=>(add_su _ _ s t w' hs ht (by simpa using hw)).mono fun _ _ ⟨s,h1,h2,h3⟩=>⟨s,by rw [List.append_assoc] at h1;exact h1,h2,ext_trans h h3⟩
 have HEND:Hid (∀ q w',Hid (q=rA.su (l.list ++ x :: r.list))→Below w0.heap.size w0 w'→Tin (w'.alloc (.cells (ndrow x lu ru (l.list.length + 1 + r.list.length) (max l.ht r.ht + 1) q) 182)) (.node l x r) (some ⟨w'.heap.size,0,none⟩)):=fun q w' hq h =>
  ⟨w'.heap.size,lu,ru,rfl,by rw [heap_alloc_new,hq.out,show l.list.length + 1 + r.list.length=(l.list ++ x :: r.list).length by simp;omega],(LL.ext h).ext (ext_alloc (Below.refl _ _) _),(RR.ext h).ext (ext_alloc (Below.refl _ _) _)⟩
 have hmt1:=m_meas
 have hmt2:=m_add
 have hnt1:=n_meas
 have hnt2:=n_add
 have hmax:max l.ht r.ht + 1≤4611686018427387905:=by omega
 have hsum:l.list.length + 1 + r.list.length≤4611686018427387904:=by omega
 clear hl hr hw LL RR e1 b1 b2 b3 b4 hb0
 generalize l.list.length=nl at *
 generalize r.list.length=nr at *
 generalize l.ht=hl at *
 generalize r.ht=hr at *
 generalize rA.su l.list=sl at *
 generalize rA.su r.list=sr at *
 generalize rA.su [x]=sx at *
 generalize rA.su (l.list ++ [x])=s1 at *
 generalize rA.su (l.list ++ x :: r.list)=s2 at *
 have hw1:IntKind.i64.wrap ((nl:Int) + 1)=((nl + 1:Nat):Int):=by rw [IntKind.wrap_i64];omega
 have hw2:IntKind.i64.wrap (((nl + 1:Nat):Int) + nr)=((nl + 1 + nr:Nat):Int):=by rw [IntKind.wrap_i64];omega
 have hw3:IntKind.i64.wrap (((max hl hr:Nat):Int) + 1)=((max hl hr + 1:Nat):Int):=by rw [IntKind.wrap_i64];omega
 obtain ⟨n1,hn1⟩:∃ n1:Nat,n1=nl + 1:=⟨_,rfl⟩
 obtain ⟨n2,hn2⟩:∃ n2:Nat,n2=n1 + nr:=⟨_,rfl⟩
 obtain ⟨h1,hh1⟩:∃ h1:Nat,h1=max hl hr:=⟨_,rfl⟩
 obtain ⟨h2,hh2⟩:∃ h2:Nat,h2=h1 + 1:=⟨_,rfl⟩
 have HH1:Hid (h1=max hl hr):=hh1
 rw [← hn1,← hn2,← hh1,← hh2] at HEND
 rw [← hn1] at hw1 hw2
 rw [← hn2] at hw2
 rw [← hh1,← hh2] at hw3
 clear hn1 hn2 hh1 hh2 hmax hsum
 go_enter Tryz.func126,Tryz.ntmps126
 go_wp2_with fail
 rw [← hw0]
 clear hw0
 have HB:Hid (Below w0.heap.size w0 w0):=Below.refl _ _
 refine wp_region_held_drew (S:=fun w'=>(w'.cell? ⟨w.heap.size,0,none⟩=some (.slice x.p x.n x.c)∧w'.cell? ⟨w.heap.size,1,none⟩=some (.int .i64 x.pl)∧w'.cell? ⟨w.heap.size,2,none⟩=some (.int .i64 x.sp.a)∧w'.cell? ⟨w.heap.size,3,none⟩=some (.int .i64 x.sp.s)∧w'.cell? ⟨w.heap.size,4,none⟩=some (.int .i64 x.sp.b)∧w'.cell? ⟨w.heap.size,5,none⟩=some (.bool x.sp.lf)∧w'.cell? ⟨w.heap.size,6,none⟩=some (.bool x.sp.cr))∧True) (by kernel_rfl) (by first | exact ⟨hc1,hc2⟩ | (dsimp only;go_keep)) (fun hHeld=>?_)
 refine tkH (v:=?_) 0 rfl ?_ ?_;rotate_left 1
 ·intro wq hSw;(try dsimp only at hSw);go_simp;try (with_reducible rfl)
 try simp only [Act.put,sA4]
 refine tkH (v:=?_) 1 rfl ?_ ?_;rotate_left 1
 ·intro wq hSw;(try dsimp only at hSw);go_simp;try (with_reducible rfl)
 try simp only [Act.put]
 refine tkH (v:=?_) 2 rfl ?_ ?_;rotate_left 1
 ·intro wq hSw;(try dsimp only at hSw);go_simp;try (with_reducible rfl)
 try simp only [Act.put]
 refine tkH (v:=?_) 3 rfl ?_ ?_;rotate_left 1
 ·intro wq hSw;(try dsimp only at hSw);go_simp;try (with_reducible rfl)
 try simp only [Act.put]
 refine tkH (v:=?_) 6 rfl ?_ ?_;rotate_left 1
 ·intro wq hSw;(try dsimp only at hSw);go_simp;try (with_reducible rfl)
 try simp only [Act.put]
 refine tkH (v:=?_) 9 rfl ?_ ?_;rotate_left 1
 ·intro wq hSw;(try dsimp only at hSw);go_simp;try (with_reducible rfl)
 try simp only [Act.put]
 refine tkH (v:=?_) 11 rfl ?_ ?_;rotate_left 1
 ·intro wq hSw;(try dsimp only at hSw);go_simp;try (with_reducible rfl)
 try simp only [Act.put]
 refine tkH (v:=?_) 15 rfl ?_ ?_;rotate_left 1
 ·intro wq hSw;(try dsimp only at hSw);go_simp;try (with_reducible rfl)
 try simp only [Act.put]
 refine tkH (v:=?_) 18 rfl ?_ ?_;rotate_left 1
 ·intro wq hSw;(try dsimp only at hSw);go_simp;try (with_reducible rfl)
 try simp only [Act.put]
 refine tkH (v:=?_) 19 rfl ?_ ?_;rotate_left 1
 ·intro wq hSw;(try dsimp only at hSw);go_simp;try (with_reducible rfl)
 try simp only [Act.put]
 refine tkH (v:=?_) 23 rfl ?_ ?_;rotate_left 1
 ·intro wq hSw;(try dsimp only at hSw);go_simp;try (with_reducible rfl)
 try simp only [Act.put]
 refine wpAnyH_ready (rs:=[4]) (by kernel_rfl) (by simp) ?_
 refine AllReadyH.cons (o:=_) rfl (fun K hK=>?_) AllReadyH.nil
 go_simp
 refine (KL.out _ (by repeat (first | exact HB.out | apply Below.drew))).mono ?_;rintro e w1 ⟨rfl,rfl⟩;try go_wp2_with fail
 refine hK.out _ _ (by first | exact ⟨hc1,hc2⟩ | (dsimp only;go_keep)) (fun hHeld=>?_)
 clear hK K
 try simp only [Act.put,sA4,sA5,sA6]
 refine tkH (v:=?_) 5 rfl ?_ ?_;rotate_left 1
 ·intro wq hSw;(try dsimp only at hSw);go_simp;try (with_reducible rfl)
 try simp only [Act.put,sA4]
 refine wpAnyH_ready (rs:=[7]) (by kernel_rfl) (by simp) ?_
 refine AllReadyH.cons (o:=_) rfl (fun K hK=>?_) AllReadyH.nil
 go_simp
 refine (KR.out _ (by repeat (first | exact HB.out | apply Below.drew))).mono ?_;rintro e w1 ⟨rfl,rfl⟩;try go_wp2_with fail
 refine hK.out _ _ (by first | exact ⟨hc1,hc2⟩ | (dsimp only;go_keep)) (fun hHeld=>?_)
 clear hK K
 try simp only [Act.put,sA4,sA5,sA6]
 refine tkH (v:=?_) 8 rfl ?_ ?_;rotate_left 1
 ·intro wq hSw;(try dsimp only at hSw);go_simp;try (with_reducible rfl)
 try simp only [Act.put,sA4]
 refine wpAnyH_ready (rs:=[10]) (by kernel_rfl) (by simp) ?_
 refine AllReadyH.cons (o:=_) rfl (fun K hK=>?_) AllReadyH.nil
 go_simp
 refine (VL.out _ (by repeat (first | exact HB.out | apply Below.drew))).mono ?_;rintro e w1 ⟨rfl,rfl⟩;try go_wp2_with fail
 refine hK.out _ _ (by first | exact ⟨hc1,hc2⟩ | (dsimp only;go_keep)) (fun hHeld=>?_)
 clear hK K
 try simp only [Act.put,sA4,sA5,sA6]
 refine wpAnyH_ready (rs:=[12]) (by kernel_rfl) (by simp) ?_
 refine AllReadyH.cons (o:=_) rfl (fun K hK=>?_) AllReadyH.nil
 go_simp
 refine (VR.out _ (by repeat (first | exact HB.out | apply Below.drew))).mono ?_;rintro e w1 ⟨rfl,rfl⟩;try go_wp2_with fail
 refine hK.out _ _ (by first | exact ⟨hc1,hc2⟩ | (dsimp only;go_keep)) (fun hHeld=>?_)
 clear hK K
 try simp only [Act.put,sA4,sA5,sA6]
 refine wpAnyH_take (i:=13) (oi:=_) (v:=Value.int .i64 (h1:Int)) rfl (by kernel_rfl) (by kernel_rfl) (by kernel_rfl) (fun _ _ _ h=>h) (Or.inl ⟨by rfl,?_⟩) (by assumption) ?_
 ·intro wq hSw;(try dsimp only at hSw);go_simp;(try split) <;> (have:=HH1.out;congr 3;omega)
 try simp only [Act.put,sA4]
 refine tkH (v:=?_) 14 rfl ?_ ?_;rotate_left 1
 ·intro wq hSw;(try dsimp only at hSw);go_simp;try (with_reducible rfl)
 try simp only [Act.put]
 refine wpAnyH_ready (rs:=[16]) (by kernel_rfl) (by simp) ?_
 refine AllReadyH.cons (o:=_) rfl (fun K hK=>?_) AllReadyH.nil
 go_simp
 refine (TL.out _ (by repeat (first | exact HB.out | apply Below.drew))).mono ?_;rintro e w1 ⟨q1,HL,rfl,hb1⟩;clear hc1 hc2 HB hHeld;have HB:Hid (Below w0.heap.size w0 w1):=hb1;obtain ⟨hc1,hc2⟩:=HC.out w1 hb1;clear hb1;try go_wp2_with fail
 refine hK.out _ _ (by first | exact ⟨hc1,hc2⟩ | (dsimp only;go_keep)) (fun hHeld=>?_)
 clear hK K
 try simp only [Act.put,sA4,sA5,sA6]
 refine tkH (v:=?_) 17 rfl ?_ ?_;rotate_left 1
 ·intro wq hSw;(try dsimp only at hSw);go_simp;try (with_reducible rfl)
 try simp only [Act.put,sA4]
 refine wpAnyH_ready (rs:=[20]) (by kernel_rfl) (by simp) ?_
 refine AllReadyH.cons (o:=_) rfl (fun K hK=>?_) AllReadyH.nil
 go_simp
 refine (MM.out _ (by repeat (first | exact HB.out | apply Below.drew))).mono ?_;rintro e w1 ⟨q3,HM,rfl,hb1⟩;clear hc1 hc2 HB hHeld;have HB:Hid (Below w0.heap.size w0 w1):=hb1;obtain ⟨hc1,hc2⟩:=HC.out w1 hb1;clear hb1;try go_wp2_with fail
 refine hK.out _ _ (by first | exact ⟨hc1,hc2⟩ | (dsimp only;go_keep)) (fun hHeld=>?_)
 clear hK K
 try simp only [Act.put,sA4,sA5,sA6]
 refine wpAnyH_ready (rs:=[21]) (by kernel_rfl) (by simp) ?_
 refine AllReadyH.cons (o:=_) rfl (fun K hK=>?_) AllReadyH.nil
 go_simp
 refine (A1.out _ _ HL HM _ (by repeat (first | exact HB.out | apply Below.drew))).mono ?_;rintro e w1 ⟨q4,H1,rfl,hb1⟩;clear hc1 hc2 HB hHeld;have HB:Hid (Below w0.heap.size w0 w1):=hb1;obtain ⟨hc1,hc2⟩:=HC.out w1 hb1;clear hb1;try go_wp2_with fail
 refine hK.out _ _ (by first | exact ⟨hc1,hc2⟩ | (dsimp only;go_keep)) (fun hHeld=>?_)
 clear hK K
 try simp only [Act.put,sA4,sA5,sA6]
 refine tkH (v:=?_) 22 rfl ?_ ?_;rotate_left 1
 ·intro wq hSw;(try dsimp only at hSw);go_simp;try (with_reducible rfl)
 try simp only [Act.put,sA4]
 refine wpAnyH_ready (rs:=[24]) (by kernel_rfl) (by simp) ?_
 refine AllReadyH.cons (o:=_) rfl (fun K hK=>?_) AllReadyH.nil
 go_simp
 refine (TR.out _ (by repeat (first | exact HB.out | apply Below.drew))).mono ?_;rintro e w1 ⟨q2,HR,rfl,hb1⟩;clear hc1 hc2 HB hHeld;have HB:Hid (Below w0.heap.size w0 w1):=hb1;obtain ⟨hc1,hc2⟩:=HC.out w1 hb1;clear hb1;try go_wp2_with fail
 refine hK.out _ _ (by first | exact ⟨hc1,hc2⟩ | (dsimp only;go_keep)) (fun hHeld=>?_)
 clear hK K
 try simp only [Act.put,sA4,sA5,sA6]
 refine wpAnyH_ready (rs:=[25]) (by kernel_rfl) (by simp) ?_
 refine AllReadyH.cons (o:=_) rfl (fun K hK=>?_) AllReadyH.nil
 go_simp
 refine (A2.out _ _ H1 HR _ (by repeat (first | exact HB.out | apply Below.drew))).mono ?_;rintro e w1 ⟨q5,H2,rfl,hb1⟩;clear hc1 hc2 HB hHeld;have HB:Hid (Below w0.heap.size w0 w1):=hb1;obtain ⟨hc1,hc2⟩:=HC.out w1 hb1;clear hb1;try go_wp2_with fail
 refine hK.out _ _ (by first | exact ⟨hc1,hc2⟩ | (dsimp only;go_keep)) (fun hHeld=>?_)
 clear hK K
 try simp only [Act.put,sA4,sA5,sA6]
 refine tkH (v:=?_) 26 rfl ?_ ?_;rotate_left 1
 ·intro wq hSw;(try dsimp only at hSw);go_simp;try (with_reducible rfl)
 try simp only [Act.put,sA4]
 refine wpAnyH_ready (rs:=[27]) (by kernel_rfl) (by simp) ?_
 refine AllReadyH.cons (o:=_) rfl (fun K hK=>?_) AllReadyH.nil
 go_simp
 refine hK.out _ _ (HC.out _ (by repeat (first | exact HB.out | apply Below.drew | refine ext_alloc ?_ _))) (fun hHeld=>?_)
 clear hK K
 try simp only [Act.put,sA4,sA5,sA6]
 refine wpAnyH_ready (rs:=[28]) (by kernel_rfl) (by simp) ?_
 refine AllReadyH.cons (o:=_) rfl (fun K hK=>?_) AllReadyH.nil
 go_simp
 refine hK.out _ _ (HC.out _ (by repeat (first | exact HB.out | apply Below.drew | refine ext_alloc ?_ _))) (fun hHeld=>?_)
 clear hK K
 try simp only [Act.put,sA4,sA5,sA6]
 refine wpAnyH_done (by kernel_rfl) ?_ _
 go_wp2_with fail
 go_ret
 exact ⟨_,rfl,HEND.out q5 w1 H2 HB.out,by repeat (first | exact HB0.out | exact HB.out | refine ext_trans HB0.out ?_ | refine ext_alloc ?_ _)⟩
end Go.Proofs.YtjjfakokakamaaaGreat.P
