import Derived.Test.YtjomfbegghgbdaaGreatJ00
import Derived.Test.YtjomfbegghgbdaaGreatJ10
import Derived.Test.YtjomfbegghgbdaaGreatJ07
import Derived.Test.YtjomfbegghgbdaaGreatJ11
import Derived.Deep.LoopGhost
import Derived.Deep.CutRange
import Derived.Deep.CutBlock
namespace Go.Proofs.YtjomfbegghgbdaaGreat
open Go.RowKit
set_option maxRecDepth 100000 in
set_option maxHeartbeats 2000000 in
theorem Next_1 (v:Value) (zs:List Int) (n:Nat) (w:World) (h:Rd .u8 w v zs) (hb:Byt zs) (hn:n < zs.length) :
  Calls Tryz.prog 88 #[.int .i64 1,v,.int .i64 n] w fun e w'=>e=.returned (.tuple #[.int .i64 (Cx.fst 1 (zs.drop n)).1,.int .i64 (Cx.fst 1 (zs.drop n)).2])∧Below w.heap.size w w':=by
 have HR:Hid (Rd .u8 w v zs):=h
 have HB:Hid (Byt zs):=hb
 have hlen:=h.len
 obtain ⟨ao,cap,rfl,hl,hm,hc⟩:=h
 obtain ⟨b,off,rfl,_⟩:=hc (List.length_pos_iff.1 (by omega))
 have HN:Hid (zs.drop n≠[]):=List.length_pos_iff.1 (by rw [List.length_drop];omega)
 obtain ⟨a,m,hf⟩:∃ (a:Int) (m:Nat),Cx.fst 1 (zs.drop n)=(a,(m:Int)):=by
  have:=Cx.fst_bd 1 (zs.drop n) HN.out
  exact ⟨_,(Cx.fst 1 (zs.drop n)).2.toNat,Prod.ext rfl (by simp only;omega)⟩
 have HF:Hid (Cx.fst 1 (zs.drop n)=(a,(m:Int))):=hf
 have hcn:¬ cap=n:=by omega
 have HC:Hid (Rd .u8 w (.slice (some ⟨b,off + n,none⟩) (zs.length - n) (cap - n)) (zs.drop n)):=HR.out.cut (by omega)
 have hcm:cap≤9223372036854775807:=hm
 rw [hf]
 clear hb hc hf hm
 have hmt:=m_first1
 have hnt:=n_first1
 go_enter Tryz.func88,Tryz.ntmps88
 go_wp2_with fail
 refine (coderOf_1 _).mono ?_
 rintro e w' ⟨rfl,rfl⟩
 go_wp2_with fail
 first | go_region_with (go_at_call 166;refine (fst1_any _ (zs.drop n) a m _ (HC.out.ext (by repeat (first | exact Below.refl _ _ | apply below_drewN | refine ext_alloc ?_ _ | apply Below.drew))) (HB.out.drop n) HN.out HF.out).mono ?_;rintro e w1 ⟨rfl,hb1⟩;have HW1:Hid (Below w'.heap.size w' w1):=ext_trans (by repeat (first | exact Below.refl _ _ | apply below_drewN | refine ext_alloc ?_ _ | apply Below.drew)) hb1;clear hb1) | fail
 all_goals
  go_wp2
  go_ret2
  exact ⟨rfl,(by repeat (first | exact HW1.out | exact Below.refl _ _ | apply below_drewN | refine ext_alloc ?_ _ | apply Below.drew))⟩
set_option maxRecDepth 100000 in
set_option maxHeartbeats 2000000 in
theorem Next_2 (v:Value) (zs:List Int) (n:Nat) (w:World) (h:Rd .u8 w v zs) (hb:Byt zs) (hn:n < zs.length) :
  Calls Tryz.prog 88 #[.int .i64 2,v,.int .i64 n] w fun e w'=>e=.returned (.tuple #[.int .i64 (Cx.fst 2 (zs.drop n)).1,.int .i64 (Cx.fst 2 (zs.drop n)).2])∧Below w.heap.size w w':=by
 have HR:Hid (Rd .u8 w v zs):=h
 have HB:Hid (Byt zs):=hb
 have hlen:=h.len
 obtain ⟨ao,cap,rfl,hl,hm,hc⟩:=h
 obtain ⟨b,off,rfl,_⟩:=hc (List.length_pos_iff.1 (by omega))
 have HN:Hid (zs.drop n≠[]):=List.length_pos_iff.1 (by rw [List.length_drop];omega)
 obtain ⟨a,m,hf⟩:∃ (a:Int) (m:Nat),Cx.fst 2 (zs.drop n)=(a,(m:Int)):=by
  have:=Cx.fst_bd 2 (zs.drop n) HN.out
  exact ⟨_,(Cx.fst 2 (zs.drop n)).2.toNat,Prod.ext rfl (by simp only;omega)⟩
 have HF:Hid (Cx.fst 2 (zs.drop n)=(a,(m:Int))):=hf
 have hcn:¬ cap=n:=by omega
 have HC:Hid (Rd .u8 w (.slice (some ⟨b,off + n,none⟩) (zs.length - n) (cap - n)) (zs.drop n)):=HR.out.cut (by omega)
 have hcm:cap≤9223372036854775807:=hm
 rw [hf]
 clear hb hc hf hm
 have hmt:=m_first2
 have hnt:=n_first2
 go_enter Tryz.func88,Tryz.ntmps88
 go_wp2_with fail
 refine (coderOf_2 _).mono ?_
 rintro e w' ⟨rfl,rfl⟩
 go_wp2_with fail
 first | go_region_with (go_at_call 181;refine (fst2_any _ (zs.drop n) a m _ (HC.out.ext (by repeat (first | exact Below.refl _ _ | apply below_drewN | refine ext_alloc ?_ _ | apply Below.drew))) (HB.out.drop n) HN.out HF.out).mono ?_;rintro e w1 ⟨rfl,hb1⟩;have HW1:Hid (Below w'.heap.size w' w1):=ext_trans (by repeat (first | exact Below.refl _ _ | apply below_drewN | refine ext_alloc ?_ _ | apply Below.drew)) hb1;clear hb1) | fail
 all_goals
  go_wp2
  go_ret2
  exact ⟨rfl,(by repeat (first | exact HW1.out | exact Below.refl _ _ | apply below_drewN | refine ext_alloc ?_ _ | apply Below.drew))⟩
set_option maxRecDepth 100000 in
set_option maxHeartbeats 2000000 in
theorem Next_3 (v:Value) (zs:List Int) (n:Nat) (w:World) (h:Rd .u8 w v zs) (hb:Byt zs) (hn:n < zs.length) :
  Calls Tryz.prog 88 #[.int .i64 3,v,.int .i64 n] w fun e w'=>e=.returned (.tuple #[.int .i64 (Cx.fst 3 (zs.drop n)).1,.int .i64 (Cx.fst 3 (zs.drop n)).2])∧Below w.heap.size w w':=by
 have HR:Hid (Rd .u8 w v zs):=h
 have HB:Hid (Byt zs):=hb
 have hlen:=h.len
 obtain ⟨ao,cap,rfl,hl,hm,hc⟩:=h
 obtain ⟨b,off,rfl,_⟩:=hc (List.length_pos_iff.1 (by omega))
 have HN:Hid (zs.drop n≠[]):=List.length_pos_iff.1 (by rw [List.length_drop];omega)
 obtain ⟨a,m,hf⟩:∃ (a:Int) (m:Nat),Cx.fst 3 (zs.drop n)=(a,(m:Int)):=by
  have:=Cx.fst_bd 3 (zs.drop n) HN.out
  exact ⟨_,(Cx.fst 3 (zs.drop n)).2.toNat,Prod.ext rfl (by simp only;omega)⟩
 have HF:Hid (Cx.fst 3 (zs.drop n)=(a,(m:Int))):=hf
 have hcn:¬ cap=n:=by omega
 have HC:Hid (Rd .u8 w (.slice (some ⟨b,off + n,none⟩) (zs.length - n) (cap - n)) (zs.drop n)):=HR.out.cut (by omega)
 have hcm:cap≤9223372036854775807:=hm
 rw [hf]
 clear hb hc hf hm
 have hmt:=m_first2
 have hnt:=n_first2
 go_enter Tryz.func88,Tryz.ntmps88
 go_wp2_with fail
 refine (coderOf_3 _).mono ?_
 rintro e w' ⟨rfl,rfl⟩
 go_wp2_with fail
 first | go_region_with (go_at_call 181;refine (fst3_any _ (zs.drop n) a m _ (HC.out.ext (by repeat (first | exact Below.refl _ _ | apply below_drewN | refine ext_alloc ?_ _ | apply Below.drew))) (HB.out.drop n) HN.out HF.out).mono ?_;rintro e w1 ⟨rfl,hb1⟩;have HW1:Hid (Below w'.heap.size w' w1):=ext_trans (by repeat (first | exact Below.refl _ _ | apply below_drewN | refine ext_alloc ?_ _ | apply Below.drew)) hb1;clear hb1) | fail
 all_goals
  go_wp2
  go_ret2
  exact ⟨rfl,(by repeat (first | exact HW1.out | exact Below.refl _ _ | apply below_drewN | refine ext_alloc ?_ _ | apply Below.drew))⟩
set_option maxRecDepth 100000 in
set_option maxHeartbeats 2000000 in
theorem Next_4 (v:Value) (zs:List Int) (n:Nat) (w:World) (h:Rd .u8 w v zs) (hb:Byt zs) (hn:n < zs.length) :
  Calls Tryz.prog 88 #[.int .i64 4,v,.int .i64 n] w fun e w'=>e=.returned (.tuple #[.int .i64 (Cx.fst 4 (zs.drop n)).1,.int .i64 (Cx.fst 4 (zs.drop n)).2])∧Below w.heap.size w w':=by
 have HR:Hid (Rd .u8 w v zs):=h
 have HB:Hid (Byt zs):=hb
 have hlen:=h.len
 obtain ⟨ao,cap,rfl,hl,hm,hc⟩:=h
 obtain ⟨b,off,rfl,_⟩:=hc (List.length_pos_iff.1 (by omega))
 have HN:Hid (zs.drop n≠[]):=List.length_pos_iff.1 (by rw [List.length_drop];omega)
 obtain ⟨a,m,hf⟩:∃ (a:Int) (m:Nat),Cx.fst 4 (zs.drop n)=(a,(m:Int)):=by
  have:=Cx.fst_bd 4 (zs.drop n) HN.out
  exact ⟨_,(Cx.fst 4 (zs.drop n)).2.toNat,Prod.ext rfl (by simp only;omega)⟩
 have HF:Hid (Cx.fst 4 (zs.drop n)=(a,(m:Int))):=hf
 have hcn:¬ cap=n:=by omega
 have HC:Hid (Rd .u8 w (.slice (some ⟨b,off + n,none⟩) (zs.length - n) (cap - n)) (zs.drop n)):=HR.out.cut (by omega)
 have hcm:cap≤9223372036854775807:=hm
 rw [hf]
 clear hb hc hf hm
 have hmt:=m_first4
 have hnt:=n_first4
 go_enter Tryz.func88,Tryz.ntmps88
 go_wp2_with fail
 refine (coderOf_4 _).mono ?_
 rintro e w' ⟨rfl,rfl⟩
 go_wp2_with fail
 first | go_region_with (go_at_call 193;refine (fst4_any _ (zs.drop n) a m _ (HC.out.ext (by repeat (first | exact Below.refl _ _ | apply below_drewN | refine ext_alloc ?_ _ | apply Below.drew))) (HB.out.drop n) HN.out HF.out).mono ?_;rintro e w1 ⟨rfl,hb1⟩;have HW1:Hid (Below w'.heap.size w' w1):=ext_trans (by repeat (first | exact Below.refl _ _ | apply below_drewN | refine ext_alloc ?_ _ | apply Below.drew)) hb1;clear hb1) | fail
 all_goals
  go_wp2
  go_ret2
  exact ⟨rfl,(by repeat (first | exact HW1.out | exact Below.refl _ _ | apply below_drewN | refine ext_alloc ?_ _ | apply Below.drew))⟩
end Go.Proofs.YtjomfbegghgbdaaGreat

namespace Go.Proofs.YtjomfbegghgbdaaGreat
open Go.RowKit
set_option maxRecDepth 100000 in
set_option maxHeartbeats 2000000 in
theorem Prev_1 (v:Value) (zs:List Int) (n:Nat) (w:World) (h:Rd .u8 w v zs) (hb:Byt zs) (h0:0 < n) (hn:n≤zs.length) :
  Calls Tryz.prog 137 #[.int .i64 1,v,.int .i64 n] w fun e w'=>e=.returned (.tuple #[.int .i64 (Cx.lst 1 (zs.take n)).1,.int .i64 (Cx.lst 1 (zs.take n)).2])∧Below w.heap.size w w':=by
 have HR:Hid (Rd .u8 w v zs):=h
 have HB:Hid (Byt zs):=hb
 have hlen:=h.len
 obtain ⟨ao,cap,rfl,hl,hm,hc⟩:=h
 obtain ⟨b,off,rfl,_⟩:=hc (List.length_pos_iff.1 (by omega))
 have HN:Hid (zs.take n≠[]):=List.length_pos_iff.1 (by rw [List.length_take];omega)
 have hcm:cap≤9223372036854775807:=hm
 have hnc:n≤cap:=by omega
 have HX:Hid (∀ w':World,Below w.heap.size w w'→Calls Tryz.prog 167 #[.agg #[],.slice (some ⟨b,off,none⟩) n cap] w' fun e w''=>e=.returned (.tuple #[.int .i64 (Cx.lst 1 (zs.take n)).1,.int .i64 (Cx.lst 1 (zs.take n)).2])∧Below w'.heap.size w' w''):=fun w' hw=>lst1_any (.slice (some ⟨b,off,none⟩) n cap) (zs.take n) w' ((HR.out.take n hn).ext hw) (HB.out.take n) HN.out
 generalize (Cx.lst 1 (zs.take n)).1=x at *
 generalize (Cx.lst 1 (zs.take n)).2=y at *
 clear hb hc hm
 have hmt:=m_last1
 have hnt:=n_last1
 go_enter Tryz.func137,Tryz.ntmps137
 go_wp2_with fail
 refine (coderOf_1 _).mono ?_
 rintro e w' ⟨rfl,rfl⟩
 go_wp2_with fail
 first | go_region_with (go_at_call 167;refine (HX.out _ (by repeat (first | exact Below.refl _ _ | apply below_drewN | refine ext_alloc ?_ _ | apply Below.drew))).mono ?_;rintro e w1 ⟨rfl,hb1⟩;have HW1:Hid (Below w'.heap.size w' w1):=ext_trans (by repeat (first | exact Below.refl _ _ | apply below_drewN | refine ext_alloc ?_ _ | apply Below.drew)) hb1;clear hb1) | fail
 all_goals
  go_wp2
  go_ret2
  exact ⟨rfl,(by repeat (first | exact HW1.out | exact Below.refl _ _ | apply below_drewN | refine ext_alloc ?_ _ | apply Below.drew))⟩
set_option maxRecDepth 100000 in
set_option maxHeartbeats 2000000 in
theorem Prev_2 (v:Value) (zs:List Int) (n:Nat) (w:World) (h:Rd .u8 w v zs) (hb:Byt zs) (h0:0 < n) (hn:n≤zs.length) :
  Calls Tryz.prog 137 #[.int .i64 2,v,.int .i64 n] w fun e w'=>e=.returned (.tuple #[.int .i64 (Cx.lst 2 (zs.take n)).1,.int .i64 (Cx.lst 2 (zs.take n)).2])∧Below w.heap.size w w':=by
 have HR:Hid (Rd .u8 w v zs):=h
 have HB:Hid (Byt zs):=hb
 have hlen:=h.len
 obtain ⟨ao,cap,rfl,hl,hm,hc⟩:=h
 obtain ⟨b,off,rfl,_⟩:=hc (List.length_pos_iff.1 (by omega))
 have HN:Hid (zs.take n≠[]):=List.length_pos_iff.1 (by rw [List.length_take];omega)
 have hcm:cap≤9223372036854775807:=hm
 have hnc:n≤cap:=by omega
 have HX:Hid (∀ w':World,Below w.heap.size w w'→Calls Tryz.prog 182 #[.agg #[.int .i64 0],.slice (some ⟨b,off,none⟩) n cap] w' fun e w''=>e=.returned (.tuple #[.int .i64 (Cx.lst 2 (zs.take n)).1,.int .i64 (Cx.lst 2 (zs.take n)).2])∧Below w'.heap.size w' w''):=fun w' hw=>lst2_any (.slice (some ⟨b,off,none⟩) n cap) (zs.take n) w' ((HR.out.take n hn).ext hw) (HB.out.take n) HN.out
 generalize (Cx.lst 2 (zs.take n)).1=x at *
 generalize (Cx.lst 2 (zs.take n)).2=y at *
 clear hb hc hm
 have hmt:=m_last2
 have hnt:=n_last2
 go_enter Tryz.func137,Tryz.ntmps137
 go_wp2_with fail
 refine (coderOf_2 _).mono ?_
 rintro e w' ⟨rfl,rfl⟩
 go_wp2_with fail
 first | go_region_with (go_at_call 182;refine (HX.out _ (by repeat (first | exact Below.refl _ _ | apply below_drewN | refine ext_alloc ?_ _ | apply Below.drew))).mono ?_;rintro e w1 ⟨rfl,hb1⟩;have HW1:Hid (Below w'.heap.size w' w1):=ext_trans (by repeat (first | exact Below.refl _ _ | apply below_drewN | refine ext_alloc ?_ _ | apply Below.drew)) hb1;clear hb1) | fail
 all_goals
  go_wp2
  go_ret2
  exact ⟨rfl,(by repeat (first | exact HW1.out | exact Below.refl _ _ | apply below_drewN | refine ext_alloc ?_ _ | apply Below.drew))⟩
set_option maxRecDepth 100000 in
set_option maxHeartbeats 2000000 in
theorem Prev_3 (v:Value) (zs:List Int) (n:Nat) (w:World) (h:Rd .u8 w v zs) (hb:Byt zs) (h0:0 < n) (hn:n≤zs.length) :
  Calls Tryz.prog 137 #[.int .i64 3,v,.int .i64 n] w fun e w'=>e=.returned (.tuple #[.int .i64 (Cx.lst 3 (zs.take n)).1,.int .i64 (Cx.lst 3 (zs.take n)).2])∧Below w.heap.size w w':=by
 have HR:Hid (Rd .u8 w v zs):=h
 have HB:Hid (Byt zs):=hb
 have hlen:=h.len
 obtain ⟨ao,cap,rfl,hl,hm,hc⟩:=h
 obtain ⟨b,off,rfl,_⟩:=hc (List.length_pos_iff.1 (by omega))
 have HN:Hid (zs.take n≠[]):=List.length_pos_iff.1 (by rw [List.length_take];omega)
 have hcm:cap≤9223372036854775807:=hm
 have hnc:n≤cap:=by omega
 have HX:Hid (∀ w':World,Below w.heap.size w w'→Calls Tryz.prog 182 #[.agg #[.int .i64 1],.slice (some ⟨b,off,none⟩) n cap] w' fun e w''=>e=.returned (.tuple #[.int .i64 (Cx.lst 3 (zs.take n)).1,.int .i64 (Cx.lst 3 (zs.take n)).2])∧Below w'.heap.size w' w''):=fun w' hw=>lst3_any (.slice (some ⟨b,off,none⟩) n cap) (zs.take n) w' ((HR.out.take n hn).ext hw) (HB.out.take n) HN.out
 generalize (Cx.lst 3 (zs.take n)).1=x at *
 generalize (Cx.lst 3 (zs.take n)).2=y at *
 clear hb hc hm
 have hmt:=m_last2
 have hnt:=n_last2
 go_enter Tryz.func137,Tryz.ntmps137
 go_wp2_with fail
 refine (coderOf_3 _).mono ?_
 rintro e w' ⟨rfl,rfl⟩
 go_wp2_with fail
 first | go_region_with (go_at_call 182;refine (HX.out _ (by repeat (first | exact Below.refl _ _ | apply below_drewN | refine ext_alloc ?_ _ | apply Below.drew))).mono ?_;rintro e w1 ⟨rfl,hb1⟩;have HW1:Hid (Below w'.heap.size w' w1):=ext_trans (by repeat (first | exact Below.refl _ _ | apply below_drewN | refine ext_alloc ?_ _ | apply Below.drew)) hb1;clear hb1) | fail
 all_goals
  go_wp2
  go_ret2
  exact ⟨rfl,(by repeat (first | exact HW1.out | exact Below.refl _ _ | apply below_drewN | refine ext_alloc ?_ _ | apply Below.drew))⟩
set_option maxRecDepth 100000 in
set_option maxHeartbeats 2000000 in
theorem Prev_4 (v:Value) (zs:List Int) (n:Nat) (w:World) (h:Rd .u8 w v zs) (hb:Byt zs) (h0:0 < n) (hn:n≤zs.length) :
  Calls Tryz.prog 137 #[.int .i64 4,v,.int .i64 n] w fun e w'=>e=.returned (.tuple #[.int .i64 (Cx.lst 4 (zs.take n)).1,.int .i64 (Cx.lst 4 (zs.take n)).2])∧Below w.heap.size w w':=by
 have HR:Hid (Rd .u8 w v zs):=h
 have HB:Hid (Byt zs):=hb
 have hlen:=h.len
 obtain ⟨ao,cap,rfl,hl,hm,hc⟩:=h
 obtain ⟨b,off,rfl,_⟩:=hc (List.length_pos_iff.1 (by omega))
 have HN:Hid (zs.take n≠[]):=List.length_pos_iff.1 (by rw [List.length_take];omega)
 have hcm:cap≤9223372036854775807:=hm
 have hnc:n≤cap:=by omega
 have HX:Hid (∀ w':World,Below w.heap.size w w'→Calls Tryz.prog 194 #[.agg #[],.slice (some ⟨b,off,none⟩) n cap] w' fun e w''=>e=.returned (.tuple #[.int .i64 (Cx.lst 4 (zs.take n)).1,.int .i64 (Cx.lst 4 (zs.take n)).2])∧Below w'.heap.size w' w''):=fun w' hw=>lst4_any (.slice (some ⟨b,off,none⟩) n cap) (zs.take n) w' ((HR.out.take n hn).ext hw) (HB.out.take n) HN.out
 generalize (Cx.lst 4 (zs.take n)).1=x at *
 generalize (Cx.lst 4 (zs.take n)).2=y at *
 clear hb hc hm
 have hmt:=m_last4
 have hnt:=n_last4
 go_enter Tryz.func137,Tryz.ntmps137
 go_wp2_with fail
 refine (coderOf_4 _).mono ?_
 rintro e w' ⟨rfl,rfl⟩
 go_wp2_with fail
 first | go_region_with (go_at_call 194;refine (HX.out _ (by repeat (first | exact Below.refl _ _ | apply below_drewN | refine ext_alloc ?_ _ | apply Below.drew))).mono ?_;rintro e w1 ⟨rfl,hb1⟩;have HW1:Hid (Below w'.heap.size w' w1):=ext_trans (by repeat (first | exact Below.refl _ _ | apply below_drewN | refine ext_alloc ?_ _ | apply Below.drew)) hb1;clear hb1) | fail
 all_goals
  go_wp2
  go_ret2
  exact ⟨rfl,(by repeat (first | exact HW1.out | exact Below.refl _ _ | apply below_drewN | refine ext_alloc ?_ _ | apply Below.drew))⟩
end Go.Proofs.YtjomfbegghgbdaaGreat

namespace Go.Proofs.YtjomfbegghgbdaaGreat
theorem Cx.put_byt (enc a:Int) (hf:Cx.fits enc a=true):Byt (Cx.put enc a):=by
 have hfb:-256≤a∧a≤1114111∧(enc=4→a≤255):=by
  unfold Cx.fits Cx.isSc at hf
  repeat' split at hf
  all_goals simp at hf
  all_goals omega
 intro z hz
 unfold Cx.put Cx.put8 Cx.unit at hz
 repeat' split at hz
 all_goals simp at hz
 all_goals omega
theorem Cx.mean_put8 (a:Int) (h:Cx.isSc a=true):Cx.mean (Cx.put8 a)=a:=by
 have:=(Cx.sc_iff a).1 h
 rcases (show a < 128∨(128≤a∧a < 2048)∨(2048≤a∧a < 65536)∨65536≤a from by omega) with h | ⟨h,h'⟩ | ⟨h,h'⟩ | h
 ·rw [Cx.put8_1 a h];rfl
 ·rw [Cx.put8_2 a h h'];simp only [Cx.mean];omega
 ·rw [Cx.put8_3 a h h'];simp only [Cx.mean];omega
 ·rw [Cx.put8_4 a h];simp only [Cx.mean];omega
theorem Cx.read1 (a:Int) (r:List Int) (h:Cx.isSc a=true) (hr:Byt r):Cx.first8 (Cx.put 1 a ++ r)=(a,((Cx.put 1 a).length:Int)):=by
 have hs:=(Cx.sc_iff a).1 h
 have e:Cx.put 1 a=Cx.put8 a:=by unfold Cx.put;rw [if_neg (by omega),if_pos rfl]
 have hb:Byt (Cx.put 1 a ++ r):=by
  intro z hz
  rcases List.mem_append.1 hz with hz | hz
  ·exact Cx.put_byt 1 a (by unfold Cx.fits;rw [if_pos rfl,h,Bool.true_or]) z hz
  ·exact hr z hz
 have ht:(Cx.put 1 a ++ r).take (Cx.put 1 a).length=Cx.put8 a:=by rw [List.take_left',e];rfl
 have hl:=Cx.put_len 1 a
 have hm:Cx.mean ((Cx.put 1 a ++ r).take (Cx.put 1 a).length)=a:=by rw [ht,Cx.mean_put8 a h]
 have hh:Cx.hitB (Cx.put 1 a ++ r) (Cx.put 1 a).length=true:=by
  rw [Cx.hitB_iff _ _ a hm]
  refine ⟨by rw [List.length_append];omega,h,by rw [e],?_⟩
  rw [List.isPrefixOf_iff_prefix,e]
  exact List.prefix_append _ _
 rw [Cx.first8_hit _ hb _ hl.1 hl.2 hh,hm]
theorem Cx.wv_unit (enc u:Int) (r:List Int) (he:enc=2∨enc=3):Cx.wv (Cx.lowOf enc) (Cx.unit enc u ++ r)=u:=by
 rcases he with rfl | rfl
 ·simp only [Cx.wv,Cx.lowOf,Cx.unit,if_true,List.cons_append,List.nil_append,List.getElem?_cons_succ,List.getElem?_cons_zero,Option.getD_some]
  omega
 ·simp only [Cx.wv,Cx.lowOf,Cx.unit,show ¬ ((3:Int)=2) from by decide,show ¬ ((1:Int)=0) from by decide,if_false,List.cons_append,List.nil_append,List.getElem?_cons_succ,List.getElem?_cons_zero,Option.getD_some]
  omega
theorem Cx.unit_len (enc u:Int):(Cx.unit enc u).length=2:=by unfold Cx.unit;split <;> rfl
theorem Cx.read2 (enc a:Int) (r:List Int) (h:Cx.isSc a=true) (he:enc=2∨enc=3):Cx.first16 (Cx.lowOf enc) (Cx.put enc a ++ r)=(a,((Cx.put enc a).length:Int)):=by
 have hs:=(Cx.sc_iff a).1 h
 by_cases hb:65536≤a
 ·have e:Cx.put enc a=Cx.unit enc (55296 + (a - 65536) / 1024) ++ Cx.unit enc (56320 + a % 1024):=by
   unfold Cx.put;rw [if_neg (by omega),if_neg (by omega),if_neg (by omega),if_pos hb]
  have l1:=Cx.unit_len enc (55296 + (a - 65536) / 1024)
  have l2:=Cx.unit_len enc (56320 + a % 1024)
  rw [e,List.append_assoc]
  have e1:=Cx.wv_unit enc (55296 + (a - 65536) / 1024) (Cx.unit enc (56320 + a % 1024) ++ r) he
  have e2:Cx.wv (Cx.lowOf enc) ((Cx.unit enc (55296 + (a - 65536) / 1024) ++ (Cx.unit enc (56320 + a % 1024) ++ r)).drop 2)=56320 + a % 1024:=by
   rw [← l1,List.drop_left];exact Cx.wv_unit enc _ r he
  have hP:Cx.isP (Cx.lowOf enc) (Cx.unit enc (55296 + (a - 65536) / 1024) ++ (Cx.unit enc (56320 + a % 1024) ++ r))=true:=by
   unfold Cx.isP
   rw [e1,e2]
   unfold Cx.hiU Cx.loU
   simp only [List.length_append,l1,l2,Bool.and_eq_true,decide_eq_true_eq]
   omega
  unfold Cx.first16
  rw [if_neg (by simp only [List.length_append,l1,l2];omega),hP,if_pos rfl]
  unfold Cx.pairV
  rw [e1,e2,List.length_append,l1,l2]
  refine Prod.ext (by simp only;omega) rfl
 ·have e:Cx.put enc a=Cx.unit enc a:=by
   unfold Cx.put;rw [if_neg (by omega),if_neg (by omega),if_neg (by omega),if_neg hb]
  have l1:=Cx.unit_len enc a
  have e1:=Cx.wv_unit enc a r he
  rw [e]
  have hP:Cx.isP (Cx.lowOf enc) (Cx.unit enc a ++ r)=false:=by
   unfold Cx.isP
   rw [e1]
   have:Cx.hiU a=false:=by unfold Cx.hiU;simp;omega
   rw [this,Bool.and_false,Bool.false_and]
  unfold Cx.first16
  rw [if_neg (by simp only [List.length_append,l1];omega),hP,if_neg (by simp),e1,l1]
  rfl
theorem Cx.read (enc a:Int) (r:List Int) (h:Cx.isSc a=true) (hf:Cx.fits enc a=true) (hr:Byt r) (he:enc=1∨enc=2∨enc=3∨enc=4):Cx.fst enc (Cx.put enc a ++ r)=(a,((Cx.put enc a).length:Int)):=by
 rcases he with rfl | rfl | rfl | rfl
 ·exact Cx.read1 a r h hr
 ·exact Cx.read2 2 a r h (.inl rfl)
 ·exact Cx.read2 3 a r h (.inr rfl)
 ·have hs:=(Cx.sc_iff a).1 h
  have e:Cx.put 4 a=[a]:=by unfold Cx.put;rw [if_neg (by omega)];rfl
  rw [e];rfl
end Go.Proofs.YtjomfbegghgbdaaGreat

namespace Go.Proofs.YtjomfbegghgbdaaGreat
open Go.RowKit
theorem Cx.put_ne (enc a:Int):Cx.put enc a≠[]:=by
 unfold Cx.put Cx.put8 Cx.unit
 repeat' split
 all_goals simp
theorem Cx.fst_put16 (enc a:Int) (he:enc=2∨enc=3) (hf:-256≤a∧a≤1114111) (hns:¬ ((0≤a∧a < 55296)∨(57343 < a∧a≤1114111))):Cx.fst enc (Cx.put enc a)=(a,((Cx.put enc a).length:Int)):=by
 rw [Cx.fst_low enc _ he]
 by_cases h0:a < 0
 ·have hp:Cx.put enc a=[-1 - a]:=by unfold Cx.put;rw [if_pos h0]
  rw [hp]
  unfold Cx.first16
  rw [if_pos (show [-1 - a].length=1 from rfl)]
  simp [Cx.c0]
  omega
 ·have hp:Cx.put enc a=Cx.unit enc a:=by unfold Cx.put;rw [if_neg h0,if_neg (by omega),if_neg (by omega),if_neg (by omega)]
  have hl:=Cx.unit_len enc a
  have hw:=Cx.wv_unit enc a [] he
  rw [List.append_nil] at hw
  rw [hp]
  unfold Cx.first16
  rw [if_neg (by omega),hl]
  have hP:Cx.isP (Cx.lowOf enc) (Cx.unit enc a)=false:=by unfold Cx.isP;rw [hl];simp
  rw [hP,hw]
  rfl
theorem Cx.fst_put (enc a:Int) (he:Cx.En enc) (hf:Cx.fits enc a=true):Cx.fst enc (Cx.put enc a)=(a,((Cx.put enc a).length:Int)):=by
 by_cases hs:Cx.isSc a=true
 ·have:=Cx.read enc a [] hs hf (fun _ h=>by cases h) he
  rwa [List.append_nil] at this
 ·have hns:¬ ((0≤a∧a < 55296)∨(57343 < a∧a≤1114111)):=fun h=>hs ((Cx.sc_iff a).2 h)
  rcases he with rfl | rfl | rfl | rfl
  ·have hf':-256≤a∧a≤-129:=by
    unfold Cx.fits at hf
    simp [hs] at hf
    omega
   have hp:Cx.put 1 a=[-1 - a]:=by unfold Cx.put;rw [if_pos (by omega)]
   rw [hp]
   show Cx.first8 [-1 - a]=_
   rcases Cx.fst8_cases [-1 - a] with ⟨h1,h2,_⟩ | ⟨_,h2⟩
   ·have hm:Cx.mtch [-1 - a]=1:=by simp at h2;omega
    rw [Cx.mtch_eq] at hm
    split at hm
    ·unfold Cx.rowN Cx.c0 at hm
     simp at hm
     repeat' split at hm
     all_goals omega
    ·omega
   ·rw [h2]
    simp [Cx.c0]
    omega
  ·exact Cx.fst_put16 2 a (.inl rfl) (by unfold Cx.fits at hf;simp at hf;omega) hns
  ·exact Cx.fst_put16 3 a (.inr rfl) (by unfold Cx.fits at hf;simp at hf;omega) hns
  ·exfalso
   unfold Cx.fits at hf
   simp at hf
   omega
theorem Cx.dec_put (enc a:Int) (he:Cx.En enc) (hf:Cx.fits enc a=true):Cx.dec enc (Cx.put enc a)=[a]:=by
 rw [Cx.dec_cons enc (Cx.put enc a) (Cx.put_ne enc a) a _ (Cx.fst_put enc a he hf),List.drop_length,Cx.dec_nil]
theorem Cx.lst_put (enc a:Int) (he:Cx.En enc) (hf:Cx.fits enc a=true):(Cx.lst enc (Cx.put enc a)).1=a:=by
 obtain ⟨l,hl⟩:=Cx.dec_last enc he _ (Cx.put enc a) (Nat.le_refl _) (Cx.put_byt enc a hf) (Cx.put_ne enc a)
 rw [Cx.dec_put enc a he hf] at hl
 have:=congrArg List.getLast? hl
 simp at this
 exact this.symm
end Go.Proofs.YtjomfbegghgbdaaGreat

namespace Go.Proofs.YtjomfbegghgbdaaGreat
open Go.RowKit
section
variable {P:Program} (w:World)
theorem run_append_blk (base:Nat) (t ty e:TypeId) (i:TypeInfo) (z:Value) (size bytes:Nat) (ht:P.underlying t=some (.slice e)) (hi:P.info? e=some i) (hz:i.zero=some z)
  (hsize:i.size=size) (hby:i.bytes=bytes) (hzs:z.cells.size=size) (hsz:0 < size)
  (v:Value) (n:Nat) (xs:List Value) (hown:w.ownsRow base e size v n xs)
  (a:Addr) (m c:Nat) (news:List Value) (hl:news.length=m * size) (hnews:∀ j u,news[j]?=some u→w.cell? (a.add j)=some u) (h1:∀ u ∈ news,u.oneCell'=true)
  (h63:n + m≤maxLen) (hbytes:(n + m) * bytes≤140737488355328) (hbase:base≤w.heap.size) (hm:0 < m) :
  ∃ v' w',(Builtin.append_ #[t,t] ty #[v,.slice (some a) m c]).run P w=.ok v' w'∧w'.ownsRow base e size v' (n + m) (xs ++ news)∧w.grownBy w' v.ownBlock ∧
    (v'.ownBlock=v.ownBlock∨v'.ownBlock=some w.heap.size):=by
 obtain ⟨v',w',hr,h2,h3,_⟩:=run_append_own (P:=P) w base t ty e i z size bytes ht hi hz hsize hby hzs hsz v n xs hown a m c news hl hnews h1 h63 hbytes hbase
 refine ⟨v',w',hr,h2,h3,?_⟩
 subst hsize
 subst hby
 have hsmall:n + m≤9223372036854775807:=by simp only [maxLen] at h63;omega
 rcases hown.2 with ⟨rfl,rfl⟩ | ⟨g,cap,cur,rfl,hbg,hg,hnc,hcm,hcs,htake⟩
 ·have h:=run_append_nil (P:=P) w t ty e i z ht hi hz a m c news hl hnews hm (by omega) (by simp only [Nat.zero_add] at hbytes;omega)
  rw [h] at hr
  cases hr
  exact .inr rfl
 ·by_cases hroom:n + m≤cap
  ·have hfit:n * i.size + news.length≤cur.size:=by rw [hl,hcs,← Nat.add_mul];exact Nat.mul_le_mul_right _ hroom
   have h:=run_append_room (P:=P) w t ty e i ht hi g n cap cur hg a m c news hl hnews h1 hroom hfit
   rw [h] at hr
   cases hr
   exact .inl rfl
  ·have holds:∀ j u,xs[j]?=some u→w.cell? ((⟨g,0,none⟩:Addr).add j)=some u:=hown.cells (g:=g) rfl
   have h:=run_append_grow (P:=P) w t ty e i z ht hi hz ⟨g,0,none⟩ n cap xs hown.1 holds a m c news hl hnews (by omega) (by omega) (growslice_fits (by omega) hbytes)
   rw [h] at hr
   cases hr
   exact .inr rfl
end
end Go.Proofs.YtjomfbegghgbdaaGreat

namespace Go.Proofs.YtjomfbegghgbdaaGreat
open Go.RowKit
set_option maxRecDepth 100000 in
theorem rDecode_any (enc:Int) (v:Value) (zs:List Int) (w:World) (h:Rd .u8 w v zs) (hb:Byt zs) (hz:zs.length * 8≤140737488355328) :
  Calls Tryz.prog 50 #[.int .i64 enc,v] w fun e w'=>∃ v',e=.returned (.tuple #[v',.int .i64 (Cx.er enc)])∧w'.ownsRow w.heap.size 3 1 v' (Cx.dd enc zs).length ((Cx.dd enc zs).map (Value.int .i64))∧Below w.heap.size w w':=by
 obtain ⟨i0,hi,hz0,hz1,hz2⟩:=info_parts Tryz.info_i64
 have HR:Hid (Rd .u8 w v zs):=h
 have HB:Hid (Byt zs):=hb
 obtain ⟨ao,cap,rfl,_⟩:=id h
 clear h hb
 cases hk:Cx.known enc
 ·have HE:Hid (Cx.dd enc zs=[]):=Cx.dd_no enc zs hk
  have HX:Hid (Cx.er enc=10):=by unfold Hid Cx.er;rw [hk];rfl
  go_enter Tryz.func50,Tryz.ntmps50
  go_wp2_with (go_at_call 73;refine (rknown_any _ _).mono ?_;rintro e w' ⟨rfl,rfl⟩;rw [hk])
  go_ret2
  exact ⟨_,by rw [HX.out];rfl,by rw [HE.out];exact World.ownsRow_nil _ _ _ _,Below.refl _ _⟩
 ·have HX:Hid (Cx.er enc=0):=by unfold Hid Cx.er;rw [hk];rfl
  have HE:Hid (Cx.dd enc zs=Cx.dec enc zs):=Cx.dd_yes enc zs hk
  have HK:Hid (enc=1∨enc=2∨enc=3∨enc=4):=(Cx.known_iff enc).1 hk
  go_enter Tryz.func50,Tryz.ntmps50
  go_wp2_with (go_at_call 73;refine (rknown_any _ _).mono ?_;rintro e w0 ⟨rfl,rfl⟩;rw [hk])
  rename_i w
  go_loopw [7,8] (fun o i wr=>∃ (k:Nat) (l:List Int),k≤zs.length∧i=.int .i64 k∧Hid (Cx.dec enc zs=l ++ Cx.dec enc (zs.drop k))∧l.length≤k∧wr.ownsRow w0.heap.size 3 1 o l.length (l.map (Value.int .i64))∧Below w0.heap.size w0 wr) (fun _ i _=>zs.length - (intOf i).toNat)
  case atStart=>exact ⟨0,[],Nat.zero_le _,rfl,rfl,Nat.le_refl _,World.ownsRow_nil _ _ _ _,Below.refl _ _⟩
  case round =>
   obtain ⟨k,l,hk1,rfl,HD,hle,hown,hbw⟩:=hrel
   have hw':w0.heap.size≤wr.heap.size:=hbw.size
   by_cases hlt:k < zs.length
   ·have hn:zs.drop k≠[]:=List.length_pos_iff.1 (by rw [List.length_drop];omega)
    obtain ⟨a,n,hf,hn1,hn2⟩:∃ (a:Int) (n:Nat),Cx.fst enc (zs.drop k)=(a,(n:Int))∧1≤n∧n≤(zs.drop k).length:=by
     have:=Cx.fst_bd enc (zs.drop k) hn
     exact ⟨_,(Cx.fst enc (zs.drop k)).2.toNat,Prod.ext rfl (by simp only;omega),by omega,by omega⟩
    have HF:Hid (Cx.fst enc (zs.drop k)=(a,(n:Int))):=hf
    have HD':Hid (Cx.dec enc zs=(l ++ [a]) ++ Cx.dec enc (zs.drop (k + n))):=by unfold Hid;rw [HD.out,Cx.dec_cons enc _ hn a n hf,List.drop_drop];simp
    rw [List.length_drop] at hn2
    have HT':Hid (l.map (Value.int .i64) ++ [Value.int .i64 a]=(l ++ [a]).map (Value.int .i64)):=snoc_map l a
    clear hf hn HD
    generalize l.map (Value.int .i64)=ml at hown HT'
    go_wp2_with fail
    refine (At_fst enc _ zs k a n _ (HR.out.ext hbw) HB.out HK.out hlt (by omega) HF.out).mono ?_
    rintro e w1 ⟨rfl,hb1⟩
    have hown1:=own_ext hown hb1
    have hbw1:Below w0.heap.size w0 w1:=ext_trans hbw hb1
    have hw1:w0.heap.size≤w1.heap.size:=hbw1.size
    clear hown hbw hb1
    go_wp2_with (at_builtin;refine wpList_append_own _ rfl _ _ 27 rfl w0.heap.size 3 i0 (.int .i64 0) 1 8 Tryz.underlying27 hi hz0 hz1 hz2 rfl (by decide) _ _ _ rfl (hown1.alloc _) ⟨w1.heap.size,0,none⟩ 1 1 [.int .i64 a] rfl rfl (cell_one_new _ _ _) (one_i64 _) (by unfold maxLen;omega) (by omega) (by simp;omega) ?_;intro v' w' hown' hg' hx')
    go_roundw
    case rel=>exact ⟨k + n,l ++ [a],by omega,by go_num,HD'.out,by rw [List.length_append,List.length_singleton];omega,by rw [List.length_append];rw [HT'.out] at hown';exact hown',below_push hbw1 hown1 hg'⟩
    case measure=>simp [intOf];omega
   ·have hke:k=zs.length:=by omega
    subst hke
    have HT:Hid (Cx.dd enc zs=l):=by unfold Hid;rw [HE.out,HD.out,List.drop_length,Cx.dec_nil,List.append_nil]
    clear HD
    go_wp2
    go_ret2
    exact ⟨_,by rw [HX.out];rfl,by rw [HT.out];exact hown,hbw⟩
end Go.Proofs.YtjomfbegghgbdaaGreat

namespace Go.Proofs.YtjomfbegghgbdaaGreat.P
open Go.RowKit
def sg (a k:Int):Rs:=⟨1,k,if a=10∨a=13 then 1 else 0,decide (a=10),decide (a=13)⟩
theorem size_nn (enc a:Int):0≤Cx.size enc a:=by unfold Cx.size;split <;> omega
theorem sg_ok (a k:Int) (h:0≤k):Rs.Ok (sg a k):=by
 unfold sg
 refine ⟨by simp,h,?_,?_,fun h=>by simp at h⟩
 ·simp only;split <;> omega
 ·simp only [decide_eq_true_eq];intro e;rw [if_pos (.inl e)];omega
def aA (enc:Int):Alg Int Rs where
 zero:=Rs.zero
 add:=Rs.add
 meas:=fun a=>sg a (Cx.size enc a)
 key:=Rs.key
 Ok:=Rs.Ok
 okz:=Rs.ok_zero
 okm:=fun a=>sg_ok a _ (size_nn enc a)
 oka:=fun _ _ ha hb=>Rs.ok_add ha hb
 assoc:=Rs.assoc
 zadd:=fun a _=>Rs.zadd a
 addz:=Rs.addz
 mono:=Rs.mono
 keyz:=fun k=>by unfold Rs.key Rs.zero;simp
def spn (enc:Int) (l:List Int):Rs:=(aA enc).su l
theorem spn_nil (enc:Int):spn enc []=Rs.zero:=rfl
theorem spn_app (enc:Int) (a b:List Int):spn enc (a ++ b)=Rs.add (spn enc a) (spn enc b):=(aA enc).su_app a b
theorem spn_snoc (enc:Int) (a:List Int) (x:Int):spn enc (a ++ [x])=Rs.add (spn enc a) (sg x (Cx.size enc x)):=(aA enc).su_snoc a x
theorem spn_cons (enc:Int) (x:Int) (l:List Int):spn enc (x :: l)=Rs.add (sg x (Cx.size enc x)) (spn enc l):=(aA enc).su_cons x l
theorem spn_ok (enc:Int) (l:List Int):Rs.Ok (spn enc l):=(aA enc).ok l
theorem add_as (x y:Rs) (hx:Rs.Ok x) (hy:Rs.Ok y):(Rs.add x y).a=x.a + y.a∧(Rs.add x y).s=x.s + y.s:=by
 unfold Rs.add
 by_cases h1:x.a=0
 ·rw [if_pos h1,hx.z h1];exact ⟨(Int.zero_add _).symm,(Int.zero_add _).symm⟩
 ·rw [if_neg h1]
  by_cases h2:y.a=0
  ·rw [if_pos h2,hy.z h2];exact ⟨(Int.add_zero _).symm,(Int.add_zero _).symm⟩
  ·rw [if_neg h2];exact ⟨rfl,rfl⟩
theorem spn_as (enc:Int) (l:List Int) (h:∀ a ∈ l,Cx.fits enc a=true):(spn enc l).a=l.length∧(spn enc l).s=(Cx.encB enc l).length:=by
 induction l with
 | nil=>exact ⟨rfl,rfl⟩
 | cons x l ih =>
   obtain ⟨i1,i2⟩:=ih (fun a ha=>h a (List.mem_cons_of_mem _ ha))
   obtain ⟨k1,k2⟩:=add_as (sg x (Cx.size enc x)) (spn enc l) (sg_ok x _ (size_nn enc x)) (spn_ok enc l)
   rw [spn_cons,k1,k2,i1,i2,Cx.encB_cons,List.length_append,List.length_cons]
   have e:Cx.size enc x=(Cx.put enc x).length:=by unfold Cx.size;rw [if_pos (h x List.mem_cons_self)]
   refine ⟨?_,?_⟩
   ·show (1:Int) + _=_
    omega
   ·show Cx.size enc x + _=_
    rw [e];omega
theorem single_any (a k:Int) (w:World):Calls Tryz.prog 90 #[.int .i64 a,.int .i64 k] w fun e w'=>e=.returned (.agg #[.int .i64 (sg a k).a,.int .i64 (sg a k).s,.int .i64 (sg a k).b,.bool (sg a k).lf,.bool (sg a k).cr])∧Below w.heap.size w w':=by
 by_cases h1:a=10
 ·subst h1
  go_enter Tryz.func90,Tryz.ntmps90
  go_wp2_with fail
  exact bodyPost_ret (v:=.agg #[.int .i64 1,.int .i64 k,.int .i64 1,.bool true,.bool false]) (by simp [results,Tryz.results90,go_sem]) rfl ⟨rfl,by repeat (first | exact Below.refl _ _ | refine ext_alloc ?_ _)⟩
 by_cases h2:a=13
 ·subst h2
  go_enter Tryz.func90,Tryz.ntmps90
  go_wp2_with fail
  exact bodyPost_ret (v:=.agg #[.int .i64 1,.int .i64 k,.int .i64 1,.bool false,.bool true]) (by simp [results,Tryz.results90,go_sem]) rfl ⟨rfl,by repeat (first | exact Below.refl _ _ | refine ext_alloc ?_ _)⟩
 ·have e:sg a k=⟨1,k,0,false,false⟩:=by unfold sg;rw [if_neg (by omega)];simp [h1,h2]
  have b1:(a == 10)=false:=by simp [h1]
  have b2:(a == 13)=false:=by simp [h2]
  rw [e]
  clear e
  go_enter Tryz.func90,Tryz.ntmps90
  go_wp2_with fail
  exact bodyPost_ret (v:=.agg #[.int .i64 1,.int .i64 k,.int .i64 0,.bool false,.bool false]) (by simp [results,Tryz.results90,go_sem]) rfl ⟨rfl,by repeat (first | exact Below.refl _ _ | refine ext_alloc ?_ _)⟩
def tg (pl k:Int):Int:=if pl=-1 then -1 else pl + k
theorem tag_any (x:It) (k:Int) (w:World) (h0:-1≤x.pl) (hk:0≤k) (h1:x.pl + k≤9223372036854775807):Calls Tryz.prog 89 #[.agg #[.slice x.p x.n x.c,.int .i64 x.pl,.int .i64 x.sp.a,.int .i64 x.sp.s,.int .i64 x.sp.b,.bool x.sp.lf,.bool x.sp.cr],.int .i64 k] w fun e w'=>e=.returned (.int .i64 (tg x.pl k))∧Below w.heap.size w w':=by
 obtain ⟨p,n,c,pl,sp,ok⟩:=x
 simp only at *
 by_cases h:pl=-1
 ·have e:tg pl k=-1:=by unfold tg;rw [if_pos h]
  rw [e,h]
  go_enter Tryz.func89,Tryz.ntmps89
  go_wp2_with fail
  go_ret
  exact ⟨rfl,ext_alloc (Below.refl _ _) _⟩
 ·have e:tg pl k=pl + k:=by unfold tg;rw [if_neg h]
  have hb:(pl == -1)=false:=by simp [h]
  rw [e]
  clear e
  go_enter Tryz.func89,Tryz.ntmps89
  go_wp2_with fail
  go_ret
  exact ⟨rfl,ext_alloc (Below.refl _ _) _⟩
theorem Next_any (enc:Int) (he:Cx.En enc) (v:Value) (zs:List Int) (n:Nat) (w:World) (h:Rd .u8 w v zs) (hb:Byt zs) (hn:n < zs.length) :
  Calls Tryz.prog 88 #[.int .i64 enc,v,.int .i64 n] w fun e w'=>e=.returned (.tuple #[.int .i64 (Cx.fst enc (zs.drop n)).1,.int .i64 (Cx.fst enc (zs.drop n)).2])∧Below w.heap.size w w':=by
 rcases he with rfl | rfl | rfl | rfl
 ·exact Next_1 v zs n w h hb hn
 ·exact Next_2 v zs n w h hb hn
 ·exact Next_3 v zs n w h hb hn
 ·exact Next_4 v zs n w h hb hn
theorem Prev_any (enc:Int) (he:Cx.En enc) (v:Value) (zs:List Int) (n:Nat) (w:World) (h:Rd .u8 w v zs) (hb:Byt zs) (h0:0 < n) (hn:n≤zs.length) :
  Calls Tryz.prog 137 #[.int .i64 enc,v,.int .i64 n] w fun e w'=>e=.returned (.tuple #[.int .i64 (Cx.lst enc (zs.take n)).1,.int .i64 (Cx.lst enc (zs.take n)).2])∧Below w.heap.size w w':=by
 rcases he with rfl | rfl | rfl | rfl
 ·exact Prev_1 v zs n w h hb h0 hn
 ·exact Prev_2 v zs n w h hb h0 hn
 ·exact Prev_3 v zs n w h hb h0 hn
 ·exact Prev_4 v zs n w h hb h0 hn
theorem endsWith_any (enc:Int) (he:Cx.En enc) (v:Value) (zs:List Int) (a:Int) (w:World) (h:Rd .u8 w v zs) (hb:Byt zs) (h0:0 < zs.length) :
  Calls Tryz.prog 113 #[.int .i64 enc,v,.int .i64 a] w fun e w'=>e=.returned (.bool (decide ((Cx.lst enc zs).1=a)))∧Below w.heap.size w w':=by
 have PV:=hidIt (Prev_any enc he v zs zs.length w h hb h0 (Nat.le_refl _))
 rw [List.take_length] at PV
 obtain ⟨ao,cap,rfl,_⟩:=h
 generalize (Cx.lst enc zs).1=q at *
 generalize (Cx.lst enc zs).2=q2 at *
 by_cases hq:q=a
 ·have hq':(q == a)=true:=by simp [hq]
  have hd:decide (q=a)=true:=by simp [hq]
  rw [hd]
  clear hq hd
  go_enter Tryz.func113,Tryz.ntmps113
  go_wp2_with (go_at_call 137;refine PV.out.mono ?_;rintro e w1 ⟨rfl,hb1⟩;have HB1:=hidIt hb1;clear hb1)
  go_ret
  exact ⟨rfl,HB1.out⟩
 ·have hq':(q == a)=false:=by simp [hq]
  have hd:decide (q=a)=false:=by simp [hq]
  rw [hd]
  clear hd
  go_enter Tryz.func113,Tryz.ntmps113
  go_wp2_with (go_at_call 137;refine PV.out.mono ?_;rintro e w1 ⟨rfl,hb1⟩;have HB1:=hidIt hb1;clear hb1)
  go_ret
  exact ⟨rfl,HB1.out⟩
end Go.Proofs.YtjomfbegghgbdaaGreat.P

namespace Go.Proofs.YtjomfbegghgbdaaGreat.P
open Go.RowKit
def off (enc:Int) (zs:List Int) (j:Nat):Nat:=(Cx.encB enc ((Cx.dec enc zs).take j)).length
theorem off_le (enc:Int) (he:Cx.En enc) (zs:List Int) (hB:Byt zs) (j:Nat) (h:j≤(Cx.dec enc zs).length):off enc zs j≤zs.length:=(Cx.dec_cut enc he j zs hB h).1
theorem off_step (enc:Int) (he:Cx.En enc) (zs:List Int) (hB:Byt zs) (j:Nat) (h:j < (Cx.dec enc zs).length) :
  off enc zs j < zs.length∧∃ (a:Int) (s:Nat),Cx.fst enc (zs.drop (off enc zs j))=(a,(s:Int))∧(Cx.dec enc zs)[j]?=some a∧off enc zs (j + 1)=off enc zs j + s∧1≤s∧Cx.fits enc a=true∧Cx.size enc a=s:=by
 obtain ⟨h1,h2,h3⟩:=Cx.dec_cut enc he j zs hB (by omega)
 have e0:(Cx.encB enc ((Cx.dec enc zs).take j)).length=off enc zs j:=rfl
 rw [e0] at h1 h2 h3
 have hne:zs.drop (off enc zs j)≠[]:=by
  intro e
  rw [e,Cx.dec_nil] at h2
  have:=congrArg List.length h2
  rw [List.length_nil,List.length_drop] at this
  omega
 have hlt:off enc zs j < zs.length:=by
  have:0 < (zs.drop (off enc zs j)).length:=List.length_pos_iff.2 hne
  rw [List.length_drop] at this
  omega
 obtain ⟨a,s,hf,s1,s2,hp,hl,hfit,hd⟩:=Cx.dec_step enc he (zs.drop (off enc zs j)) (hB.drop _) hne
 have hj:(Cx.dec enc zs)[j]?=some a:=by
  have:=congrArg (fun l=>l[0]?) h2
  simp only [List.getElem?_drop,Nat.add_zero] at this
  rw [← this,hd];rfl
 refine ⟨hlt,a,s,hf,hj,?_,s1,hfit,?_⟩
 ·show (Cx.encB enc ((Cx.dec enc zs).take (j + 1))).length=_
  rw [List.take_add_one,hj,Option.toList_some,Cx.encB_app,List.length_append,e0]
  congr 1
  simp [Cx.encB,hl]
 ·unfold Cx.size;rw [if_pos hfit,hl]
theorem off_one (enc:Int) (he:Cx.En enc) (zs:List Int) (hB:Byt zs) (h:zs.length=(Cx.dec enc zs).length):∀ j,j≤(Cx.dec enc zs).length→off enc zs j=j:=by
 have lo:∀ j,j≤(Cx.dec enc zs).length→j≤off enc zs j:=by
  intro j
  induction j with
  | zero=>intro _;exact Nat.zero_le _
  | succ j ih =>
    intro hj
    obtain ⟨_,a,s,_,_,h1,h2,_⟩:=off_step enc he zs hB j (by omega)
    have:=ih (by omega)
    omega
 have hi:∀ d j,j + d=(Cx.dec enc zs).length→off enc zs j + d≤zs.length:=by
  intro d
  induction d with
  | zero=>intro j hj;rw [Nat.add_zero] at hj ⊢;exact off_le enc he zs hB j (by omega)
  | succ d ih =>
    intro j hj
    obtain ⟨_,a,s,_,_,h1,h2,_⟩:=off_step enc he zs hB j (by omega)
    have:=ih (j + 1) (by omega)
    omega
 intro j hj
 have h1:=lo j hj
 have h2:=hi ((Cx.dec enc zs).length - j) j (by omega)
 omega
set_option maxRecDepth 100000 in
set_option maxHeartbeats 1000000 in
theorem skip_any (enc:Int) (he:Cx.En enc) (x:It) (zs:List Int) (n:Nat) (w:World) (hR:Rd .u8 w (.slice x.p x.n x.c) zs) (hB:Byt zs) (hl:zs.length≤4611686018427387904) (ha:x.sp.a=(Cx.dec enc zs).length) (hn:n≤(Cx.dec enc zs).length) :
  Calls Tryz.prog 87 #[.agg #[.slice x.p x.n x.c,.int .i64 x.pl,.int .i64 x.sp.a,.int .i64 x.sp.s,.int .i64 x.sp.b,.bool x.sp.lf,.bool x.sp.cr],.int .i64 enc,.int .i64 n] w fun e w'=>e=.returned (.int .i64 (off enc zs n:Nat))∧Below w.heap.size w w':=by
 have hxn:x.n=zs.length:=by obtain ⟨_,_,e,_⟩:=hR;simp only [Value.slice.injEq] at e;exact e.2.1
 obtain ⟨p,xn,c,pl,⟨a,s,b,lf,cr⟩,ok⟩:=x
 simp only at *
 subst hxn
 have hdl:(Cx.dec enc zs).length≤zs.length:=Cx.dec_len enc _ _
 by_cases h1:zs.length=(Cx.dec enc zs).length
 ·have HE:=hidIt (off_one enc he zs hB h1 n hn)
  have hz:((zs.length:Int) == a)=true:=by rw [ha,h1];simp
  clear ha
  rw [HE.out]
  go_enter Tryz.func87,Tryz.ntmps87
  go_wp2_with fail
  go_ret
  exact ⟨rfl,ext_alloc (Below.refl _ _) _⟩
 ·have hz:((zs.length:Int) == a)=false:=by rw [ha];simp;omega
  have hz':¬ (zs.length:Int)=a:=by rw [ha];omega
  obtain ⟨w0,hw0⟩:∃ w0,w0=w.alloc (.cells #[.slice p zs.length c,.int .i64 pl,.int .i64 a,.int .i64 s,.int .i64 b,.bool lf,.bool cr] 113):=⟨_,rfl⟩
  have hb0:Below w.heap.size w w0:=by rw [hw0];exact ext_alloc (Below.refl _ _) _
  have HB0:=hidIt hb0
  have hX:w0.heap[w.heap.size]?=some (.cells #[.slice p zs.length c,.int .i64 pl,.int .i64 a,.int .i64 s,.int .i64 b,.bool lf,.bool cr] 113 (0,0)):=by rw [hw0];exact heap_alloc_new _ _
  have hzl:w.heap.size < w0.heap.size:=(Array.getElem?_eq_some_iff.1 hX).1
  have d0:w0.cell? ⟨w.heap.size,0,none⟩=some (.slice p zs.length c):=by rw [cell_of_row w0 _ _ _ _ _ hX];rfl
  have HC:Hid (∀ w',Below w0.heap.size w0 w'→w'.cell? ⟨w.heap.size,0,none⟩=some (.slice p zs.length c)∧Rd .u8 w' (.slice p zs.length c) zs):=fun w' h=>⟨(h.cell (p:=⟨w.heap.size,0,none⟩) hzl).trans d0,(hR.ext hb0).ext h⟩
  have ST:=hidIt (off_step enc he zs hB)
  have HLE:=hidIt (off_le enc he zs hB)
  have HBY:=hidIt hB
  have HEN:=hidIt he
  clear ha hX d0 hR hb0 hB he
  go_enter Tryz.func87,Tryz.ntmps87
  go_upto_region 4 with fail
  rw [← hw0]
  clear hw0
  go_wp2_with fail
  go_loopg [7,19] n (fun gk k p wr=>∃ j:Nat,j + gk=n∧k=.int .i64 (off enc zs j:Nat)∧p=.int .i64 (j:Nat)∧Hid (Below w0.heap.size w0 wr))
  case atStart=>exact ⟨0,by omega,rfl,rfl,Below.refl _ _⟩
  case round =>
   obtain ⟨j,hj,rfl,rfl,HB⟩:=hrel
   by_cases hi:j < n
   ·have hi':(j:Int) < (n:Int):=by omega
    obtain ⟨q1,q,sz,hf,hq,ho,hs1,hfit,hsz⟩:=ST.out j (by omega)
    have hle:=HLE.out (j + 1) (by omega)
    obtain ⟨c0,hrd⟩:=HC.out wr HB.out
    have NX:=hidIt (Next_any enc HEN.out _ zs (off enc zs j) wr hrd HBY.out q1)
    rw [hf] at NX
    have HO:=hidIt ho
    rw [ho] at hle
    clear hrd ho hq hfit hsz hf
    generalize off enc zs j=k at *
    go_wp2_with (go_at_call 88;refine NX.out.mono ?_;clear c0;rintro e w1 ⟨rfl,hb1⟩;have HB1:=hidIt (ext_trans HB.out hb1);clear hb1)
    go_roundg (n - (j + 1))
    case rel=>exact ⟨j + 1,by omega,by rw [HO.out];go_num,by go_num,HB1.out⟩
    case measure=>omega
   ·have hi':¬ (j:Int) < (n:Int):=by omega
    obtain rfl:j=n:=by omega
    have HBE:=hidIt (ext_trans HB0.out HB.out)
    go_wp2_with fail
    go_ret
    exact ⟨rfl,HBE.out⟩
end Go.Proofs.YtjomfbegghgbdaaGreat.P

namespace Go.Proofs.YtjomfbegghgbdaaGreat.P
open Go.RowKit
def bhd (s h:Rs) (nx:Int):Rs:=⟨s.a - h.a,s.s - h.s,s.b - h.b + (if h.cr=true∧nx=10 then 1 else 0),decide (nx=10),s.cr⟩
theorem spn_lf (enc y:Int) (l:List Int):(spn enc (y :: l)).lf=decide (y=10):=by
 rw [spn_cons]
 unfold Rs.add
 rw [if_neg (by simp [sg])]
 split
 ·rfl
 ·rfl
theorem spn_pos (enc:Int) (l:List Int) (h:l≠[]):0 < (spn enc l).a:=by
 cases l with
 | nil=>exact absurd rfl h
 | cons y l =>
   rw [spn_cons,(add_as _ _ (sg_ok y _ (size_nn enc y)) (spn_ok enc l)).1]
   have:=(spn_ok enc l).a0
   show 0 < (1:Int) + _
   omega
theorem spn_b (enc:Int) (l:List Int):(spn enc l).b≤l.length:=by
 induction l with
 | nil=>exact Int.le_refl _
 | cons x l ih =>
   rw [spn_cons,List.length_cons]
   have k:(sg x (Cx.size enc x)).b≤1:=by unfold sg;simp only;split <;> omega
   have m:=Rs.mlt_range (sg x (Cx.size enc x)) (spn enc l)
   unfold Rs.add
   split
   ·omega
   ·split
    ·omega
    ·simp only;omega
theorem bhd_spn (enc:Int) (h:List Int) (y:Int) (r:List Int) (hh:h≠[]):bhd (spn enc (h ++ y :: r)) (spn enc h) y=spn enc (y :: r):=by
 have p1:=spn_pos enc h hh
 have p2:=spn_pos enc (y :: r) (by simp)
 have hl:=spn_lf enc y r
 rw [spn_app]
 generalize spn enc h=a at *
 generalize spn enc (y :: r)=b at *
 unfold Rs.add
 rw [if_neg (by omega),if_neg (by omega)]
 unfold bhd Rs.mlt
 obtain ⟨b1,b2,b3,b4,b5⟩:=b
 simp only at *
 subst hl
 simp only [Rs.mk.injEq,decide_eq_true_eq]
 refine ⟨by omega,by omega,?_,by simp,by simp⟩
 split <;> omega
set_option maxRecDepth 100000 in
set_option maxHeartbeats 1000000 in
theorem behind_any (s h:Rs) (nx:Int) (w:World) (h1:0≤s.a - h.a∧s.a≤4611686018427387904∧0≤h.a) (h2:0≤s.s - h.s∧s.s≤4611686018427387904∧0≤h.s) (h3:-1≤s.b - h.b∧s.b≤4611686018427387904∧0≤h.b) :
  Calls Tryz.prog 115 #[.agg #[.int .i64 s.a,.int .i64 s.s,.int .i64 s.b,.bool s.lf,.bool s.cr],.agg #[.int .i64 h.a,.int .i64 h.s,.int .i64 h.b,.bool h.lf,.bool h.cr],.int .i64 nx] w fun e w'=>e=.returned (.agg #[.int .i64 (bhd s h nx).a,.int .i64 (bhd s h nx).s,.int .i64 (bhd s h nx).b,.bool (bhd s h nx).lf,.bool (bhd s h nx).cr])∧Below w.heap.size w w':=by
 obtain ⟨a1,s1,b1,f1,r1⟩:=s
 obtain ⟨a2,s2,b2,f2,r2⟩:=h
 simp only at *
 have MT:Hid (∀ w',Calls Tryz.prog 84 #[.agg #[.int .i64 a2,.int .i64 s2,.int .i64 b2,.bool f2,.bool r2],.agg #[.int .i64 (a1 - a2),.int .i64 (s1 - s2),.int .i64 (b1 - b2),.bool (decide (nx=10)),.bool r1]] w' fun e w''=>e=.returned (.bool (r2 && decide (nx=10)))∧Below w'.heap.size w' w''):=fun w'=>melt_any ⟨a2,s2,b2,f2,r2⟩ ⟨a1 - a2,s1 - s2,b1 - b2,decide (nx=10),r1⟩ w'
 obtain ⟨w4,hw4⟩:∃ w4,w4=(((w.alloc (.cells #[.int .i64 a1,.int .i64 s1,.int .i64 b1,.bool f1,.bool r1] 110)).alloc (.cells #[.int .i64 a2,.int .i64 s2,.int .i64 b2,.bool f2,.bool r2] 110)).alloc (.cells #[.int .i64 0,.int .i64 0,.int .i64 0,.bool false,.bool false] 110)).alloc (.cells #[.int .i64 (a1 - a2),.int .i64 (s1 - s2),.int .i64 (b1 - b2),.bool (decide (nx=10)),.bool r1] 110):=⟨_,rfl⟩
 have HB4:Hid (Below w.heap.size w w4):=by unfold Hid;rw [hw4];repeat (first | exact Below.refl _ _ | refine ext_alloc ?_ _)
 have K1:Hid (Blk 110 w4 (w.heap.size + 3) ⟨a1 - a2,s1 - s2,b1 - b2,decide (nx=10),r1⟩):=by
  unfold Hid Blk
  rw [hw4]
  have e:w.heap.size + 3=(((w.alloc (.cells #[.int .i64 a1,.int .i64 s1,.int .i64 b1,.bool f1,.bool r1] 110)).alloc (.cells #[.int .i64 a2,.int .i64 s2,.int .i64 b2,.bool f2,.bool r2] 110)).alloc (.cells #[.int .i64 0,.int .i64 0,.int .i64 0,.bool false,.bool false] 110)).heap.size:=by simp
  rw [e];exact heap_alloc_new _ _
 have K2:Hid (Blk 110 w4 (w.heap.size + 2) Rs.zero):=by
  unfold Hid
  rw [hw4]
  have e:w.heap.size + 2=((w.alloc (.cells #[.int .i64 a1,.int .i64 s1,.int .i64 b1,.bool f1,.bool r1] 110)).alloc (.cells #[.int .i64 a2,.int .i64 s2,.int .i64 b2,.bool f2,.bool r2] 110)).heap.size:=by simp
  rw [e]
  exact (Blk.new 110 _ Rs.zero).ext (ext_alloc (Below.refl _ _) _)
 obtain ⟨nb,hnb⟩:∃ nb:Bool,nb=decide (nx=10):=⟨_,rfl⟩
 have HNB:=hidIt hnb
 have hnb':(nx == 10)=nb:=by rw [hnb];rfl
 unfold bhd
 simp only
 rw [← hnb] at hw4 MT K1 ⊢
 have EB:Hid ((if r2=true∧nx=10 then (1:Int) else 0)=if (r2 && nb)=true then 1 else 0):=by unfold Hid;rw [hnb];simp only [Bool.and_eq_true,decide_eq_true_eq]
 rw [EB.out]
 clear hnb EB
 generalize (r2 && nb)=mb at MT ⊢
 go_enter Tryz.func115,Tryz.ntmps115
 go_wp2_with fail
 rw [← hw4]
 clear hw4
 refine (MT.out w4).mono ?_
 rintro e w5 ⟨rfl,hb5⟩
 have HB5:=hidIt (ext_trans HB4.out hb5)
 have G1:=hidIt (K1.out.ext hb5)
 have G2:=hidIt (K2.out.ext hb5)
 clear hb5 MT K1 K2 HB4
 obtain ⟨c0,_,_,_,cf⟩:=G1.out.cells
 obtain ⟨d0,_,_,_,df⟩:=G2.out.cells
 have l1:=G1.out.lt
 have l2:=G2.out.lt
 simp only at c0 d0
 cases mb
 ·go_wp2_with fail
  obtain ⟨p1,p2⟩:=G2.out.put ⟨a1 - a2,s1 - s2,b1 - b2,nb,r1⟩
  exact bodyPost_ret (v:=.agg #[.int .i64 (a1 - a2),.int .i64 (s1 - s2),.int .i64 (b1 - b2),.bool nb,.bool r1]) (by simp [results,Tryz.results115,go_sem,d0]) rfl ⟨by simp,below_put HB5.out HB5.out.size p2 (by omega)⟩
 ·go_wp2_with fail
  obtain ⟨n1,n2⟩:=set1 G1.out 2 (.int .i64 (b1 - b2 + 1))
  obtain ⟨p1,p2⟩:=(G2.out.other n2 (by omega)).put ⟨a1 - a2,s1 - s2,b1 - b2 + 1,nb,r1⟩
  have q1:(w5.setCell ⟨w.heap.size + 3,2,none⟩ (.int .i64 (b1 - b2 + 1))).heap.size=w5.heap.size:=by simp
  exact bodyPost_ret (v:=.agg #[.int .i64 (a1 - a2),.int .i64 (s1 - s2),.int .i64 (b1 - b2 + 1),.bool nb,.bool r1]) (by simp [results,Tryz.results115,go_sem,d0]) rfl ⟨by simp,below_put (below_put HB5.out HB5.out.size n2 (by omega)) (by rw [q1];exact HB5.out.size) p2 (by omega)⟩
end Go.Proofs.YtjomfbegghgbdaaGreat.P
