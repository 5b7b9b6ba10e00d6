import Derived.Test.YtgfdfajblidleaaGreatK10
set_option maxRecDepth 100000
namespace Go.Proofs.YtgfdfajblidleaaGreat
open Go.RowKit
set_option maxHeartbeats 2000000 in
theorem Next_1 (v:Value) (zs:List Int) (n:Nat) (w:World) (h:Rd .u8 w v zs) (hb:Byt zs) (hn:n < zs.length) :
  Calls Tryz.prog 64 #[.int .i64 1,v,.int .i64 n] w fun e w'=>e=.returned (.tuple #[.int .i64 (Cx.fst 1 (zs.drop n)).1,.int .i64 (Cx.fst 1 (zs.drop n)).2])∧Below w.heap.size w w':=by
 have HR:Hid (Rd .u8 w v zs):=h
 have HB:Hid (Byt zs):=hb
 have hlen:=h.len
 obtain ⟨ao,cap,rfl,hl,hm,hc⟩:=h
 obtain ⟨b,off,rfl,_⟩:=hc (List.length_pos_iff.1 (by omega))
 have HN:Hid (zs.drop n≠[]):=List.length_pos_iff.1 (by rw [List.length_drop];omega)
 obtain ⟨a,m,hf⟩:∃ (a:Int) (m:Nat),Cx.fst 1 (zs.drop n)=(a,(m:Int)):=by
  have:=Cx.fst_bd 1 (zs.drop n) HN.out
  exact ⟨_,(Cx.fst 1 (zs.drop n)).2.toNat,Prod.ext rfl (by simp only;omega)⟩
 have HF:Hid (Cx.fst 1 (zs.drop n)=(a,(m:Int))):=hf
 have hcn:¬ cap=n:=by omega
 have HC:Hid (Rd .u8 w (.slice (some ⟨b,off + n,none⟩) (zs.length - n) (cap - n)) (zs.drop n)):=HR.out.cut (by omega)
 have hcm:cap≤9223372036854775807:=hm
 rw [hf]
 clear hb hc hf hm
 have hmt:=m_first1
 have hnt:=n_first1
 go_enter Tryz.func64,Tryz.ntmps64
 go_wp2_with fail
 refine (coderOf_1 _).mono ?_
 rintro e w' ⟨rfl,rfl⟩
 go_wp2_with fail
 first | go_region_with (go_at_call 131;refine (fst1_any _ (zs.drop n) a m _ (HC.out.ext (by repeat (first | exact Below.refl _ _ | apply below_drewN | refine zxa ?_ _ | apply Below.drew))) (HB.out.drop n) HN.out HF.out).mono ?_;rintro e w1 ⟨rfl,hb1⟩;have HW1:Hid (Below w'.heap.size w' w1):=zxt (by repeat (first | exact Below.refl _ _ | apply below_drewN | refine zxa ?_ _ | apply Below.drew)) hb1;clear hb1) | fail
 all_goals
  go_wp2
  go_ret2
  exact ⟨rfl,(by repeat (first | exact HW1.out | exact Below.refl _ _ | apply below_drewN | refine zxa ?_ _ | apply Below.drew))⟩
set_option maxHeartbeats 2000000 in
theorem Next_2 (v:Value) (zs:List Int) (n:Nat) (w:World) (h:Rd .u8 w v zs) (hb:Byt zs) (hn:n < zs.length) :
  Calls Tryz.prog 64 #[.int .i64 2,v,.int .i64 n] w fun e w'=>e=.returned (.tuple #[.int .i64 (Cx.fst 2 (zs.drop n)).1,.int .i64 (Cx.fst 2 (zs.drop n)).2])∧Below w.heap.size w w':=by
 have HR:Hid (Rd .u8 w v zs):=h
 have HB:Hid (Byt zs):=hb
 have hlen:=h.len
 obtain ⟨ao,cap,rfl,hl,hm,hc⟩:=h
 obtain ⟨b,off,rfl,_⟩:=hc (List.length_pos_iff.1 (by omega))
 have HN:Hid (zs.drop n≠[]):=List.length_pos_iff.1 (by rw [List.length_drop];omega)
 obtain ⟨a,m,hf⟩:∃ (a:Int) (m:Nat),Cx.fst 2 (zs.drop n)=(a,(m:Int)):=by
  have:=Cx.fst_bd 2 (zs.drop n) HN.out
  exact ⟨_,(Cx.fst 2 (zs.drop n)).2.toNat,Prod.ext rfl (by simp only;omega)⟩
 have HF:Hid (Cx.fst 2 (zs.drop n)=(a,(m:Int))):=hf
 have hcn:¬ cap=n:=by omega
 have HC:Hid (Rd .u8 w (.slice (some ⟨b,off + n,none⟩) (zs.length - n) (cap - n)) (zs.drop n)):=HR.out.cut (by omega)
 have hcm:cap≤9223372036854775807:=hm
 rw [hf]
 clear hb hc hf hm
 have hmt:=m_first2
 have hnt:=n_first2
 go_enter Tryz.func64,Tryz.ntmps64
 go_wp2_with fail
 refine (coderOf_2 _).mono ?_
 rintro e w' ⟨rfl,rfl⟩
 go_wp2_with fail
 first | go_region_with (go_at_call 146;refine (fst2_any _ (zs.drop n) a m _ (HC.out.ext (by repeat (first | exact Below.refl _ _ | apply below_drewN | refine zxa ?_ _ | apply Below.drew))) (HB.out.drop n) HN.out HF.out).mono ?_;rintro e w1 ⟨rfl,hb1⟩;have HW1:Hid (Below w'.heap.size w' w1):=zxt (by repeat (first | exact Below.refl _ _ | apply below_drewN | refine zxa ?_ _ | apply Below.drew)) hb1;clear hb1) | fail
 all_goals
  go_wp2
  go_ret2
  exact ⟨rfl,(by repeat (first | exact HW1.out | exact Below.refl _ _ | apply below_drewN | refine zxa ?_ _ | apply Below.drew))⟩
set_option maxHeartbeats 2000000 in
theorem Next_3 (v:Value) (zs:List Int) (n:Nat) (w:World) (h:Rd .u8 w v zs) (hb:Byt zs) (hn:n < zs.length) :
  Calls Tryz.prog 64 #[.int .i64 3,v,.int .i64 n] w fun e w'=>e=.returned (.tuple #[.int .i64 (Cx.fst 3 (zs.drop n)).1,.int .i64 (Cx.fst 3 (zs.drop n)).2])∧Below w.heap.size w w':=by
 have HR:Hid (Rd .u8 w v zs):=h
 have HB:Hid (Byt zs):=hb
 have hlen:=h.len
 obtain ⟨ao,cap,rfl,hl,hm,hc⟩:=h
 obtain ⟨b,off,rfl,_⟩:=hc (List.length_pos_iff.1 (by omega))
 have HN:Hid (zs.drop n≠[]):=List.length_pos_iff.1 (by rw [List.length_drop];omega)
 obtain ⟨a,m,hf⟩:∃ (a:Int) (m:Nat),Cx.fst 3 (zs.drop n)=(a,(m:Int)):=by
  have:=Cx.fst_bd 3 (zs.drop n) HN.out
  exact ⟨_,(Cx.fst 3 (zs.drop n)).2.toNat,Prod.ext rfl (by simp only;omega)⟩
 have HF:Hid (Cx.fst 3 (zs.drop n)=(a,(m:Int))):=hf
 have hcn:¬ cap=n:=by omega
 have HC:Hid (Rd .u8 w (.slice (some ⟨b,off + n,none⟩) (zs.length - n) (cap - n)) (zs.drop n)):=HR.out.cut (by omega)
 have hcm:cap≤9223372036854775807:=hm
 rw [hf]
 clear hb hc hf hm
 have hmt:=m_first2
 have hnt:=n_first2
 go_enter Tryz.func64,Tryz.ntmps64
 go_wp2_with fail
 refine (coderOf_3 _).mono ?_
 rintro e w' ⟨rfl,rfl⟩
 go_wp2_with fail
 first | go_region_with (go_at_call 146;refine (fst3_any _ (zs.drop n) a m _ (HC.out.ext (by repeat (first | exact Below.refl _ _ | apply below_drewN | refine zxa ?_ _ | apply Below.drew))) (HB.out.drop n) HN.out HF.out).mono ?_;rintro e w1 ⟨rfl,hb1⟩;have HW1:Hid (Below w'.heap.size w' w1):=zxt (by repeat (first | exact Below.refl _ _ | apply below_drewN | refine zxa ?_ _ | apply Below.drew)) hb1;clear hb1) | fail
 all_goals
  go_wp2
  go_ret2
  exact ⟨rfl,(by repeat (first | exact HW1.out | exact Below.refl _ _ | apply below_drewN | refine zxa ?_ _ | apply Below.drew))⟩
set_option maxHeartbeats 2000000 in
theorem Next_4 (v:Value) (zs:List Int) (n:Nat) (w:World) (h:Rd .u8 w v zs) (hb:Byt zs) (hn:n < zs.length) :
  Calls Tryz.prog 64 #[.int .i64 4,v,.int .i64 n] w fun e w'=>e=.returned (.tuple #[.int .i64 (Cx.fst 4 (zs.drop n)).1,.int .i64 (Cx.fst 4 (zs.drop n)).2])∧Below w.heap.size w w':=by
 have HR:Hid (Rd .u8 w v zs):=h
 have HB:Hid (Byt zs):=hb
 have hlen:=h.len
 obtain ⟨ao,cap,rfl,hl,hm,hc⟩:=h
 obtain ⟨b,off,rfl,_⟩:=hc (List.length_pos_iff.1 (by omega))
 have HN:Hid (zs.drop n≠[]):=List.length_pos_iff.1 (by rw [List.length_drop];omega)
 obtain ⟨a,m,hf⟩:∃ (a:Int) (m:Nat),Cx.fst 4 (zs.drop n)=(a,(m:Int)):=by
  have:=Cx.fst_bd 4 (zs.drop n) HN.out
  exact ⟨_,(Cx.fst 4 (zs.drop n)).2.toNat,Prod.ext rfl (by simp only;omega)⟩
 have HF:Hid (Cx.fst 4 (zs.drop n)=(a,(m:Int))):=hf
 have hcn:¬ cap=n:=by omega
 have HC:Hid (Rd .u8 w (.slice (some ⟨b,off + n,none⟩) (zs.length - n) (cap - n)) (zs.drop n)):=HR.out.cut (by omega)
 have hcm:cap≤9223372036854775807:=hm
 rw [hf]
 clear hb hc hf hm
 have hmt:=m_first4
 have hnt:=n_first4
 go_enter Tryz.func64,Tryz.ntmps64
 go_wp2_with fail
 refine (coderOf_4 _).mono ?_
 rintro e w' ⟨rfl,rfl⟩
 go_wp2_with fail
 first | go_region_with (go_at_call 158;refine (fst4_any _ (zs.drop n) a m _ (HC.out.ext (by repeat (first | exact Below.refl _ _ | apply below_drewN | refine zxa ?_ _ | apply Below.drew))) (HB.out.drop n) HN.out HF.out).mono ?_;rintro e w1 ⟨rfl,hb1⟩;have HW1:Hid (Below w'.heap.size w' w1):=zxt (by repeat (first | exact Below.refl _ _ | apply below_drewN | refine zxa ?_ _ | apply Below.drew)) hb1;clear hb1) | fail
 all_goals
  go_wp2
  go_ret2
  exact ⟨rfl,(by repeat (first | exact HW1.out | exact Below.refl _ _ | apply below_drewN | refine zxa ?_ _ | apply Below.drew))⟩
open Go.RowKit
set_option maxHeartbeats 2000000 in
theorem Prev_1 (v:Value) (zs:List Int) (n:Nat) (w:World) (h:Rd .u8 w v zs) (hb:Byt zs) (h0:0 < n) (hn:n≤zs.length) :
  Calls Tryz.prog 95 #[.int .i64 1,v,.int .i64 n] w fun e w'=>e=.returned (.tuple #[.int .i64 (Cx.lst 1 (zs.take n)).1,.int .i64 (Cx.lst 1 (zs.take n)).2])∧Below w.heap.size w w':=by
 have HR:Hid (Rd .u8 w v zs):=h
 have HB:Hid (Byt zs):=hb
 have hlen:=h.len
 obtain ⟨ao,cap,rfl,hl,hm,hc⟩:=h
 obtain ⟨b,off,rfl,_⟩:=hc (List.length_pos_iff.1 (by omega))
 have HN:Hid (zs.take n≠[]):=List.length_pos_iff.1 (by rw [List.length_take];omega)
 have hcm:cap≤9223372036854775807:=hm
 have hnc:n≤cap:=by omega
 have HX:Hid (∀ w':World,Below w.heap.size w w'→Calls Tryz.prog 132 #[.agg #[],.slice (some ⟨b,off,none⟩) n cap] w' fun e w''=>e=.returned (.tuple #[.int .i64 (Cx.lst 1 (zs.take n)).1,.int .i64 (Cx.lst 1 (zs.take n)).2])∧Below w'.heap.size w' w''):=fun w' hw=>lst1_any (.slice (some ⟨b,off,none⟩) n cap) (zs.take n) w' ((HR.out.take n hn).ext hw) (HB.out.take n) HN.out
 generalize (Cx.lst 1 (zs.take n)).1=x at *
 generalize (Cx.lst 1 (zs.take n)).2=y at *
 clear hb hc hm
 have hmt:=m_last1
 have hnt:=n_last1
 go_enter Tryz.func95,Tryz.ntmps95
 go_wp2_with fail
 refine (coderOf_1 _).mono ?_
 rintro e w' ⟨rfl,rfl⟩
 go_wp2_with fail
 first | go_region_with (go_at_call 132;refine (HX.out _ (by repeat (first | exact Below.refl _ _ | apply below_drewN | refine zxa ?_ _ | apply Below.drew))).mono ?_;rintro e w1 ⟨rfl,hb1⟩;have HW1:Hid (Below w'.heap.size w' w1):=zxt (by repeat (first | exact Below.refl _ _ | apply below_drewN | refine zxa ?_ _ | apply Below.drew)) hb1;clear hb1) | fail
 all_goals
  go_wp2
  go_ret2
  exact ⟨rfl,(by repeat (first | exact HW1.out | exact Below.refl _ _ | apply below_drewN | refine zxa ?_ _ | apply Below.drew))⟩
set_option maxHeartbeats 2000000 in
theorem Prev_2 (v:Value) (zs:List Int) (n:Nat) (w:World) (h:Rd .u8 w v zs) (hb:Byt zs) (h0:0 < n) (hn:n≤zs.length) :
  Calls Tryz.prog 95 #[.int .i64 2,v,.int .i64 n] w fun e w'=>e=.returned (.tuple #[.int .i64 (Cx.lst 2 (zs.take n)).1,.int .i64 (Cx.lst 2 (zs.take n)).2])∧Below w.heap.size w w':=by
 have HR:Hid (Rd .u8 w v zs):=h
 have HB:Hid (Byt zs):=hb
 have hlen:=h.len
 obtain ⟨ao,cap,rfl,hl,hm,hc⟩:=h
 obtain ⟨b,off,rfl,_⟩:=hc (List.length_pos_iff.1 (by omega))
 have HN:Hid (zs.take n≠[]):=List.length_pos_iff.1 (by rw [List.length_take];omega)
 have hcm:cap≤9223372036854775807:=hm
 have hnc:n≤cap:=by omega
 have HX:Hid (∀ w':World,Below w.heap.size w w'→Calls Tryz.prog 147 #[.agg #[.int .i64 0],.slice (some ⟨b,off,none⟩) n cap] w' fun e w''=>e=.returned (.tuple #[.int .i64 (Cx.lst 2 (zs.take n)).1,.int .i64 (Cx.lst 2 (zs.take n)).2])∧Below w'.heap.size w' w''):=fun w' hw=>lst2_any (.slice (some ⟨b,off,none⟩) n cap) (zs.take n) w' ((HR.out.take n hn).ext hw) (HB.out.take n) HN.out
 generalize (Cx.lst 2 (zs.take n)).1=x at *
 generalize (Cx.lst 2 (zs.take n)).2=y at *
 clear hb hc hm
 have hmt:=m_last2
 have hnt:=n_last2
 go_enter Tryz.func95,Tryz.ntmps95
 go_wp2_with fail
 refine (coderOf_2 _).mono ?_
 rintro e w' ⟨rfl,rfl⟩
 go_wp2_with fail
 first | go_region_with (go_at_call 147;refine (HX.out _ (by repeat (first | exact Below.refl _ _ | apply below_drewN | refine zxa ?_ _ | apply Below.drew))).mono ?_;rintro e w1 ⟨rfl,hb1⟩;have HW1:Hid (Below w'.heap.size w' w1):=zxt (by repeat (first | exact Below.refl _ _ | apply below_drewN | refine zxa ?_ _ | apply Below.drew)) hb1;clear hb1) | fail
 all_goals
  go_wp2
  go_ret2
  exact ⟨rfl,(by repeat (first | exact HW1.out | exact Below.refl _ _ | apply below_drewN | refine zxa ?_ _ | apply Below.drew))⟩
set_option maxHeartbeats 2000000 in
theorem Prev_3 (v:Value) (zs:List Int) (n:Nat) (w:World) (h:Rd .u8 w v zs) (hb:Byt zs) (h0:0 < n) (hn:n≤zs.length) :
  Calls Tryz.prog 95 #[.int .i64 3,v,.int .i64 n] w fun e w'=>e=.returned (.tuple #[.int .i64 (Cx.lst 3 (zs.take n)).1,.int .i64 (Cx.lst 3 (zs.take n)).2])∧Below w.heap.size w w':=by
 have HR:Hid (Rd .u8 w v zs):=h
 have HB:Hid (Byt zs):=hb
 have hlen:=h.len
 obtain ⟨ao,cap,rfl,hl,hm,hc⟩:=h
 obtain ⟨b,off,rfl,_⟩:=hc (List.length_pos_iff.1 (by omega))
 have HN:Hid (zs.take n≠[]):=List.length_pos_iff.1 (by rw [List.length_take];omega)
 have hcm:cap≤9223372036854775807:=hm
 have hnc:n≤cap:=by omega
 have HX:Hid (∀ w':World,Below w.heap.size w w'→Calls Tryz.prog 147 #[.agg #[.int .i64 1],.slice (some ⟨b,off,none⟩) n cap] w' fun e w''=>e=.returned (.tuple #[.int .i64 (Cx.lst 3 (zs.take n)).1,.int .i64 (Cx.lst 3 (zs.take n)).2])∧Below w'.heap.size w' w''):=fun w' hw=>lst3_any (.slice (some ⟨b,off,none⟩) n cap) (zs.take n) w' ((HR.out.take n hn).ext hw) (HB.out.take n) HN.out
 generalize (Cx.lst 3 (zs.take n)).1=x at *
 generalize (Cx.lst 3 (zs.take n)).2=y at *
 clear hb hc hm
 have hmt:=m_last2
 have hnt:=n_last2
 go_enter Tryz.func95,Tryz.ntmps95
 go_wp2_with fail
 refine (coderOf_3 _).mono ?_
 rintro e w' ⟨rfl,rfl⟩
 go_wp2_with fail
 first | go_region_with (go_at_call 147;refine (HX.out _ (by repeat (first | exact Below.refl _ _ | apply below_drewN | refine zxa ?_ _ | apply Below.drew))).mono ?_;rintro e w1 ⟨rfl,hb1⟩;have HW1:Hid (Below w'.heap.size w' w1):=zxt (by repeat (first | exact Below.refl _ _ | apply below_drewN | refine zxa ?_ _ | apply Below.drew)) hb1;clear hb1) | fail
 all_goals
  go_wp2
  go_ret2
  exact ⟨rfl,(by repeat (first | exact HW1.out | exact Below.refl _ _ | apply below_drewN | refine zxa ?_ _ | apply Below.drew))⟩
set_option maxHeartbeats 2000000 in
theorem Prev_4 (v:Value) (zs:List Int) (n:Nat) (w:World) (h:Rd .u8 w v zs) (hb:Byt zs) (h0:0 < n) (hn:n≤zs.length) :
  Calls Tryz.prog 95 #[.int .i64 4,v,.int .i64 n] w fun e w'=>e=.returned (.tuple #[.int .i64 (Cx.lst 4 (zs.take n)).1,.int .i64 (Cx.lst 4 (zs.take n)).2])∧Below w.heap.size w w':=by
 have HR:Hid (Rd .u8 w v zs):=h
 have HB:Hid (Byt zs):=hb
 have hlen:=h.len
 obtain ⟨ao,cap,rfl,hl,hm,hc⟩:=h
 obtain ⟨b,off,rfl,_⟩:=hc (List.length_pos_iff.1 (by omega))
 have HN:Hid (zs.take n≠[]):=List.length_pos_iff.1 (by rw [List.length_take];omega)
 have hcm:cap≤9223372036854775807:=hm
 have hnc:n≤cap:=by omega
 have HX:Hid (∀ w':World,Below w.heap.size w w'→Calls Tryz.prog 159 #[.agg #[],.slice (some ⟨b,off,none⟩) n cap] w' fun e w''=>e=.returned (.tuple #[.int .i64 (Cx.lst 4 (zs.take n)).1,.int .i64 (Cx.lst 4 (zs.take n)).2])∧Below w'.heap.size w' w''):=fun w' hw=>lst4_any (.slice (some ⟨b,off,none⟩) n cap) (zs.take n) w' ((HR.out.take n hn).ext hw) (HB.out.take n) HN.out
 generalize (Cx.lst 4 (zs.take n)).1=x at *
 generalize (Cx.lst 4 (zs.take n)).2=y at *
 clear hb hc hm
 have hmt:=m_last4
 have hnt:=n_last4
 go_enter Tryz.func95,Tryz.ntmps95
 go_wp2_with fail
 refine (coderOf_4 _).mono ?_
 rintro e w' ⟨rfl,rfl⟩
 go_wp2_with fail
 first | go_region_with (go_at_call 159;refine (HX.out _ (by repeat (first | exact Below.refl _ _ | apply below_drewN | refine zxa ?_ _ | apply Below.drew))).mono ?_;rintro e w1 ⟨rfl,hb1⟩;have HW1:Hid (Below w'.heap.size w' w1):=zxt (by repeat (first | exact Below.refl _ _ | apply below_drewN | refine zxa ?_ _ | apply Below.drew)) hb1;clear hb1) | fail
 all_goals
  go_wp2
  go_ret2
  exact ⟨rfl,(by repeat (first | exact HW1.out | exact Below.refl _ _ | apply below_drewN | refine zxa ?_ _ | apply Below.drew))⟩
end Go.Proofs.YtgfdfajblidleaaGreat
namespace Go.Proofs.YtgfdfajblidleaaGreat
theorem Cx.put_byt (enc a:Int) (hf:Cx.fits enc a=true):Byt (Cx.put enc a):=by
 have hfb:-256≤a∧a≤1114111∧(enc=4→a≤255):=by
  unfold Cx.fits Cx.isSc at hf
  repeat' split at hf
  all_goals simp at hf
  all_goals omega
 intro z hz
 unfold Cx.put Cx.put8 Cx.unit at hz
 repeat' split at hz
 all_goals simp at hz
 all_goals omega
theorem Cx.mean_put8 (a:Int) (h:Cx.isSc a=true):Cx.mean (Cx.put8 a)=a:=by
 have:=(Cx.sc_iff a).1 h
 rcases (show a < 128∨(128≤a∧a < 2048)∨(2048≤a∧a < 65536)∨65536≤a from by omega) with h | ⟨h,h'⟩ | ⟨h,h'⟩ | h
 ·rw [Cx.put8_1 a h];rfl
 ·rw [Cx.put8_2 a h h'];simp only [Cx.mean];omega
 ·rw [Cx.put8_3 a h h'];simp only [Cx.mean];omega
 ·rw [Cx.put8_4 a h];simp only [Cx.mean];omega
theorem Cx.read1 (a:Int) (r:List Int) (h:Cx.isSc a=true) (hr:Byt r):Cx.first8 (Cx.put 1 a ++ r)=(a,((Cx.put 1 a).length:Int)):=by
 have hs:=(Cx.sc_iff a).1 h
 have e:Cx.put 1 a=Cx.put8 a:=by unfold Cx.put;rw [if_neg (by omega),if_pos rfl]
 have hb:Byt (Cx.put 1 a ++ r):=by
  intro z hz
  rcases List.mem_append.1 hz with hz | hz
  ·exact Cx.put_byt 1 a (by unfold Cx.fits;rw [if_pos rfl,h,Bool.true_or]) z hz
  ·exact hr z hz
 have ht:(Cx.put 1 a ++ r).take (Cx.put 1 a).length=Cx.put8 a:=by rw [List.take_left',e];rfl
 have hl:=Cx.put_len 1 a
 have hm:Cx.mean ((Cx.put 1 a ++ r).take (Cx.put 1 a).length)=a:=by rw [ht,Cx.mean_put8 a h]
 have hh:Cx.hitB (Cx.put 1 a ++ r) (Cx.put 1 a).length=true:=by
  rw [Cx.hitB_iff _ _ a hm]
  refine ⟨by rw [List.length_append];omega,h,by rw [e],?_⟩
  rw [List.isPrefixOf_iff_prefix,e]
  exact List.prefix_append _ _
 rw [Cx.first8_hit _ hb _ hl.1 hl.2 hh,hm]
theorem Cx.wv_unit (enc u:Int) (r:List Int) (he:enc=2∨enc=3):Cx.wv (Cx.lowOf enc) (Cx.unit enc u ++ r)=u:=by
 rcases he with rfl | rfl
 ·simp only [Cx.wv,Cx.lowOf,Cx.unit,if_true,List.cons_append,List.nil_append,List.getElem?_cons_succ,List.getElem?_cons_zero,Option.getD_some]
  omega
 ·simp only [Cx.wv,Cx.lowOf,Cx.unit,show ¬ ((3:Int)=2) from by decide,show ¬ ((1:Int)=0) from by decide,if_false,List.cons_append,List.nil_append,List.getElem?_cons_succ,List.getElem?_cons_zero,Option.getD_some]
  omega
theorem Cx.unit_len (enc u:Int):(Cx.unit enc u).length=2:=by unfold Cx.unit;split <;> rfl
theorem Cx.read2 (enc a:Int) (r:List Int) (h:Cx.isSc a=true) (he:enc=2∨enc=3):Cx.first16 (Cx.lowOf enc) (Cx.put enc a ++ r)=(a,((Cx.put enc a).length:Int)):=by
 have hs:=(Cx.sc_iff a).1 h
 by_cases hb:65536≤a
 ·have e:Cx.put enc a=Cx.unit enc (55296 + (a - 65536) / 1024) ++ Cx.unit enc (56320 + a % 1024):=by
   unfold Cx.put;rw [if_neg (by omega),if_neg (by omega),if_neg (by omega),if_pos hb]
  have l1:=Cx.unit_len enc (55296 + (a - 65536) / 1024)
  have l2:=Cx.unit_len enc (56320 + a % 1024)
  rw [e,List.append_assoc]
  have e1:=Cx.wv_unit enc (55296 + (a - 65536) / 1024) (Cx.unit enc (56320 + a % 1024) ++ r) he
  have e2:Cx.wv (Cx.lowOf enc) ((Cx.unit enc (55296 + (a - 65536) / 1024) ++ (Cx.unit enc (56320 + a % 1024) ++ r)).drop 2)=56320 + a % 1024:=by
   rw [← l1,List.drop_left];exact Cx.wv_unit enc _ r he
  have hP:Cx.isP (Cx.lowOf enc) (Cx.unit enc (55296 + (a - 65536) / 1024) ++ (Cx.unit enc (56320 + a % 1024) ++ r))=true:=by
   unfold Cx.isP
   rw [e1,e2]
   unfold Cx.hiU Cx.loU
   simp only [List.length_append,l1,l2,Bool.and_eq_true,decide_eq_true_eq]
   omega
  unfold Cx.first16
  rw [if_neg (by simp only [List.length_append,l1,l2];omega),hP,if_pos rfl]
  unfold Cx.pairV
  rw [e1,e2,List.length_append,l1,l2]
  refine Prod.ext (by simp only;omega) rfl
 ·have e:Cx.put enc a=Cx.unit enc a:=by
   unfold Cx.put;rw [if_neg (by omega),if_neg (by omega),if_neg (by omega),if_neg hb]
  have l1:=Cx.unit_len enc a
  have e1:=Cx.wv_unit enc a r he
  rw [e]
  have hP:Cx.isP (Cx.lowOf enc) (Cx.unit enc a ++ r)=false:=by
   unfold Cx.isP
   rw [e1]
   have:Cx.hiU a=false:=by unfold Cx.hiU;simp;omega
   rw [this,Bool.and_false,Bool.false_and]
  unfold Cx.first16
  rw [if_neg (by simp only [List.length_append,l1];omega),hP,if_neg (by simp),e1,l1]
  rfl
theorem Cx.read (enc a:Int) (r:List Int) (h:Cx.isSc a=true) (hf:Cx.fits enc a=true) (hr:Byt r) (he:enc=1∨enc=2∨enc=3∨enc=4):Cx.fst enc (Cx.put enc a ++ r)=(a,((Cx.put enc a).length:Int)):=by
 rcases he with rfl | rfl | rfl | rfl
 ·exact Cx.read1 a r h hr
 ·exact Cx.read2 2 a r h (.inl rfl)
 ·exact Cx.read2 3 a r h (.inr rfl)
 ·have hs:=(Cx.sc_iff a).1 h
  have e:Cx.put 4 a=[a]:=by unfold Cx.put;rw [if_neg (by omega)];rfl
  rw [e];rfl
open Go.RowKit
theorem Cx.put_ne (enc a:Int):Cx.put enc a≠[]:=by
 unfold Cx.put Cx.put8 Cx.unit
 repeat' split
 all_goals simp
theorem Cx.fst_put16 (enc a:Int) (he:enc=2∨enc=3) (hf:-256≤a∧a≤1114111) (hns:¬ ((0≤a∧a < 55296)∨(57343 < a∧a≤1114111))):Cx.fst enc (Cx.put enc a)=(a,((Cx.put enc a).length:Int)):=by
 rw [Cx.fst_low enc _ he]
 by_cases h0:a < 0
 ·have hp:Cx.put enc a=[-1 - a]:=by unfold Cx.put;rw [if_pos h0]
  rw [hp]
  unfold Cx.first16
  rw [if_pos (show [-1 - a].length=1 from rfl)]
  simp [Cx.c0]
  omega
 ·have hp:Cx.put enc a=Cx.unit enc a:=by unfold Cx.put;rw [if_neg h0,if_neg (by omega),if_neg (by omega),if_neg (by omega)]
  have hl:=Cx.unit_len enc a
  have hw:=Cx.wv_unit enc a [] he
  rw [List.append_nil] at hw
  rw [hp]
  unfold Cx.first16
  rw [if_neg (by omega),hl]
  have hP:Cx.isP (Cx.lowOf enc) (Cx.unit enc a)=false:=by unfold Cx.isP;rw [hl];simp
  rw [hP,hw]
  rfl
theorem Cx.fst_put (enc a:Int) (he:Cx.En enc) (hf:Cx.fits enc a=true):Cx.fst enc (Cx.put enc a)=(a,((Cx.put enc a).length:Int)):=by
 by_cases hs:Cx.isSc a=true
 ·have:=Cx.read enc a [] hs hf (fun _ h=>by cases h) he
  rwa [List.append_nil] at this
 ·have hns:¬ ((0≤a∧a < 55296)∨(57343 < a∧a≤1114111)):=fun h=>hs ((Cx.sc_iff a).2 h)
  rcases he with rfl | rfl | rfl | rfl
  ·have hf':-256≤a∧a≤-129:=by
    unfold Cx.fits at hf
    simp [hs] at hf
    omega
   have hp:Cx.put 1 a=[-1 - a]:=by unfold Cx.put;rw [if_pos (by omega)]
   rw [hp]
   show Cx.first8 [-1 - a]=_
   rcases Cx.fst8_cases [-1 - a] with ⟨h1,h2,_⟩ | ⟨_,h2⟩
   ·have hm:Cx.mtch [-1 - a]=1:=by simp at h2;omega
    rw [Cx.mtch_eq] at hm
    split at hm
    ·unfold Cx.rowN Cx.c0 at hm
     simp at hm
     repeat' split at hm
     all_goals omega
    ·omega
   ·rw [h2]
    simp [Cx.c0]
    omega
  ·exact Cx.fst_put16 2 a (.inl rfl) (by unfold Cx.fits at hf;simp at hf;omega) hns
  ·exact Cx.fst_put16 3 a (.inr rfl) (by unfold Cx.fits at hf;simp at hf;omega) hns
  ·exfalso
   unfold Cx.fits at hf
   simp at hf
   omega
theorem Cx.dec_put (enc a:Int) (he:Cx.En enc) (hf:Cx.fits enc a=true):Cx.dec enc (Cx.put enc a)=[a]:=by
 rw [Cx.dec_cons enc (Cx.put enc a) (Cx.put_ne enc a) a _ (Cx.fst_put enc a he hf),List.drop_length,Cx.dec_nil]
theorem Cx.lst_put (enc a:Int) (he:Cx.En enc) (hf:Cx.fits enc a=true):(Cx.lst enc (Cx.put enc a)).1=a:=by
 obtain ⟨l,hl⟩:=Cx.dec_last enc he _ (Cx.put enc a) (Nat.le_refl _) (Cx.put_byt enc a hf) (Cx.put_ne enc a)
 rw [Cx.dec_put enc a he hf] at hl
 have:=congrArg List.getLast? hl
 simp at this
 exact this.symm
open Go.RowKit
section
variable {P:Program} (w:World)
theorem run_append_blk (base:Nat) (t ty e:TypeId) (i:TypeInfo) (z:Value) (size bytes:Nat) (ht:P.underlying t=some (.slice e)) (hi:P.info? e=some i) (hz:i.zero=some z)
  (hsize:i.size=size) (hby:i.bytes=bytes) (hzs:z.cells.size=size) (hsz:0 < size)
  (v:Value) (n:Nat) (xs:List Value) (hown:w.ownsRow base e size v n xs)
  (a:Addr) (m c:Nat) (news:List Value) (hl:news.length=m * size) (hnews:∀ j u,news[j]?=some u→w.cell? (a.add j)=some u) (h1:∀ u ∈ news,u.oneCell'=true)
  (h63:n + m≤maxLen) (hbytes:(n + m) * bytes≤140737488355328) (hbase:base≤w.heap.size) (hm:0 < m) :
  ∃ v' w',(Builtin.append_ #[t,t] ty #[v,.slice (some a) m c]).run P w=.ok v' w'∧w'.ownsRow base e size v' (n + m) (xs ++ news)∧w.grownBy w' v.ownBlock ∧
    (v'.ownBlock=v.ownBlock∨v'.ownBlock=some w.heap.size):=by
 obtain ⟨v',w',hr,h2,h3,_⟩:=run_append_own (P:=P) w base t ty e i z size bytes ht hi hz hsize hby hzs hsz v n xs hown a m c news hl hnews h1 h63 hbytes hbase
 refine ⟨v',w',hr,h2,h3,?_⟩
 subst hsize
 subst hby
 have hsmall:n + m≤9223372036854775807:=by simp only [maxLen] at h63;omega
 rcases hown.2 with ⟨rfl,rfl⟩ | ⟨g,cap,cur,rfl,hbg,hg,hnc,hcm,hcs,htake⟩
 ·have h:=run_append_nil (P:=P) w t ty e i z ht hi hz a m c news hl hnews hm (by omega) (by simp only [Nat.zero_add] at hbytes;omega)
  rw [h] at hr
  cases hr
  exact .inr rfl
 ·by_cases hroom:n + m≤cap
  ·have hfit:n * i.size + news.length≤cur.size:=by rw [hl,hcs,← Nat.add_mul];exact Nat.mul_le_mul_right _ hroom
   have h:=run_append_room (P:=P) w t ty e i ht hi g n cap cur hg a m c news hl hnews h1 hroom hfit
   rw [h] at hr
   cases hr
   exact .inl rfl
  ·have holds:∀ j u,xs[j]?=some u→w.cell? ((⟨g,0,none⟩:Addr).add j)=some u:=hown.cells (g:=g) rfl
   have h:=run_append_grow (P:=P) w t ty e i z ht hi hz ⟨g,0,none⟩ n cap xs hown.1 holds a m c news hl hnews (by omega) (by omega) (growslice_fits (by omega) hbytes)
   rw [h] at hr
   cases hr
   exact .inr rfl
theorem wpList_append_blk {ops:Array Oper} {rest:List Oper} {o:Oper} {a:Act} {Q:Exit→Act→World→Prop} (hgd:o.guard=none) (s x:Operand) (t:TypeId)
  (ho:o.op=.call { callee:=.builtin .append,args:=#[s,x],argTypes:=#[t,t] })
  (base:Nat) (e:TypeId) (i:TypeInfo) (z:Value) (size bytes:Nat) (ht:P.underlying t=some (.slice e)) (hi:P.info? e=some i) (hz:i.zero=some z)
  (hsize:i.size=size) (hby:i.bytes=bytes) (hzs:z.cells.size=size) (hsz:0 < size)
  (v:Value) (n:Nat) (xs:List Value) (hs:a.eval s=v) (hown:w.ownsRow base e size v n xs)
  (ad:Addr) (m c:Nat) (news:List Value) (hx:a.eval x=.slice (some ad) m c) (hl:news.length=m * size) (hnews:∀ j u,news[j]?=some u→w.cell? (ad.add j)=some u) (h1:∀ u ∈ news,u.oneCell'=true)
  (h63:n + m≤maxLen) (hbytes:(n + m) * bytes≤140737488355328) (hbase:base≤w.heap.size) (hm:0 < m)
  (h:∀ v' w',w'.ownsRow base e size v' (n + m) (xs ++ news)→w.grownBy w' v.ownBlock→(v'.ownBlock=v.ownBlock∨v'.ownBlock=some w.heap.size)→wpList P ops Q rest (a.put o.dst v') w'):wpList P ops Q (o :: rest) a w :=
 wpList_plain hgd fun K hK=>by
  obtain ⟨v',w',hr,h2,h3,h4⟩:=run_append_blk (P:=P) w base t o.type e i z size bytes ht hi hz hsize hby hzs hsz v n xs hown ad m c news hl hnews h1 h63 hbytes hbase hm
  unfold Oper.wp execOp
  simp only [ho,resolve,invoke,builtin,Sem.run_bind,Sem.run_pure,Result.andThen_ok,List.map_toArray,List.map_cons,List.map_nil,hs,hx,hr]
  exact hK _ _ (h v' w' h2 h3 h4)
end
open Go.RowKit
theorem rDecode_any (enc:Int) (v:Value) (zs:List Int) (w:World) (h:Rd .u8 w v zs) (hb:Byt zs) (hz:zs.length * 8≤140737488355328) :
  Calls Tryz.prog 29 #[.int .i64 enc,v] w fun e w'=>∃ v',e=.returned (.tuple #[v',.int .i64 (Cx.er enc)])∧w'.ownsRow w.heap.size 3 1 v' (Cx.dd enc zs).length ((Cx.dd enc zs).map (Value.int .i64))∧Below w.heap.size w w':=by
 obtain ⟨i0,hi,hz0,hz1,hz2⟩:=info_parts Tryz.info_i64
 have HR:Hid (Rd .u8 w v zs):=h
 have HB:Hid (Byt zs):=hb
 obtain ⟨ao,cap,rfl,_⟩:=id h
 clear h hb
 cases hk:Cx.known enc
 ·have HE:Hid (Cx.dd enc zs=[]):=Cx.dd_no enc zs hk
  have HX:Hid (Cx.er enc=10):=by unfold Hid Cx.er;rw [hk];rfl
  go_enter Tryz.func29,Tryz.ntmps29
  go_wp2_with (go_at_call 48;refine (rknown_any _ _).mono ?_;rintro e w' ⟨rfl,rfl⟩;rw [hk])
  go_ret2
  exact ⟨_,by rw [HX.out];rfl,by rw [HE.out];exact World.ownsRow_nil _ _ _ _,Below.refl _ _⟩
 ·have HX:Hid (Cx.er enc=0):=by unfold Hid Cx.er;rw [hk];rfl
  have HE:Hid (Cx.dd enc zs=Cx.dec enc zs):=Cx.dd_yes enc zs hk
  have HK:Hid (enc=1∨enc=2∨enc=3∨enc=4):=(Cx.known_iff enc).1 hk
  go_enter Tryz.func29,Tryz.ntmps29
  go_wp2_with (go_at_call 48;refine (rknown_any _ _).mono ?_;rintro e w0 ⟨rfl,rfl⟩;rw [hk])
  rename_i w
  go_loopw [7,8] (fun o i wr=>∃ (k:Nat) (l:List Int),k≤zs.length∧i=.int .i64 k∧Hid (Cx.dec enc zs=l ++ Cx.dec enc (zs.drop k))∧l.length≤k∧wr.ownsRow w0.heap.size 3 1 o l.length (l.map (Value.int .i64))∧Below w0.heap.size w0 wr) (fun _ i _=>zs.length - (intOf i).toNat)
  case atStart=>exact ⟨0,[],Nat.zero_le _,rfl,rfl,Nat.le_refl _,World.ownsRow_nil _ _ _ _,Below.refl _ _⟩
  case round =>
   obtain ⟨k,l,hk1,rfl,HD,hle,hown,hbw⟩:=hrel
   have hw':w0.heap.size≤wr.heap.size:=hbw.size
   by_cases hlt:k < zs.length
   ·have hn:zs.drop k≠[]:=List.length_pos_iff.1 (by rw [List.length_drop];omega)
    obtain ⟨a,n,hf,hn1,hn2⟩:∃ (a:Int) (n:Nat),Cx.fst enc (zs.drop k)=(a,(n:Int))∧1≤n∧n≤(zs.drop k).length:=by
     have:=Cx.fst_bd enc (zs.drop k) hn
     exact ⟨_,(Cx.fst enc (zs.drop k)).2.toNat,Prod.ext rfl (by simp only;omega),by omega,by omega⟩
    have HF:Hid (Cx.fst enc (zs.drop k)=(a,(n:Int))):=hf
    have HD':Hid (Cx.dec enc zs=(l ++ [a]) ++ Cx.dec enc (zs.drop (k + n))):=by unfold Hid;rw [HD.out,Cx.dec_cons enc _ hn a n hf,List.drop_drop];simp
    rw [List.length_drop] at hn2
    have HT':Hid (l.map (Value.int .i64) ++ [Value.int .i64 a]=(l ++ [a]).map (Value.int .i64)):=snoc_map l a
    clear hf hn HD
    generalize l.map (Value.int .i64)=ml at hown HT'
    go_wp2_with fail
    refine (At_fst enc _ zs k a n _ (HR.out.ext hbw) HB.out HK.out hlt (by omega) HF.out).mono ?_
    rintro e w1 ⟨rfl,hb1⟩
    have hown1:=own_ext hown hb1
    have hbw1:Below w0.heap.size w0 w1:=zxt hbw hb1
    have hw1:w0.heap.size≤w1.heap.size:=hbw1.size
    clear hown hbw hb1
    go_wp2_with (at_builtin;refine wpList_append_own _ rfl _ _ 27 rfl w0.heap.size 3 i0 (.int .i64 0) 1 8 Tryz.underlying27 hi hz0 hz1 hz2 rfl (by decide) _ _ _ rfl (hown1.alloc _) ⟨w1.heap.size,0,none⟩ 1 1 [.int .i64 a] rfl rfl (cell_one_new _ _ _) (one_i64 _) (by unfold maxLen;omega) (by omega) (by simp;omega) ?_;intro v' w' hown' hg' hx')
    go_roundw
    case rel=>exact ⟨k + n,l ++ [a],by omega,by go_num,HD'.out,by rw [List.length_append,List.length_singleton];omega,by rw [List.length_append];rw [HT'.out] at hown';exact hown',below_push hbw1 hown1 hg'⟩
    case measure=>simp [intOf];omega
   ·have hke:k=zs.length:=by omega
    subst hke
    have HT:Hid (Cx.dd enc zs=l):=by unfold Hid;rw [HE.out,HD.out,List.drop_length,Cx.dec_nil,List.append_nil]
    clear HD
    go_wp2
    go_ret2
    exact ⟨_,by rw [HX.out];rfl,by rw [HT.out];exact hown,hbw⟩
end Go.Proofs.YtgfdfajblidleaaGreat
