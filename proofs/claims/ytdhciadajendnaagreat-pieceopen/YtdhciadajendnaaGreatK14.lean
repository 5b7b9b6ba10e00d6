import Derived.Test.YtdhciadajendnaaGreatK13
set_option maxRecDepth 100000
namespace Go.Proofs.YtdhciadajendnaaGreat
open Go.RowKit
theorem and63 {x:Int} (h0:0≤x) (h1:x < 9223372036854775808):bits .and .i64 x 63=x % 64:=bits_mask .i64 63 (by decide) wraps_i64 6 (by decide) x h0 (by omega)
theorem orJ (i:Nat) {x y:Int} (hx0:0≤x) (hx:x % 2 ^ i=0) (hx1:x < 9223372036854775808) (h0:0≤y) (h1:y < 2 ^ i) (h2:y < 9223372036854775808):bits .or .i64 x y=x + y:=bits_join .i64 63 (by decide) wraps_i64 i x y hx0 hx (by omega) h0 h1 (by omega)
theorem further_any (r:Int) (w:World) (h0:0≤r) (h1:r≤1114111):Calls Tryz.prog 173 #[.int .i64 r] w fun e w'=>e=.returned (.int .u8 (128 + r % 64))∧w'=w:=by
 have e1:bits .and .i64 r 63=r % 64:=and63 h0 (by omega)
 have e2:bits .or .i64 128 (r % 64)=128 + r % 64:=orJ 6 (by omega) (by decide) (by omega) (by omega) (by omega) (by omega)
 go_enter Tryz.func173,Tryz.ntmps173
 go_wp2
 go_ret
 exact ⟨ret_int' (by omega),rfl⟩
theorem rawByte_any (a:Int) (w:World) (h0:-256≤a) (h1:a≤-1):Calls Tryz.prog 172 #[.int .i64 a] w fun e w'=>e=.returned (.int .u8 (-1 - a))∧w'=w:=by
 go_enter Tryz.func172,Tryz.ntmps172
 go_wp2
 go_ret
 exact ⟨rfl,rfl⟩
theorem cell_lit1 (w:World) (o:Obj) (e:TypeId) (cs:List Value):∀ j u,cs[j]?=some u→((w.alloc o).alloc (.cells cs.toArray e)).cell? ((⟨w.heap.size + 1,0,none⟩:Addr).add j)=some u:=by
 intro j u hu
 have h:((w.alloc o).alloc (.cells cs.toArray e)).heap[w.heap.size + 1]?=some (.cells cs.toArray e):=by
  have:=heap_alloc_new (w.alloc o) (.cells cs.toArray e)
  rwa [World.size_alloc] at this
 have hadd:(⟨w.heap.size + 1,0,none⟩:Addr).add j=⟨w.heap.size + 1,j,none⟩:=by unfold Addr.add;split <;> simp_all
 rw [hadd,cell_of_row _ _ j _ _ _ h]
 simpa using hu
theorem zbp {base:Nat} {w w':World} {o o':Obj} {out:Value} {n:Nat} (hbase:base≤w.heap.size) (hlt:∀ k,out.ownBlock=some k→base≤k∧k < n) (hg:((w.alloc o).alloc o').grownBy w' out.ownBlock):Below base w w' :=
 (((Below.refl base w).alloc hbase o).alloc (by simp;omega) o').grown hg (by simp;omega) (fun k hk=>(hlt k hk).1)
theorem below_put3 {base:Nat} {w w':World} {o o' o'':Obj} {out:Value} {n:Nat} (hbase:base≤w.heap.size) (hlt:∀ k,out.ownBlock=some k→base≤k∧k < n) (hg:(((w.alloc o).alloc o').alloc o'').grownBy w' out.ownBlock):Below base w w' :=
 ((((Below.refl base w).alloc hbase o).alloc (by simp;omega) o').alloc (by simp;omega) o'').grown hg (by simp;omega) (fun k hk=>(hlt k hk).1)
theorem grown_put3 {w w':World} {o o' o'':Obj} {row:Option Nat} (hg:(((w.alloc o).alloc o').alloc o'').grownBy w' row):w.grownBy w' row :=
 ⟨hg.os,hg.tape,hg.output,by have:=hg.size;simp at this;omega,fun k hk hne=>by
  rw [hg.block k (by simp;omega) hne,Below.heap_alloc _ _ _ (by simp;omega),Below.heap_alloc _ _ _ (by simp;omega),Below.heap_alloc _ _ _ hk]⟩
theorem ones_u8 (bs:List Int):∀ u ∈ bs.map (Value.int .u8),u.oneCell'=true:=by
 intro u hu
 obtain ⟨_,_,rfl⟩:=List.mem_map.1 hu
 rfl
theorem put1_any (out:Value) (xs:List Int) (base:Nat) (a:Int) (w:World) (hown:w.ownsRow base 5 1 out xs.length (xs.map (Value.int .u8))) (hbase:base≤w.heap.size) (hl:xs.length + 4≤140737488355328) (hf:Cx.fits 1 a=true) :
  Calls Tryz.prog 166 #[.agg #[],out,.int .i64 a] w fun e w'=>∃ v',e=.returned v'∧w'.ownsRow base 5 1 v' (xs ++ Cx.put 1 a).length ((xs ++ Cx.put 1 a).map (Value.int .u8))∧Below base w w':=by
 obtain ⟨i0,hi,hz0,hz1,hz2⟩:=info_parts Tryz.info_u8
 have hfr:(-256≤a∧a≤-129)∨(0≤a∧a≤1114111):=by
  unfold Cx.fits Cx.isSc at hf
  simp at hf
  omega
 have hlt:=hown.lt
 clear hf
 rcases (show (-256≤a∧a≤-129)∨(0≤a∧a < 128)∨(128≤a∧a < 2048)∨(2048≤a∧a < 65536)∨(65536≤a∧a≤1114111) from by omega) with ⟨h1,h2⟩ | ⟨h1,h2⟩ | ⟨h1,h2⟩ | ⟨h1,h2⟩ | ⟨h1,h2⟩
 ·have HE:Hid (Cx.put 1 a=[-1 - a]):=by unfold Hid Cx.put;rw [if_pos (by omega)]
  clear hfr
  go_enter Tryz.func166,Tryz.ntmps166
  go_wp2_with (first | (go_at_call 172;refine (rawByte_any _ _ (by omega) (by omega)).mono ?_;rintro e w' ⟨rfl,rfl⟩) | (at_builtin;refine wpList_append_own _ rfl _ _ 22 rfl base 5 i0 (.int .u8 0) 1 1 Tryz.underlying22 hi hz0 hz1 hz2 rfl (by decide) _ _ _ rfl ((hown.alloc _).alloc _) ⟨w.heap.size + 1,0,none⟩ 1 1 ([-1 - a].map (Value.int .u8)) rfl rfl (cell_lit1 _ _ _ _) (ones_u8 _) (by unfold maxLen;omega) (by omega) (by simp;omega) ?_;intro v' w' hown' hg' hx'))
  go_ret
  exact ⟨_,rfl,by rw [HE.out,List.length_append,List.map_append];exact hown',zbp hbase hlt hg'⟩
 ·have HE:Hid (Cx.put 1 a=[a]):=by unfold Hid Cx.put Cx.put8;rw [if_neg (by omega),if_pos rfl,if_pos h2]
  clear hfr
  go_enter Tryz.func166,Tryz.ntmps166
  go_wp2_with (first | (at_builtin;refine wpList_append_own _ rfl _ _ 22 rfl base 5 i0 (.int .u8 0) 1 1 Tryz.underlying22 hi hz0 hz1 hz2 rfl (by decide) _ _ _ rfl ((hown.alloc _).alloc _) ⟨w.heap.size + 1,0,none⟩ 1 1 ([a].map (Value.int .u8)) rfl rfl (cell_lit1 _ _ _ _) (ones_u8 _) (by unfold maxLen;omega) (by omega) (by simp;omega) ?_;intro v' w' hown' hg' hx'))
  go_ret
  exact ⟨_,rfl,by rw [HE.out,List.length_append,List.map_append];exact hown',zbp hbase hlt hg'⟩
 ·have HE:Hid (Cx.put 1 a=[192 + a / 64,128 + a % 64]):=by unfold Hid Cx.put Cx.put8;rw [if_neg (by omega),if_pos rfl,if_neg (by omega),if_pos h2]
  have e1:bits .or .i64 192 (a / 64)=192 + a / 64:=orJ 5 (by omega) (by decide) (by omega) (by omega) (by omega) (by omega)
  clear hfr
  go_enter Tryz.func166,Tryz.ntmps166
  go_wp2_with (first | (go_at_call 173;refine (further_any _ _ (by omega) (by omega)).mono ?_;rintro e wf ⟨rfl,rfl⟩) | (at_builtin;refine wpList_append_own _ rfl _ _ 22 rfl base 5 i0 (.int .u8 0) 1 1 Tryz.underlying22 hi hz0 hz1 hz2 rfl (by decide) _ _ _ rfl ((hown.alloc _).alloc _) ⟨w.heap.size + 1,0,none⟩ 2 2 ([192 + a / 64,128 + a % 64].map (Value.int .u8)) rfl rfl (cell_lit1 _ _ _ _) (ones_u8 _) (by unfold maxLen;omega) (by omega) (by simp;omega) ?_;intro v' w' hown' hg' hx'))
  go_ret
  exact ⟨_,rfl,by rw [HE.out,List.length_append,List.map_append];exact hown',zbp hbase hlt hg'⟩
 ·have HE:Hid (Cx.put 1 a=[224 + a / 4096,128 + a / 64 % 64,128 + a % 64]):=by unfold Hid Cx.put Cx.put8;rw [if_neg (by omega),if_pos rfl,if_neg (by omega),if_neg (by omega),if_pos h2]
  have e1:bits .or .i64 224 (a / 4096)=224 + a / 4096:=orJ 4 (by omega) (by decide) (by omega) (by omega) (by omega) (by omega)
  clear hfr
  go_enter Tryz.func166,Tryz.ntmps166
  go_wp2_with (first | (go_at_call 173;refine (further_any _ _ (by omega) (by omega)).mono ?_;rintro e wf ⟨rfl,rfl⟩) | (at_builtin;refine wpList_append_own _ rfl _ _ 22 rfl base 5 i0 (.int .u8 0) 1 1 Tryz.underlying22 hi hz0 hz1 hz2 rfl (by decide) _ _ _ rfl ((hown.alloc _).alloc _) ⟨w.heap.size + 1,0,none⟩ 3 3 ([224 + a / 4096,128 + a / 64 % 64,128 + a % 64].map (Value.int .u8)) rfl rfl (cell_lit1 _ _ _ _) (ones_u8 _) (by unfold maxLen;omega) (by omega) (by simp;omega) ?_;intro v' w' hown' hg' hx'))
  go_ret
  exact ⟨_,rfl,by rw [HE.out,List.length_append,List.map_append];exact hown',zbp hbase hlt hg'⟩
 ·have HE:Hid (Cx.put 1 a=[240 + a / 262144,128 + a / 4096 % 64,128 + a / 64 % 64,128 + a % 64]):=by unfold Hid Cx.put Cx.put8;rw [if_neg (by omega),if_pos rfl,if_neg (by omega),if_neg (by omega),if_neg (by omega)]
  have e1:bits .or .i64 240 (a / 262144)=240 + a / 262144:=orJ 4 (by omega) (by decide) (by omega) (by omega) (by omega) (by omega)
  clear hfr
  go_enter Tryz.func166,Tryz.ntmps166
  go_wp2_with (first | (go_at_call 173;refine (further_any _ _ (by omega) (by omega)).mono ?_;rintro e wf ⟨rfl,rfl⟩) | (at_builtin;refine wpList_append_own _ rfl _ _ 22 rfl base 5 i0 (.int .u8 0) 1 1 Tryz.underlying22 hi hz0 hz1 hz2 rfl (by decide) _ _ _ rfl ((hown.alloc _).alloc _) ⟨w.heap.size + 1,0,none⟩ 4 4 ([240 + a / 262144,128 + a / 4096 % 64,128 + a / 64 % 64,128 + a % 64].map (Value.int .u8)) rfl rfl (cell_lit1 _ _ _ _) (ones_u8 _) (by unfold maxLen;omega) (by omega) (by simp;omega) ?_;intro v' w' hown' hg' hx'))
  go_ret
  exact ⟨_,rfl,by rw [HE.out,List.length_append,List.map_append];exact hown',zbp hbase hlt hg'⟩
theorem put4_any (out:Value) (xs:List Int) (base:Nat) (a:Int) (w:World) (hown:w.ownsRow base 5 1 out xs.length (xs.map (Value.int .u8))) (hbase:base≤w.heap.size) (hl:xs.length + 4≤140737488355328) (hf:Cx.fits 4 a=true) :
  Calls Tryz.prog 193 #[.agg #[],out,.int .i64 a] w fun e w'=>∃ v',e=.returned v'∧w'.ownsRow base 5 1 v' (xs ++ Cx.put 4 a).length ((xs ++ Cx.put 4 a).map (Value.int .u8))∧Below base w w':=by
 obtain ⟨i0,hi,hz0,hz1,hz2⟩:=info_parts Tryz.info_u8
 have hfr:0≤a∧a≤255:=by
  unfold Cx.fits at hf
  simp at hf
  omega
 obtain ⟨h1,h2⟩:=hfr
 have hlt:=hown.lt
 have HE:Hid (Cx.put 4 a=[a]):=by unfold Hid Cx.put;rw [if_neg (by omega)];rfl
 clear hf
 go_enter Tryz.func193,Tryz.ntmps193
 go_wp2_with (at_builtin;refine wpList_append_own _ rfl _ _ 22 rfl base 5 i0 (.int .u8 0) 1 1 Tryz.underlying22 hi hz0 hz1 hz2 rfl (by decide) _ _ _ rfl ((hown.alloc _).alloc _) ⟨w.heap.size + 1,0,none⟩ 1 1 ([a].map (Value.int .u8)) rfl rfl (cell_lit1 _ _ _ _) (ones_u8 _) (by unfold maxLen;omega) (by omega) (by simp;omega) ?_;intro v' w' hown' hg' hx')
 go_ret
 exact ⟨_,rfl,by rw [HE.out,List.length_append,List.map_append];exact hown',zbp hbase hlt hg'⟩
theorem cell_lit2 (w:World) (o o':Obj) (e:TypeId) (cs:List Value):∀ j u,cs[j]?=some u→(((w.alloc o).alloc o').alloc (.cells cs.toArray e)).cell? ((⟨w.heap.size + 1 + 1,0,none⟩:Addr).add j)=some u:=by
 have h:=cell_lit1 (w.alloc o) o' e cs
 rwa [World.size_alloc] at h
theorem putUnit_any (k:Int) (hk:k=0∨k=1) (out:Value) (xs:List Int) (base:Nat) (u:Int) (w:World) (hown:w.ownsRow base 5 1 out xs.length (xs.map (Value.int .u8))) (hbase:base≤w.heap.size) (hl:xs.length + 4≤140737488355328) (h0:0≤u) (h1:u≤65535) :
  Calls Tryz.prog 187 #[.agg #[.int .i64 k],out,.int .i64 u] w fun e w'=>∃ v',e=.returned v'∧w'.ownsRow base 5 1 v' (xs ++ Cx.unit (k + 2) u).length ((xs ++ Cx.unit (k + 2) u).map (Value.int .u8))∧Below base w w'∧w.grownBy w' out.ownBlock:=by
 obtain ⟨i0,hi,hz0,hz1,hz2⟩:=info_parts Tryz.info_u8
 have hlt:=hown.lt
 rcases hk with rfl | rfl
 ·have HE:Hid (Cx.unit (0 + 2) u=[u % 256,u / 256]):=rfl
  go_enter Tryz.func187,Tryz.ntmps187
  go_wp2_with (at_builtin;refine wpList_append_own _ rfl _ _ 22 rfl base 5 i0 (.int .u8 0) 1 1 Tryz.underlying22 hi hz0 hz1 hz2 rfl (by decide) _ _ _ rfl (((hown.alloc _).alloc _).alloc _) ⟨w.heap.size + 1 + 1,0,none⟩ 2 2 ([u % 256,u / 256].map (Value.int .u8)) rfl rfl (cell_lit2 _ _ _ _ _) (ones_u8 _) (by unfold maxLen;omega) (by omega) (by simp;omega) ?_;intro v' w' hown' hg' hx')
  go_ret
  exact ⟨_,rfl,by rw [HE.out,List.length_append,List.map_append];exact hown',below_put3 hbase hlt hg',grown_put3 hg'⟩
 ·have HE:Hid (Cx.unit (1 + 2) u=[u / 256,u % 256]):=rfl
  go_enter Tryz.func187,Tryz.ntmps187
  go_wp2_with (at_builtin;refine wpList_append_own _ rfl _ _ 22 rfl base 5 i0 (.int .u8 0) 1 1 Tryz.underlying22 hi hz0 hz1 hz2 rfl (by decide) _ _ _ rfl (((hown.alloc _).alloc _).alloc _) ⟨w.heap.size + 1 + 1,0,none⟩ 2 2 ([u / 256,u % 256].map (Value.int .u8)) rfl rfl (cell_lit2 _ _ _ _ _) (ones_u8 _) (by unfold maxLen;omega) (by omega) (by simp;omega) ?_;intro v' w' hown' hg' hx')
  go_ret
  exact ⟨_,rfl,by rw [HE.out,List.length_append,List.map_append];exact hown',below_put3 hbase hlt hg',grown_put3 hg'⟩
theorem put2_any (k:Int) (hk:k=0∨k=1) (out:Value) (xs:List Int) (base:Nat) (a:Int) (w:World) (hown:w.ownsRow base 5 1 out xs.length (xs.map (Value.int .u8))) (hbase:base≤w.heap.size) (hl:xs.length + 8≤140737488355328) (hf:Cx.fits (k + 2) a=true) :
  Calls Tryz.prog 181 #[.agg #[.int .i64 k],out,.int .i64 a] w fun e w'=>∃ v',e=.returned v'∧w'.ownsRow base 5 1 v' (xs ++ Cx.put (k + 2) a).length ((xs ++ Cx.put (k + 2) a).map (Value.int .u8))∧Below base w w':=by
 obtain ⟨i0,hi,hz0,hz1,hz2⟩:=info_parts Tryz.info_u8
 have hfr:-256≤a∧a≤1114111:=by
  unfold Cx.fits at hf
  rcases hk with rfl | rfl <;> simp at hf <;> omega
 obtain ⟨h1,h2⟩:=hfr
 have hlt:=hown.lt
 have HK:Hid (k=0∨k=1):=hk
 clear hf
 rcases (show a < 0∨(0≤a∧a < 65536)∨65536≤a from by omega) with h3 | ⟨h3,h4⟩ | h3
 ·have HE:Hid (Cx.put (k + 2) a=[-1 - a]):=by unfold Hid Cx.put;rw [if_pos h3]
  clear hk
  go_enter Tryz.func181,Tryz.ntmps181
  go_wp2_with (first | (go_at_call 172;refine (rawByte_any _ _ (by omega) (by omega)).mono ?_;rintro e w' ⟨rfl,rfl⟩) | (at_builtin;refine wpList_append_own _ rfl _ _ 22 rfl base 5 i0 (.int .u8 0) 1 1 Tryz.underlying22 hi hz0 hz1 hz2 rfl (by decide) _ _ _ rfl ((hown.alloc _).alloc _) ⟨w.heap.size + 1,0,none⟩ 1 1 ([-1 - a].map (Value.int .u8)) rfl rfl (cell_lit1 _ _ _ _) (ones_u8 _) (by unfold maxLen;omega) (by omega) (by simp;omega) ?_;intro v' w' hown' hg' hx'))
  go_ret
  exact ⟨_,rfl,by rw [HE.out,List.length_append,List.map_append];exact hown',zbp hbase hlt hg'⟩
 ·have HE:Hid (Cx.put (k + 2) a=Cx.unit (k + 2) a):=by
   unfold Hid Cx.put;rw [if_neg (by omega),if_neg (by omega),if_neg (by omega),if_neg (by omega)]
  clear hk
  go_enter Tryz.func181,Tryz.ntmps181
  go_wp2_with fail
  refine (putUnit_any k HK.out _ xs base a _ (hown.alloc _) (by simp;omega) (by omega) h3 (by omega)).mono ?_
  rintro e w1 ⟨v1,rfl,hown1,hb1,hg1⟩
  have HO:Hid (w1.ownsRow base 5 1 v1 (xs ++ Cx.put (k + 2) a).length ((xs ++ Cx.put (k + 2) a).map (Value.int .u8))):=by rw [HE.out];exact hown1
  clear hown1 hg1
  go_wp2
  go_ret
  exact ⟨_,rfl,HO.out,((Below.refl base w).alloc hbase _).trans hb1⟩
 ·have HE:Hid (xs ++ Cx.put (k + 2) a=(xs ++ Cx.unit (k + 2) (55296 + (a - 65536) / 1024)) ++ Cx.unit (k + 2) (56320 + (a - 65536) % 1024)):=by
   unfold Hid Cx.put;rw [if_neg (by omega),if_neg (by omega),if_neg (by omega),if_pos h3,List.append_assoc,show (a - 65536) % 1024=a % 1024 from by omega]
  clear hk
  go_enter Tryz.func181,Tryz.ntmps181
  go_wp2_with fail
  refine (putUnit_any k HK.out _ xs base _ _ (hown.alloc _) (by simp;omega) (by omega) (by omega) (by omega)).mono ?_
  rintro e w1 ⟨v1,rfl,hown1,hb1,hg1⟩
  have hul:(xs ++ Cx.unit (k + 2) (55296 + (a - 65536) / 1024)).length=xs.length + 2:=by rw [List.length_append,Cx.unit_eq];rfl
  have hcb:w1.cell? ⟨w.heap.size,0,none⟩=some (.int .i64 k):=by
   rw [World.cell?_of_block (w:=w.alloc (.cells #[.int .i64 k] 153)) (hg1.block w.heap.size (by simp) (by intro e;have:=hlt _ e.symm;omega))]
   simp
  have hb1':Hid (Below base (w.alloc (.cells #[.int .i64 k] 153)) w1):=hb1
  have hsz:base≤w1.heap.size:=by have:=hb1.size;simp at this;omega
  clear hb1 hg1
  go_wp2_with fail
  refine (putUnit_any k HK.out _ _ base _ _ hown1 hsz (by rw [hul];omega) (by omega) (by omega)).mono ?_
  rintro e w2 ⟨v2,rfl,hown2,hb2,hg2⟩
  have HO:Hid (w2.ownsRow base 5 1 v2 (xs ++ Cx.put (k + 2) a).length ((xs ++ Cx.put (k + 2) a).map (Value.int .u8))):=by rw [HE.out];exact hown2
  clear hown2 hown1 hg2
  go_wp2
  go_ret
  exact ⟨_,rfl,HO.out,((Below.refl base w).alloc hbase _).trans (hb1'.out.trans hb2)⟩
open Go.RowKit
def Cx.bad (enc:Int):Nat→List Int→Option Nat
 | _,[]=>none
 | i,a :: l=>if Cx.fits enc a=true then Cx.bad enc (i + 1) l else some i
def Cx.encB (enc:Int) (l:List Int):List Int:=l.flatMap (Cx.put enc)
def Cx.encR (enc:Int) (l:List Int):List Int × Int × Int :=
 if Cx.known enc=true then (match Cx.bad enc 0 l with | some i=>([],(i:Int),11) | none=>(Cx.encB enc l,0,0)) else ([],0,10)
theorem Cx.bad_at (enc:Int):∀ (l:List Int) (i k:Nat),k < l.length→(∀ j,j < k→Cx.fits enc (l[j]?.getD 0)=true)→Cx.fits enc (l[k]?.getD 0)=false→Cx.bad enc i l=some (i + k):=by
 intro l
 induction l with
 | nil=>intro i k hk;simp at hk
 | cons a l ih =>
   intro i k hk hj hf
   unfold Cx.bad
   cases k with
   | zero=>simp at hf;simp [hf]
   | succ k =>
     have h0:=hj 0 (by omega)
     simp at h0
     rw [if_pos h0,ih (i + 1) k (by simpa using hk) (fun j hjk=>by simpa using hj (j + 1) (by omega)) (by simpa using hf)]
     congr 1;omega
theorem Cx.bad_none (enc:Int):∀ (l:List Int) (i:Nat),(∀ j,j < l.length→Cx.fits enc (l[j]?.getD 0)=true)→Cx.bad enc i l=none:=by
 intro l
 induction l with
 | nil=>intro i _;rfl
 | cons a l ih =>
   intro i hj
   unfold Cx.bad
   have h0:=hj 0 (by simp)
   simp at h0
   rw [if_pos h0]
   exact ih (i + 1) (fun j hjk=>by simpa using hj (j + 1) (by simpa using hjk))
theorem Cx.encB_len (enc:Int) (l:List Int):(Cx.encB enc l).length≤4 * l.length:=by
 unfold Cx.encB
 induction l with
 | nil=>simp
 | cons a l ih =>
   have:=(Cx.put_len enc a).2
   simp only [List.flatMap_cons,List.length_append,List.length_cons]
   omega
theorem Cx.encB_succ (enc:Int) (l:List Int) (k:Nat) (h:k < l.length):Cx.encB enc (l.take (k + 1))=Cx.encB enc (l.take k) ++ Cx.put enc (l[k]?.getD 0):=by
 unfold Cx.encB
 rw [List.take_succ_eq_append_getElem h,List.flatMap_append]
 simp [h]
theorem Cx.encR_bad (enc:Int) (l:List Int) (k:Nat) (hk:Cx.known enc=true) (h1:k < l.length) (h2:∀ j,j < k→Cx.fits enc (l[j]?.getD 0)=true) (h3:Cx.fits enc (l[k]?.getD 0)=false):Cx.encR enc l=([],(k:Int),11):=by
 unfold Cx.encR;rw [if_pos hk,Cx.bad_at enc l 0 k h1 h2 h3];simp
theorem Cx.encR_all (enc:Int) (l:List Int) (hk:Cx.known enc=true) (h2:∀ j,j < l.length→Cx.fits enc (l[j]?.getD 0)=true):Cx.encR enc l=(Cx.encB enc l,0,0):=by
 unfold Cx.encR;rw [if_pos hk,Cx.bad_none enc l 0 h2]
theorem m_put1 (w : World) : (method 323 151 (.agg #[]) "copyist/codec.put").run Tryz.prog w = .ok (166, .agg #[]) w := by kernel_rfl
theorem m_put2 (k : Int) (w : World) : (method 323 153 (.agg #[.int .i64 k]) "copyist/codec.put").run Tryz.prog w = .ok (181, .agg #[.int .i64 k]) w := by kernel_rfl
theorem m_put4 (w : World) : (method 323 154 (.agg #[]) "copyist/codec.put").run Tryz.prog w = .ok (193, .agg #[]) w := by kernel_rfl
theorem Cx.size_zero (enc a:Int):(Cx.size enc a == 0)=!Cx.fits enc a:=by
 have:=Cx.put_len enc a
 unfold Cx.size
 cases h:Cx.fits enc a
 ·simp
 ·simp;intro h';rw [h'] at this;simp at this
theorem sizeE_1 (a:Int) (w:World):Calls Tryz.prog 167 #[.agg #[],.int .i64 a] w fun e w'=>e=.returned (.int .i64 (Cx.size 1 a))∧Below w.heap.size w w':=by rw [Cx.size1];exact nsize_any a w
theorem sizeE_2 (a:Int) (w:World):Calls Tryz.prog 182 #[.agg #[.int .i64 0],.int .i64 a] w fun e w'=>e=.returned (.int .i64 (Cx.size 2 a))∧Below w.heap.size w w':=by rw [Cx.sizeW _ _ (.inl rfl)];exact wsize_any 0 a w
theorem sizeE_3 (a:Int) (w:World):Calls Tryz.prog 182 #[.agg #[.int .i64 1],.int .i64 a] w fun e w'=>e=.returned (.int .i64 (Cx.size 3 a))∧Below w.heap.size w w':=by rw [Cx.sizeW _ _ (.inr rfl)];exact wsize_any 1 a w
theorem sizeE_4 (a:Int) (w:World):Calls Tryz.prog 194 #[.agg #[],.int .i64 a] w fun e w'=>e=.returned (.int .i64 (Cx.size 4 a))∧Below w.heap.size w w':=by rw [Cx.size4];exact lsize_any a w
set_option maxHeartbeats 1000000 in
theorem Encode_1 (v:Value) (l:List Int) (w:World) (h:Rd .i64 w v l) (hz:l.length * 8 + 320≤140737488355328) :
  Calls Tryz.prog 124 #[.int .i64 1,v] w fun e w'=>∃ v',e=.returned (.tuple #[v',.int .i64 (Cx.encR 1 l).2.1,.int .i64 (Cx.encR 1 l).2.2])∧w'.ownsRow w.heap.size 5 1 v' (Cx.encR 1 l).1.length ((Cx.encR 1 l).1.map (Value.int .u8))∧Below w.heap.size w w':=by
 have hlen:=h.len
 obtain ⟨ao,cap,rfl,hlc,hcm,hc⟩:=h
 have hms:=m_size1
 have hmp:=m_put1
 have HA:Hid ((∀ j,j < l.length→Cx.fits 1 (l[j]?.getD 0)=true)→Cx.encR 1 l=(Cx.encB 1 l,0,0)):=Cx.encR_all 1 l rfl
 have HF:Hid (∀ k,k < l.length→(∀ j,j < k→Cx.fits 1 (l[j]?.getD 0)=true)→Cx.fits 1 (l[k]?.getD 0)=false→Cx.encR 1 l=([],(k:Int),11)):=fun k=>Cx.encR_bad 1 l k rfl
 clear hcm
 go_enter Tryz.func124,Tryz.ntmps124
 go_wp2_with (go_at_call 62;refine (coderOf_1 _).mono ?_;rintro e w0 ⟨rfl,rfl⟩)
 go_loopw [9,21] (fun o i wr=>∃ k:Nat,k≤l.length∧i=.int .i64 k∧Hid (∀ j,j < k→Cx.fits 1 (l[j]?.getD 0)=true)∧wr.ownsRow w0.heap.size 5 1 o (Cx.encB 1 (l.take k)).length ((Cx.encB 1 (l.take k)).map (Value.int .u8))∧Below w0.heap.size w0 wr) (fun _ i _=>l.length - (intOf i).toNat)
 case atStart=>exact ⟨0,Nat.zero_le _,rfl,fun j hj=>by omega,World.ownsRow_nil _ _ _ _,Below.refl _ _⟩
 case round =>
  obtain ⟨k,hk,rfl,HJ,hown,hbw⟩:=hrel
  by_cases hlt:k < l.length
  ·obtain ⟨b,off,rfl,hbl,hcl⟩:=hc (List.length_pos_iff.1 (by omega))
   have hcx:wr.cell? ⟨b,off + k,none⟩=some (.int .i64 (l[k]?.getD 0)):=(hbw.cell (p:=⟨b,off + k,none⟩) hbl).trans (hcl k hlt)
   have hel:=Cx.encB_len 1 (l.take k)
   have htk:(l.take k).length=k:=by rw [List.length_take];omega
   have HS:=Cx.encB_succ 1 l k hlt
   have HF':=HF.out k hlt HJ.out
   have hsz:=Cx.size_zero 1 (l[k]?.getD 0)
   cases hf:Cx.fits 1 (l[k]?.getD 0)
   ·rw [hf] at hsz
    have HT:Hid (Cx.encR 1 l=([],(k:Int),11)):=HF' hf
    generalize l[k]?.getD 0=a at *
    clear hc hcl HS HF' HF HA hf
    go_wp2_with fail
    refine (sizeE_1 _ _).mono ?_
    rintro e w1 ⟨rfl,hb1⟩
    have HW1:Hid (Below w0.heap.size w0 w1):=zxt hbw hb1
    clear hb1
    go_wp2_with fail
    go_ret3
    exact ⟨_,by rw [HT.out];rfl,by rw [HT.out];exact World.ownsRow_nil _ _ _ _,HW1.out⟩
   ·rw [hf] at hsz
    have HX:Hid (∀ j,j < k + 1→Cx.fits 1 (l[j]?.getD 0)=true):=fun j hj=>by
     by_cases hjk:j=k
     ·rw [hjk];exact hf
     ·exact HJ.out j (by omega)
    have HFT:Hid (Cx.fits 1 (l[k]?.getD 0)=true):=hf
    have HS':Hid (Cx.encB 1 (l.take (k + 1))=Cx.encB 1 (l.take k) ++ Cx.put 1 (l[k]?.getD 0)):=HS
    generalize l[k]?.getD 0=a at *
    generalize Cx.encB 1 (l.take k)=xs at *
    clear hc hcl HS HF' HF HA hf HJ
    go_wp2_with fail
    refine (sizeE_1 _ _).mono ?_
    rintro e w1 ⟨rfl,hb1⟩
    have hbw1:Below w0.heap.size w0 w1:=zxt hbw hb1
    have hown1:=own_ext hown hb1
    have hs1:w0.heap.size≤w1.heap.size:=hbw1.size
    clear hb1 hown hbw
    go_wp2_with fail
    refine (put1_any _ xs w0.heap.size a _ hown1 hs1 (by omega) HFT.out).mono ?_
    rintro e w2 ⟨v2,rfl,hown2,hb2⟩
    go_wp2_with fail
    go_roundw
    case rel=>exact ⟨k + 1,by omega,by go_num,HX.out,by rw [HS'.out];exact hown2,hbw1.trans hb2⟩
    case measure=>simp [intOf];omega
  ·have hke:k=l.length:=by omega
   subst hke
   have HT:Hid (Cx.encR 1 l=(Cx.encB 1 l,0,0)):=HA.out HJ.out
   rw [List.take_length] at hown
   clear hc HF HA HJ
   go_wp2
   go_ret3
   exact ⟨_,by rw [HT.out];rfl,by rw [HT.out];exact hown,hbw⟩
set_option maxHeartbeats 1000000 in
theorem Encode_2 (v:Value) (l:List Int) (w:World) (h:Rd .i64 w v l) (hz:l.length * 8 + 320≤140737488355328) :
  Calls Tryz.prog 124 #[.int .i64 2,v] w fun e w'=>∃ v',e=.returned (.tuple #[v',.int .i64 (Cx.encR 2 l).2.1,.int .i64 (Cx.encR 2 l).2.2])∧w'.ownsRow w.heap.size 5 1 v' (Cx.encR 2 l).1.length ((Cx.encR 2 l).1.map (Value.int .u8))∧Below w.heap.size w w':=by
 have hlen:=h.len
 obtain ⟨ao,cap,rfl,hlc,hcm,hc⟩:=h
 have hms:=m_size2
 have hmp:=m_put2
 have HA:Hid ((∀ j,j < l.length→Cx.fits 2 (l[j]?.getD 0)=true)→Cx.encR 2 l=(Cx.encB 2 l,0,0)):=Cx.encR_all 2 l rfl
 have HF:Hid (∀ k,k < l.length→(∀ j,j < k→Cx.fits 2 (l[j]?.getD 0)=true)→Cx.fits 2 (l[k]?.getD 0)=false→Cx.encR 2 l=([],(k:Int),11)):=fun k=>Cx.encR_bad 2 l k rfl
 clear hcm
 go_enter Tryz.func124,Tryz.ntmps124
 go_wp2_with (go_at_call 62;refine (coderOf_2 _).mono ?_;rintro e w0 ⟨rfl,rfl⟩)
 go_loopw [9,21] (fun o i wr=>∃ k:Nat,k≤l.length∧i=.int .i64 k∧Hid (∀ j,j < k→Cx.fits 2 (l[j]?.getD 0)=true)∧wr.ownsRow w0.heap.size 5 1 o (Cx.encB 2 (l.take k)).length ((Cx.encB 2 (l.take k)).map (Value.int .u8))∧Below w0.heap.size w0 wr) (fun _ i _=>l.length - (intOf i).toNat)
 case atStart=>exact ⟨0,Nat.zero_le _,rfl,fun j hj=>by omega,World.ownsRow_nil _ _ _ _,Below.refl _ _⟩
 case round =>
  obtain ⟨k,hk,rfl,HJ,hown,hbw⟩:=hrel
  by_cases hlt:k < l.length
  ·obtain ⟨b,off,rfl,hbl,hcl⟩:=hc (List.length_pos_iff.1 (by omega))
   have hcx:wr.cell? ⟨b,off + k,none⟩=some (.int .i64 (l[k]?.getD 0)):=(hbw.cell (p:=⟨b,off + k,none⟩) hbl).trans (hcl k hlt)
   have hel:=Cx.encB_len 2 (l.take k)
   have htk:(l.take k).length=k:=by rw [List.length_take];omega
   have HS:=Cx.encB_succ 2 l k hlt
   have HF':=HF.out k hlt HJ.out
   have hsz:=Cx.size_zero 2 (l[k]?.getD 0)
   cases hf:Cx.fits 2 (l[k]?.getD 0)
   ·rw [hf] at hsz
    have HT:Hid (Cx.encR 2 l=([],(k:Int),11)):=HF' hf
    generalize l[k]?.getD 0=a at *
    clear hc hcl HS HF' HF HA hf
    go_wp2_with fail
    refine (sizeE_2 _ _).mono ?_
    rintro e w1 ⟨rfl,hb1⟩
    have HW1:Hid (Below w0.heap.size w0 w1):=zxt hbw hb1
    clear hb1
    go_wp2_with fail
    go_ret3
    exact ⟨_,by rw [HT.out];rfl,by rw [HT.out];exact World.ownsRow_nil _ _ _ _,HW1.out⟩
   ·rw [hf] at hsz
    have HX:Hid (∀ j,j < k + 1→Cx.fits 2 (l[j]?.getD 0)=true):=fun j hj=>by
     by_cases hjk:j=k
     ·rw [hjk];exact hf
     ·exact HJ.out j (by omega)
    have HFT:Hid (Cx.fits 2 (l[k]?.getD 0)=true):=hf
    have HS':Hid (Cx.encB 2 (l.take (k + 1))=Cx.encB 2 (l.take k) ++ Cx.put 2 (l[k]?.getD 0)):=HS
    generalize l[k]?.getD 0=a at *
    generalize Cx.encB 2 (l.take k)=xs at *
    clear hc hcl HS HF' HF HA hf HJ
    go_wp2_with fail
    refine (sizeE_2 _ _).mono ?_
    rintro e w1 ⟨rfl,hb1⟩
    have hbw1:Below w0.heap.size w0 w1:=zxt hbw hb1
    have hown1:=own_ext hown hb1
    have hs1:w0.heap.size≤w1.heap.size:=hbw1.size
    clear hb1 hown hbw
    go_wp2_with fail
    refine (put2_any 0 (.inl rfl) _ xs w0.heap.size a _ hown1 hs1 (by omega) HFT.out).mono ?_
    rintro e w2 ⟨v2,rfl,hown2,hb2⟩
    go_wp2_with fail
    go_roundw
    case rel=>exact ⟨k + 1,by omega,by go_num,HX.out,by rw [HS'.out];exact hown2,hbw1.trans hb2⟩
    case measure=>simp [intOf];omega
  ·have hke:k=l.length:=by omega
   subst hke
   have HT:Hid (Cx.encR 2 l=(Cx.encB 2 l,0,0)):=HA.out HJ.out
   rw [List.take_length] at hown
   clear hc HF HA HJ
   go_wp2
   go_ret3
   exact ⟨_,by rw [HT.out];rfl,by rw [HT.out];exact hown,hbw⟩
set_option maxHeartbeats 1000000 in
theorem Encode_3 (v:Value) (l:List Int) (w:World) (h:Rd .i64 w v l) (hz:l.length * 8 + 320≤140737488355328) :
  Calls Tryz.prog 124 #[.int .i64 3,v] w fun e w'=>∃ v',e=.returned (.tuple #[v',.int .i64 (Cx.encR 3 l).2.1,.int .i64 (Cx.encR 3 l).2.2])∧w'.ownsRow w.heap.size 5 1 v' (Cx.encR 3 l).1.length ((Cx.encR 3 l).1.map (Value.int .u8))∧Below w.heap.size w w':=by
 have hlen:=h.len
 obtain ⟨ao,cap,rfl,hlc,hcm,hc⟩:=h
 have hms:=m_size2
 have hmp:=m_put2
 have HA:Hid ((∀ j,j < l.length→Cx.fits 3 (l[j]?.getD 0)=true)→Cx.encR 3 l=(Cx.encB 3 l,0,0)):=Cx.encR_all 3 l rfl
 have HF:Hid (∀ k,k < l.length→(∀ j,j < k→Cx.fits 3 (l[j]?.getD 0)=true)→Cx.fits 3 (l[k]?.getD 0)=false→Cx.encR 3 l=([],(k:Int),11)):=fun k=>Cx.encR_bad 3 l k rfl
 clear hcm
 go_enter Tryz.func124,Tryz.ntmps124
 go_wp2_with (go_at_call 62;refine (coderOf_3 _).mono ?_;rintro e w0 ⟨rfl,rfl⟩)
 go_loopw [9,21] (fun o i wr=>∃ k:Nat,k≤l.length∧i=.int .i64 k∧Hid (∀ j,j < k→Cx.fits 3 (l[j]?.getD 0)=true)∧wr.ownsRow w0.heap.size 5 1 o (Cx.encB 3 (l.take k)).length ((Cx.encB 3 (l.take k)).map (Value.int .u8))∧Below w0.heap.size w0 wr) (fun _ i _=>l.length - (intOf i).toNat)
 case atStart=>exact ⟨0,Nat.zero_le _,rfl,fun j hj=>by omega,World.ownsRow_nil _ _ _ _,Below.refl _ _⟩
 case round =>
  obtain ⟨k,hk,rfl,HJ,hown,hbw⟩:=hrel
  by_cases hlt:k < l.length
  ·obtain ⟨b,off,rfl,hbl,hcl⟩:=hc (List.length_pos_iff.1 (by omega))
   have hcx:wr.cell? ⟨b,off + k,none⟩=some (.int .i64 (l[k]?.getD 0)):=(hbw.cell (p:=⟨b,off + k,none⟩) hbl).trans (hcl k hlt)
   have hel:=Cx.encB_len 3 (l.take k)
   have htk:(l.take k).length=k:=by rw [List.length_take];omega
   have HS:=Cx.encB_succ 3 l k hlt
   have HF':=HF.out k hlt HJ.out
   have hsz:=Cx.size_zero 3 (l[k]?.getD 0)
   cases hf:Cx.fits 3 (l[k]?.getD 0)
   ·rw [hf] at hsz
    have HT:Hid (Cx.encR 3 l=([],(k:Int),11)):=HF' hf
    generalize l[k]?.getD 0=a at *
    clear hc hcl HS HF' HF HA hf
    go_wp2_with fail
    refine (sizeE_3 _ _).mono ?_
    rintro e w1 ⟨rfl,hb1⟩
    have HW1:Hid (Below w0.heap.size w0 w1):=zxt hbw hb1
    clear hb1
    go_wp2_with fail
    go_ret3
    exact ⟨_,by rw [HT.out];rfl,by rw [HT.out];exact World.ownsRow_nil _ _ _ _,HW1.out⟩
   ·rw [hf] at hsz
    have HX:Hid (∀ j,j < k + 1→Cx.fits 3 (l[j]?.getD 0)=true):=fun j hj=>by
     by_cases hjk:j=k
     ·rw [hjk];exact hf
     ·exact HJ.out j (by omega)
    have HFT:Hid (Cx.fits 3 (l[k]?.getD 0)=true):=hf
    have HS':Hid (Cx.encB 3 (l.take (k + 1))=Cx.encB 3 (l.take k) ++ Cx.put 3 (l[k]?.getD 0)):=HS
    generalize l[k]?.getD 0=a at *
    generalize Cx.encB 3 (l.take k)=xs at *
    clear hc hcl HS HF' HF HA hf HJ
    go_wp2_with fail
    refine (sizeE_3 _ _).mono ?_
    rintro e w1 ⟨rfl,hb1⟩
    have hbw1:Below w0.heap.size w0 w1:=zxt hbw hb1
    have hown1:=own_ext hown hb1
    have hs1:w0.heap.size≤w1.heap.size:=hbw1.size
    clear hb1 hown hbw
    go_wp2_with fail
    refine (put2_any 1 (.inr rfl) _ xs w0.heap.size a _ hown1 hs1 (by omega) HFT.out).mono ?_
    rintro e w2 ⟨v2,rfl,hown2,hb2⟩
    go_wp2_with fail
    go_roundw
    case rel=>exact ⟨k + 1,by omega,by go_num,HX.out,by rw [HS'.out];exact hown2,hbw1.trans hb2⟩
    case measure=>simp [intOf];omega
  ·have hke:k=l.length:=by omega
   subst hke
   have HT:Hid (Cx.encR 3 l=(Cx.encB 3 l,0,0)):=HA.out HJ.out
   rw [List.take_length] at hown
   clear hc HF HA HJ
   go_wp2
   go_ret3
   exact ⟨_,by rw [HT.out];rfl,by rw [HT.out];exact hown,hbw⟩
set_option maxHeartbeats 1000000 in
theorem Encode_4 (v:Value) (l:List Int) (w:World) (h:Rd .i64 w v l) (hz:l.length * 8 + 320≤140737488355328) :
  Calls Tryz.prog 124 #[.int .i64 4,v] w fun e w'=>∃ v',e=.returned (.tuple #[v',.int .i64 (Cx.encR 4 l).2.1,.int .i64 (Cx.encR 4 l).2.2])∧w'.ownsRow w.heap.size 5 1 v' (Cx.encR 4 l).1.length ((Cx.encR 4 l).1.map (Value.int .u8))∧Below w.heap.size w w':=by
 have hlen:=h.len
 obtain ⟨ao,cap,rfl,hlc,hcm,hc⟩:=h
 have hms:=m_size4
 have hmp:=m_put4
 have HA:Hid ((∀ j,j < l.length→Cx.fits 4 (l[j]?.getD 0)=true)→Cx.encR 4 l=(Cx.encB 4 l,0,0)):=Cx.encR_all 4 l rfl
 have HF:Hid (∀ k,k < l.length→(∀ j,j < k→Cx.fits 4 (l[j]?.getD 0)=true)→Cx.fits 4 (l[k]?.getD 0)=false→Cx.encR 4 l=([],(k:Int),11)):=fun k=>Cx.encR_bad 4 l k rfl
 clear hcm
 go_enter Tryz.func124,Tryz.ntmps124
 go_wp2_with (go_at_call 62;refine (coderOf_4 _).mono ?_;rintro e w0 ⟨rfl,rfl⟩)
 go_loopw [9,21] (fun o i wr=>∃ k:Nat,k≤l.length∧i=.int .i64 k∧Hid (∀ j,j < k→Cx.fits 4 (l[j]?.getD 0)=true)∧wr.ownsRow w0.heap.size 5 1 o (Cx.encB 4 (l.take k)).length ((Cx.encB 4 (l.take k)).map (Value.int .u8))∧Below w0.heap.size w0 wr) (fun _ i _=>l.length - (intOf i).toNat)
 case atStart=>exact ⟨0,Nat.zero_le _,rfl,fun j hj=>by omega,World.ownsRow_nil _ _ _ _,Below.refl _ _⟩
 case round =>
  obtain ⟨k,hk,rfl,HJ,hown,hbw⟩:=hrel
  by_cases hlt:k < l.length
  ·obtain ⟨b,off,rfl,hbl,hcl⟩:=hc (List.length_pos_iff.1 (by omega))
   have hcx:wr.cell? ⟨b,off + k,none⟩=some (.int .i64 (l[k]?.getD 0)):=(hbw.cell (p:=⟨b,off + k,none⟩) hbl).trans (hcl k hlt)
   have hel:=Cx.encB_len 4 (l.take k)
   have htk:(l.take k).length=k:=by rw [List.length_take];omega
   have HS:=Cx.encB_succ 4 l k hlt
   have HF':=HF.out k hlt HJ.out
   have hsz:=Cx.size_zero 4 (l[k]?.getD 0)
   cases hf:Cx.fits 4 (l[k]?.getD 0)
   ·rw [hf] at hsz
    have HT:Hid (Cx.encR 4 l=([],(k:Int),11)):=HF' hf
    generalize l[k]?.getD 0=a at *
    clear hc hcl HS HF' HF HA hf
    go_wp2_with fail
    refine (sizeE_4 _ _).mono ?_
    rintro e w1 ⟨rfl,hb1⟩
    have HW1:Hid (Below w0.heap.size w0 w1):=zxt hbw hb1
    clear hb1
    go_wp2_with fail
    go_ret3
    exact ⟨_,by rw [HT.out];rfl,by rw [HT.out];exact World.ownsRow_nil _ _ _ _,HW1.out⟩
   ·rw [hf] at hsz
    have HX:Hid (∀ j,j < k + 1→Cx.fits 4 (l[j]?.getD 0)=true):=fun j hj=>by
     by_cases hjk:j=k
     ·rw [hjk];exact hf
     ·exact HJ.out j (by omega)
    have HFT:Hid (Cx.fits 4 (l[k]?.getD 0)=true):=hf
    have HS':Hid (Cx.encB 4 (l.take (k + 1))=Cx.encB 4 (l.take k) ++ Cx.put 4 (l[k]?.getD 0)):=HS
    generalize l[k]?.getD 0=a at *
    generalize Cx.encB 4 (l.take k)=xs at *
    clear hc hcl HS HF' HF HA hf HJ
    go_wp2_with fail
    refine (sizeE_4 _ _).mono ?_
    rintro e w1 ⟨rfl,hb1⟩
    have hbw1:Below w0.heap.size w0 w1:=zxt hbw hb1
    have hown1:=own_ext hown hb1
    have hs1:w0.heap.size≤w1.heap.size:=hbw1.size
    clear hb1 hown hbw
    go_wp2_with fail
    refine (put4_any _ xs w0.heap.size a _ hown1 hs1 (by omega) HFT.out).mono ?_
    rintro e w2 ⟨v2,rfl,hown2,hb2⟩
    go_wp2_with fail
    go_roundw
    case rel=>exact ⟨k + 1,by omega,by go_num,HX.out,by rw [HS'.out];exact hown2,hbw1.trans hb2⟩
    case measure=>simp [intOf];omega
  ·have hke:k=l.length:=by omega
   subst hke
   have HT:Hid (Cx.encR 4 l=(Cx.encB 4 l,0,0)):=HA.out HJ.out
   rw [List.take_length] at hown
   clear hc HF HA HJ
   go_wp2
   go_ret3
   exact ⟨_,by rw [HT.out];rfl,by rw [HT.out];exact hown,hbw⟩
end Go.Proofs.YtdhciadajendnaaGreat
