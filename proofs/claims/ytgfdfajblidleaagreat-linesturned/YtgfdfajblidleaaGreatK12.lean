import Derived.Test.YtgfdfajblidleaaGreatK11
set_option maxRecDepth 100000
namespace Go.Proofs.YtgfdfajblidleaaGreat
open Go.RowKit
theorem and63 {x:Int} (h0:0≤x) (h1:x < 9223372036854775808):bits .and .i64 x 63=x % 64:=bits_mask .i64 63 (by decide) wraps_i64 6 (by decide) x h0 (by omega)
theorem orJ (i:Nat) {x y:Int} (hx0:0≤x) (hx:x % 2 ^ i=0) (hx1:x < 9223372036854775808) (h0:0≤y) (h1:y < 2 ^ i) (h2:y < 9223372036854775808):bits .or .i64 x y=x + y:=bits_join .i64 63 (by decide) wraps_i64 i x y hx0 hx (by omega) h0 h1 (by omega)
theorem further_any (r:Int) (w:World) (h0:0≤r) (h1:r≤1114111):Calls Tryz.prog 141 #[.int .i64 r] w fun e w'=>e=.returned (.int .u8 (128 + r % 64))∧w'=w:=by
 have e1:bits .and .i64 r 63=r % 64:=and63 h0 (by omega)
 have e2:bits .or .i64 128 (r % 64)=128 + r % 64:=orJ 6 (by omega) (by decide) (by omega) (by omega) (by omega) (by omega)
 go_enter Tryz.func141,Tryz.ntmps141
 go_wp2
 go_ret
 exact ⟨ret_int' (by omega),rfl⟩
theorem rawByte_any (a:Int) (w:World) (h0:-256≤a) (h1:a≤-1):Calls Tryz.prog 140 #[.int .i64 a] w fun e w'=>e=.returned (.int .u8 (-1 - a))∧w'=w:=by
 go_enter Tryz.func140,Tryz.ntmps140
 go_wp2
 go_ret
 exact ⟨rfl,rfl⟩
theorem cell_lit1 (w:World) (o:Obj) (e:TypeId) (cs:List Value):∀ j u,cs[j]?=some u→((w.alloc o).alloc (.cells cs.toArray e)).cell? ((⟨w.heap.size + 1,0,none⟩:Addr).add j)=some u:=by
 intro j u hu
 have h:((w.alloc o).alloc (.cells cs.toArray e)).heap[w.heap.size + 1]?=some (.cells cs.toArray e):=by
  have:=heap_alloc_new (w.alloc o) (.cells cs.toArray e)
  rwa [World.size_alloc] at this
 have hadd:(⟨w.heap.size + 1,0,none⟩:Addr).add j=⟨w.heap.size + 1,j,none⟩:=by unfold Addr.add;split <;> simp_all
 rw [hadd,cell_of_row _ _ j _ _ _ h]
 simpa using hu
theorem zbp {base:Nat} {w w':World} {o o':Obj} {out:Value} {n:Nat} (hbase:base≤w.heap.size) (hlt:∀ k,out.ownBlock=some k→base≤k∧k < n) (hg:((w.alloc o).alloc o').grownBy w' out.ownBlock):Below base w w' :=
 (((Below.refl base w).alloc hbase o).alloc (by simp;omega) o').grown hg (by simp;omega) (fun k hk=>(hlt k hk).1)
theorem below_put3 {base:Nat} {w w':World} {o o' o'':Obj} {out:Value} {n:Nat} (hbase:base≤w.heap.size) (hlt:∀ k,out.ownBlock=some k→base≤k∧k < n) (hg:(((w.alloc o).alloc o').alloc o'').grownBy w' out.ownBlock):Below base w w' :=
 ((((Below.refl base w).alloc hbase o).alloc (by simp;omega) o').alloc (by simp;omega) o'').grown hg (by simp;omega) (fun k hk=>(hlt k hk).1)
theorem grown_put3 {w w':World} {o o' o'':Obj} {row:Option Nat} (hg:(((w.alloc o).alloc o').alloc o'').grownBy w' row):w.grownBy w' row :=
 ⟨hg.os,hg.tape,hg.output,by have:=hg.size;simp at this;omega,fun k hk hne=>by
  rw [hg.block k (by simp;omega) hne,Below.heap_alloc _ _ _ (by simp;omega),Below.heap_alloc _ _ _ (by simp;omega),Below.heap_alloc _ _ _ hk]⟩
theorem ones_u8 (bs:List Int):∀ u ∈ bs.map (Value.int .u8),u.oneCell'=true:=by
 intro u hu
 obtain ⟨_,_,rfl⟩:=List.mem_map.1 hu
 rfl
theorem put1_any (out:Value) (xs:List Int) (base:Nat) (a:Int) (w:World) (hown:w.ownsRow base 5 1 out xs.length (xs.map (Value.int .u8))) (hbase:base≤w.heap.size) (hl:xs.length + 4≤140737488355328) (hf:Cx.fits 1 a=true) :
  Calls Tryz.prog 134 #[.agg #[],out,.int .i64 a] w fun e w'=>∃ v',e=.returned v'∧w'.ownsRow base 5 1 v' (xs ++ Cx.put 1 a).length ((xs ++ Cx.put 1 a).map (Value.int .u8))∧Below base w w':=by
 obtain ⟨i0,hi,hz0,hz1,hz2⟩:=info_parts Tryz.info_u8
 have hfr:(-256≤a∧a≤-129)∨(0≤a∧a≤1114111):=by
  unfold Cx.fits Cx.isSc at hf
  simp at hf
  omega
 have hlt:=hown.lt
 clear hf
 rcases (show (-256≤a∧a≤-129)∨(0≤a∧a < 128)∨(128≤a∧a < 2048)∨(2048≤a∧a < 65536)∨(65536≤a∧a≤1114111) from by omega) with ⟨h1,h2⟩ | ⟨h1,h2⟩ | ⟨h1,h2⟩ | ⟨h1,h2⟩ | ⟨h1,h2⟩
 ·have HE:Hid (Cx.put 1 a=[-1 - a]):=by unfold Hid Cx.put;rw [if_pos (by omega)]
  clear hfr
  go_enter Tryz.func134,Tryz.ntmps134
  go_wp2_with (first | (go_at_call 140;refine (rawByte_any _ _ (by omega) (by omega)).mono ?_;rintro e w' ⟨rfl,rfl⟩) | (at_builtin;refine wpList_append_own _ rfl _ _ 22 rfl base 5 i0 (.int .u8 0) 1 1 Tryz.underlying22 hi hz0 hz1 hz2 rfl (by decide) _ _ _ rfl ((hown.alloc _).alloc _) ⟨w.heap.size + 1,0,none⟩ 1 1 ([-1 - a].map (Value.int .u8)) rfl rfl (cell_lit1 _ _ _ _) (ones_u8 _) (by unfold maxLen;omega) (by omega) (by simp;omega) ?_;intro v' w' hown' hg' hx'))
  go_ret
  exact ⟨_,rfl,by rw [HE.out,List.length_append,List.map_append];exact hown',zbp hbase hlt hg'⟩
 ·have HE:Hid (Cx.put 1 a=[a]):=by unfold Hid Cx.put Cx.put8;rw [if_neg (by omega),if_pos rfl,if_pos h2]
  clear hfr
  go_enter Tryz.func134,Tryz.ntmps134
  go_wp2_with (first | (at_builtin;refine wpList_append_own _ rfl _ _ 22 rfl base 5 i0 (.int .u8 0) 1 1 Tryz.underlying22 hi hz0 hz1 hz2 rfl (by decide) _ _ _ rfl ((hown.alloc _).alloc _) ⟨w.heap.size + 1,0,none⟩ 1 1 ([a].map (Value.int .u8)) rfl rfl (cell_lit1 _ _ _ _) (ones_u8 _) (by unfold maxLen;omega) (by omega) (by simp;omega) ?_;intro v' w' hown' hg' hx'))
  go_ret
  exact ⟨_,rfl,by rw [HE.out,List.length_append,List.map_append];exact hown',zbp hbase hlt hg'⟩
 ·have HE:Hid (Cx.put 1 a=[192 + a / 64,128 + a % 64]):=by unfold Hid Cx.put Cx.put8;rw [if_neg (by omega),if_pos rfl,if_neg (by omega),if_pos h2]
  have e1:bits .or .i64 192 (a / 64)=192 + a / 64:=orJ 5 (by omega) (by decide) (by omega) (by omega) (by omega) (by omega)
  clear hfr
  go_enter Tryz.func134,Tryz.ntmps134
  go_wp2_with (first | (go_at_call 141;refine (further_any _ _ (by omega) (by omega)).mono ?_;rintro e wf ⟨rfl,rfl⟩) | (at_builtin;refine wpList_append_own _ rfl _ _ 22 rfl base 5 i0 (.int .u8 0) 1 1 Tryz.underlying22 hi hz0 hz1 hz2 rfl (by decide) _ _ _ rfl ((hown.alloc _).alloc _) ⟨w.heap.size + 1,0,none⟩ 2 2 ([192 + a / 64,128 + a % 64].map (Value.int .u8)) rfl rfl (cell_lit1 _ _ _ _) (ones_u8 _) (by unfold maxLen;omega) (by omega) (by simp;omega) ?_;intro v' w' hown' hg' hx'))
  go_ret
  exact ⟨_,rfl,by rw [HE.out,List.length_append,List.map_append];exact hown',zbp hbase hlt hg'⟩
 ·have HE:Hid (Cx.put 1 a=[224 + a / 4096,128 + a / 64 % 64,128 + a % 64]):=by unfold Hid Cx.put Cx.put8;rw [if_neg (by omega),if_pos rfl,if_neg (by omega),if_neg (by omega),if_pos h2]
  have e1:bits .or .i64 224 (a / 4096)=224 + a / 4096:=orJ 4 (by omega) (by decide) (by omega) (by omega) (by omega) (by omega)
  clear hfr
  go_enter Tryz.func134,Tryz.ntmps134
  go_wp2_with (first | (go_at_call 141;refine (further_any _ _ (by omega) (by omega)).mono ?_;rintro e wf ⟨rfl,rfl⟩) | (at_builtin;refine wpList_append_own _ rfl _ _ 22 rfl base 5 i0 (.int .u8 0) 1 1 Tryz.underlying22 hi hz0 hz1 hz2 rfl (by decide) _ _ _ rfl ((hown.alloc _).alloc _) ⟨w.heap.size + 1,0,none⟩ 3 3 ([224 + a / 4096,128 + a / 64 % 64,128 + a % 64].map (Value.int .u8)) rfl rfl (cell_lit1 _ _ _ _) (ones_u8 _) (by unfold maxLen;omega) (by omega) (by simp;omega) ?_;intro v' w' hown' hg' hx'))
  go_ret
  exact ⟨_,rfl,by rw [HE.out,List.length_append,List.map_append];exact hown',zbp hbase hlt hg'⟩
 ·have HE:Hid (Cx.put 1 a=[240 + a / 262144,128 + a / 4096 % 64,128 + a / 64 % 64,128 + a % 64]):=by unfold Hid Cx.put Cx.put8;rw [if_neg (by omega),if_pos rfl,if_neg (by omega),if_neg (by omega),if_neg (by omega)]
  have e1:bits .or .i64 240 (a / 262144)=240 + a / 262144:=orJ 4 (by omega) (by decide) (by omega) (by omega) (by omega) (by omega)
  clear hfr
  go_enter Tryz.func134,Tryz.ntmps134
  go_wp2_with (first | (go_at_call 141;refine (further_any _ _ (by omega) (by omega)).mono ?_;rintro e wf ⟨rfl,rfl⟩) | (at_builtin;refine wpList_append_own _ rfl _ _ 22 rfl base 5 i0 (.int .u8 0) 1 1 Tryz.underlying22 hi hz0 hz1 hz2 rfl (by decide) _ _ _ rfl ((hown.alloc _).alloc _) ⟨w.heap.size + 1,0,none⟩ 4 4 ([240 + a / 262144,128 + a / 4096 % 64,128 + a / 64 % 64,128 + a % 64].map (Value.int .u8)) rfl rfl (cell_lit1 _ _ _ _) (ones_u8 _) (by unfold maxLen;omega) (by omega) (by simp;omega) ?_;intro v' w' hown' hg' hx'))
  go_ret
  exact ⟨_,rfl,by rw [HE.out,List.length_append,List.map_append];exact hown',zbp hbase hlt hg'⟩
theorem put4_any (out:Value) (xs:List Int) (base:Nat) (a:Int) (w:World) (hown:w.ownsRow base 5 1 out xs.length (xs.map (Value.int .u8))) (hbase:base≤w.heap.size) (hl:xs.length + 4≤140737488355328) (hf:Cx.fits 4 a=true) :
  Calls Tryz.prog 161 #[.agg #[],out,.int .i64 a] w fun e w'=>∃ v',e=.returned v'∧w'.ownsRow base 5 1 v' (xs ++ Cx.put 4 a).length ((xs ++ Cx.put 4 a).map (Value.int .u8))∧Below base w w':=by
 obtain ⟨i0,hi,hz0,hz1,hz2⟩:=info_parts Tryz.info_u8
 have hfr:0≤a∧a≤255:=by
  unfold Cx.fits at hf
  simp at hf
  omega
 obtain ⟨h1,h2⟩:=hfr
 have hlt:=hown.lt
 have HE:Hid (Cx.put 4 a=[a]):=by unfold Hid Cx.put;rw [if_neg (by omega)];rfl
 clear hf
 go_enter Tryz.func161,Tryz.ntmps161
 go_wp2_with (at_builtin;refine wpList_append_own _ rfl _ _ 22 rfl base 5 i0 (.int .u8 0) 1 1 Tryz.underlying22 hi hz0 hz1 hz2 rfl (by decide) _ _ _ rfl ((hown.alloc _).alloc _) ⟨w.heap.size + 1,0,none⟩ 1 1 ([a].map (Value.int .u8)) rfl rfl (cell_lit1 _ _ _ _) (ones_u8 _) (by unfold maxLen;omega) (by omega) (by simp;omega) ?_;intro v' w' hown' hg' hx')
 go_ret
 exact ⟨_,rfl,by rw [HE.out,List.length_append,List.map_append];exact hown',zbp hbase hlt hg'⟩
theorem cell_lit2 (w:World) (o o':Obj) (e:TypeId) (cs:List Value):∀ j u,cs[j]?=some u→(((w.alloc o).alloc o').alloc (.cells cs.toArray e)).cell? ((⟨w.heap.size + 1 + 1,0,none⟩:Addr).add j)=some u:=by
 have h:=cell_lit1 (w.alloc o) o' e cs
 rwa [World.size_alloc] at h
theorem putUnit_any (k:Int) (hk:k=0∨k=1) (out:Value) (xs:List Int) (base:Nat) (u:Int) (w:World) (hown:w.ownsRow base 5 1 out xs.length (xs.map (Value.int .u8))) (hbase:base≤w.heap.size) (hl:xs.length + 4≤140737488355328) (h0:0≤u) (h1:u≤65535) :
  Calls Tryz.prog 155 #[.agg #[.int .i64 k],out,.int .i64 u] w fun e w'=>∃ v',e=.returned v'∧w'.ownsRow base 5 1 v' (xs ++ Cx.unit (k + 2) u).length ((xs ++ Cx.unit (k + 2) u).map (Value.int .u8))∧Below base w w'∧w.grownBy w' out.ownBlock:=by
 obtain ⟨i0,hi,hz0,hz1,hz2⟩:=info_parts Tryz.info_u8
 have hlt:=hown.lt
 rcases hk with rfl | rfl
 ·have HE:Hid (Cx.unit (0 + 2) u=[u % 256,u / 256]):=rfl
  go_enter Tryz.func155,Tryz.ntmps155
  go_wp2_with (at_builtin;refine wpList_append_own _ rfl _ _ 22 rfl base 5 i0 (.int .u8 0) 1 1 Tryz.underlying22 hi hz0 hz1 hz2 rfl (by decide) _ _ _ rfl (((hown.alloc _).alloc _).alloc _) ⟨w.heap.size + 1 + 1,0,none⟩ 2 2 ([u % 256,u / 256].map (Value.int .u8)) rfl rfl (cell_lit2 _ _ _ _ _) (ones_u8 _) (by unfold maxLen;omega) (by omega) (by simp;omega) ?_;intro v' w' hown' hg' hx')
  go_ret
  exact ⟨_,rfl,by rw [HE.out,List.length_append,List.map_append];exact hown',below_put3 hbase hlt hg',grown_put3 hg'⟩
 ·have HE:Hid (Cx.unit (1 + 2) u=[u / 256,u % 256]):=rfl
  go_enter Tryz.func155,Tryz.ntmps155
  go_wp2_with (at_builtin;refine wpList_append_own _ rfl _ _ 22 rfl base 5 i0 (.int .u8 0) 1 1 Tryz.underlying22 hi hz0 hz1 hz2 rfl (by decide) _ _ _ rfl (((hown.alloc _).alloc _).alloc _) ⟨w.heap.size + 1 + 1,0,none⟩ 2 2 ([u / 256,u % 256].map (Value.int .u8)) rfl rfl (cell_lit2 _ _ _ _ _) (ones_u8 _) (by unfold maxLen;omega) (by omega) (by simp;omega) ?_;intro v' w' hown' hg' hx')
  go_ret
  exact ⟨_,rfl,by rw [HE.out,List.length_append,List.map_append];exact hown',below_put3 hbase hlt hg',grown_put3 hg'⟩
theorem put2_any (k:Int) (hk:k=0∨k=1) (out:Value) (xs:List Int) (base:Nat) (a:Int) (w:World) (hown:w.ownsRow base 5 1 out xs.length (xs.map (Value.int .u8))) (hbase:base≤w.heap.size) (hl:xs.length + 8≤140737488355328) (hf:Cx.fits (k + 2) a=true) :
  Calls Tryz.prog 149 #[.agg #[.int .i64 k],out,.int .i64 a] w fun e w'=>∃ v',e=.returned v'∧w'.ownsRow base 5 1 v' (xs ++ Cx.put (k + 2) a).length ((xs ++ Cx.put (k + 2) a).map (Value.int .u8))∧Below base w w':=by
 obtain ⟨i0,hi,hz0,hz1,hz2⟩:=info_parts Tryz.info_u8
 have hfr:-256≤a∧a≤1114111:=by
  unfold Cx.fits at hf
  rcases hk with rfl | rfl <;> simp at hf <;> omega
 obtain ⟨h1,h2⟩:=hfr
 have hlt:=hown.lt
 have HK:Hid (k=0∨k=1):=hk
 clear hf
 rcases (show a < 0∨(0≤a∧a < 65536)∨65536≤a from by omega) with h3 | ⟨h3,h4⟩ | h3
 ·have HE:Hid (Cx.put (k + 2) a=[-1 - a]):=by unfold Hid Cx.put;rw [if_pos h3]
  clear hk
  go_enter Tryz.func149,Tryz.ntmps149
  go_wp2_with (first | (go_at_call 140;refine (rawByte_any _ _ (by omega) (by omega)).mono ?_;rintro e w' ⟨rfl,rfl⟩) | (at_builtin;refine wpList_append_own _ rfl _ _ 22 rfl base 5 i0 (.int .u8 0) 1 1 Tryz.underlying22 hi hz0 hz1 hz2 rfl (by decide) _ _ _ rfl ((hown.alloc _).alloc _) ⟨w.heap.size + 1,0,none⟩ 1 1 ([-1 - a].map (Value.int .u8)) rfl rfl (cell_lit1 _ _ _ _) (ones_u8 _) (by unfold maxLen;omega) (by omega) (by simp;omega) ?_;intro v' w' hown' hg' hx'))
  go_ret
  exact ⟨_,rfl,by rw [HE.out,List.length_append,List.map_append];exact hown',zbp hbase hlt hg'⟩
 ·have HE:Hid (Cx.put (k + 2) a=Cx.unit (k + 2) a):=by
   unfold Hid Cx.put;rw [if_neg (by omega),if_neg (by omega),if_neg (by omega),if_neg (by omega)]
  clear hk
  go_enter Tryz.func149,Tryz.ntmps149
  go_wp2_with fail
  refine (putUnit_any k HK.out _ xs base a _ (hown.alloc _) (by simp;omega) (by omega) h3 (by omega)).mono ?_
  rintro e w1 ⟨v1,rfl,hown1,hb1,hg1⟩
  have HO:Hid (w1.ownsRow base 5 1 v1 (xs ++ Cx.put (k + 2) a).length ((xs ++ Cx.put (k + 2) a).map (Value.int .u8))):=by rw [HE.out];exact hown1
  clear hown1 hg1
  go_wp2
  go_ret
  exact ⟨_,rfl,HO.out,((Below.refl base w).alloc hbase _).trans hb1⟩
 ·have HE:Hid (xs ++ Cx.put (k + 2) a=(xs ++ Cx.unit (k + 2) (55296 + (a - 65536) / 1024)) ++ Cx.unit (k + 2) (56320 + (a - 65536) % 1024)):=by
   unfold Hid Cx.put;rw [if_neg (by omega),if_neg (by omega),if_neg (by omega),if_pos h3,List.append_assoc,show (a - 65536) % 1024=a % 1024 from by omega]
  clear hk
  go_enter Tryz.func149,Tryz.ntmps149
  go_wp2_with fail
  refine (putUnit_any k HK.out _ xs base _ _ (hown.alloc _) (by simp;omega) (by omega) (by omega) (by omega)).mono ?_
  rintro e w1 ⟨v1,rfl,hown1,hb1,hg1⟩
  have hul:(xs ++ Cx.unit (k + 2) (55296 + (a - 65536) / 1024)).length=xs.length + 2:=by rw [List.length_append,Cx.unit_eq];rfl
  have hcb:w1.cell? ⟨w.heap.size,0,none⟩=some (.int .i64 k):=by
   rw [World.cell?_of_block (w:=w.alloc (.cells #[.int .i64 k] 163)) (hg1.block w.heap.size (by simp) (by intro e;have:=hlt _ e.symm;omega))]
   simp
  have hb1':Hid (Below base (w.alloc (.cells #[.int .i64 k] 163)) w1):=hb1
  have hsz:base≤w1.heap.size:=by have:=hb1.size;simp at this;omega
  clear hb1 hg1
  go_wp2_with fail
  refine (putUnit_any k HK.out _ _ base _ _ hown1 hsz (by rw [hul];omega) (by omega) (by omega)).mono ?_
  rintro e w2 ⟨v2,rfl,hown2,hb2,hg2⟩
  have HO:Hid (w2.ownsRow base 5 1 v2 (xs ++ Cx.put (k + 2) a).length ((xs ++ Cx.put (k + 2) a).map (Value.int .u8))):=by rw [HE.out];exact hown2
  clear hown2 hown1 hg2
  go_wp2
  go_ret
  exact ⟨_,rfl,HO.out,((Below.refl base w).alloc hbase _).trans (hb1'.out.trans hb2)⟩
end Go.Proofs.YtgfdfajblidleaaGreat
namespace Go.Proofs.YtgfdfajblidleaaGreat.Cx
def mean (zs:List Int):Int:=match zs with
 | [a]=>a
 | [a,b]=>(a - 192) * 64 + b - 128
 | [a,b,c]=>((a - 224) * 64 + b - 128) * 64 + c - 128
 | [a,b,c,d]=>(((a - 240) * 64 + b - 128) * 64 + c - 128) * 64 + d - 128
 | _=>0
def hitB (b:List Int) (k:Nat):Bool:=decide (k≤b.length) && isSc (mean (b.take k)) && decide ((put8 (mean (b.take k))).length=k) && (put8 (mean (b.take k))).isPrefixOf b
theorem sc_iff (a:Int):isSc a=true ↔ (0≤a∧a < 55296)∨(57343 < a∧a≤1114111):=by
 unfold isSc;simp
theorem put8_one (a:Int) (h:(put8 a).length=1):a < 128:=by
 unfold put8 at h;repeat' split at h
 all_goals first | assumption | simp at h
theorem put8_two (a:Int) (h:(put8 a).length=2):128≤a∧a < 2048:=by
 unfold put8 at h;repeat' split at h
 all_goals first | (simp at h;done) | omega
theorem put8_three (a:Int) (h:(put8 a).length=3):2048≤a∧a < 65536:=by
 unfold put8 at h;repeat' split at h
 all_goals first | (simp at h;done) | omega
theorem put8_four (a:Int) (h:(put8 a).length=4):65536≤a:=by
 unfold put8 at h;repeat' split at h
 all_goals first | (simp at h;done) | omega
theorem put8_1 (a:Int) (h:a < 128):put8 a=[a]:=by unfold put8;rw [if_pos h]
theorem put8_2 (a:Int) (h:128≤a) (h':a < 2048):put8 a=[192 + a / 64,128 + a % 64]:=by unfold put8;rw [if_neg (by omega),if_pos h']
theorem put8_3 (a:Int) (h:2048≤a) (h':a < 65536):put8 a=[224 + a / 4096,128 + a / 64 % 64,128 + a % 64]:=by unfold put8;rw [if_neg (by omega),if_neg (by omega),if_pos h']
theorem put8_4 (a:Int) (h:65536≤a):put8 a=[240 + a / 262144,128 + a / 4096 % 64,128 + a / 64 % 64,128 + a % 64]:=by unfold put8;rw [if_neg (by omega),if_neg (by omega),if_neg (by omega)]
theorem mtch_eq (b:List Int):mtch b=if okAll b=true then rowN (c0 b) else 0:=rfl
theorem hitB_iff (b:List Int) (k:Nat) (m:Int) (hm:mean (b.take k)=m):hitB b k=true ↔ (k≤b.length∧isSc m=true∧(put8 m).length=k∧(put8 m).isPrefixOf b=true):=by
 subst hm
 unfold hitB
 simp only [Bool.and_eq_true,decide_eq_true_eq,and_assoc]
theorem ok_j (b:List Int) (j:Nat) (x:Int) (hx:b[j]?=some x) (h:loJ (c0 b) j≤x∧x≤hiJ (c0 b) j):okAt b j=true:=okAt_of b j (by rw [hx];exact h)
theorem hit1 (x:Int) (l:List Int) (hx:0≤x∧x≤255):hitB (x :: l) 1=true ↔ mtch (x :: l)=1:=by
 have e:mtch (x :: l)=1 ↔ x≤127:=by
  have c:c0 (x :: l)=x:=rfl
  constructor
  ·intro h
   rw [mtch_eq,c] at h
   split at h
   ·unfold rowN at h;repeat' split at h
    all_goals omega
   ·omega
  ·intro h
   have r:rowN x=1:=by unfold rowN;rw [if_pos h]
   rw [mtch_yes (x :: l) 1 (fun j h1 h2=>by omega) (.inl (by rw [c,r];decide)),c,r]
 rw [e,hitB_iff _ _ x rfl]
 constructor
 ·rintro ⟨_,_,h,_⟩
  have:=put8_one x h
  omega
 ·intro h
  rw [put8_1 x (by omega),sc_iff]
  exact ⟨by simp,.inl ⟨hx.1,by omega⟩,rfl,by simp⟩
theorem hit2 (x y:Int) (l:List Int) (hb:∀ z ∈ x :: y :: l,0≤z∧z≤255):hitB (x :: y :: l) 2=true ↔ mtch (x :: y :: l)=2:=by
 have hx:=hb x (by simp)
 have hy:=hb y (by simp)
 have e:mtch (x :: y :: l)=2 ↔ 194≤x∧x≤223∧128≤y∧y≤191:=by
  have c:c0 (x :: y :: l)=x:=rfl
  constructor
  ·intro h
   rcases row_bytes (x :: y :: l) hb (by omega) (by rw [h];simp only [List.length_cons];omega) with ⟨a,e,h',_⟩ | ⟨a,b,e,h',r⟩ | ⟨a,b,d,e,h',_⟩ | ⟨a,b,d,f,e,h',_⟩
   ·omega
   ·rw [h] at e
    have e':[x,y]=[a,b]:=e
    cases e'
    omega
   ·omega
   ·omega
  ·intro h
   have r:rowN x=2:=by unfold rowN;repeat' split <;> omega
   rw [mtch_yes (x :: y :: l) 2 (fun j h1 h2=>?_) (.inl (by rw [c,r];decide)),c,r]
   obtain rfl:j=1:=by omega
   refine ok_j _ _ y rfl ?_
   unfold loJ hiJ rowLo rowHi
   rw [c,if_pos rfl,if_pos rfl]
   repeat' split
   all_goals omega
 rw [e,hitB_iff _ _ ((x - 192) * 64 + y - 128) rfl]
 constructor
 ·rintro ⟨_,_,h,hp⟩
  have:=put8_two _ h
  rw [put8_2 _ this.1 this.2] at hp
  simp at hp
  omega
 ·intro h
  rw [put8_2 _ (by omega) (by omega),sc_iff]
  refine ⟨by simp,.inl ⟨by omega,by omega⟩,rfl,?_⟩
  simp
  omega
theorem hit3 (x y z:Int) (l:List Int) (hb:∀ u ∈ x :: y :: z :: l,0≤u∧u≤255):hitB (x :: y :: z :: l) 3=true ↔ mtch (x :: y :: z :: l)=3:=by
 have hx:=hb x (by simp)
 have hy:=hb y (by simp)
 have hz:=hb z (by simp)
 have e:mtch (x :: y :: z :: l)=3 ↔ 224≤x∧x≤239∧128≤y∧y≤191∧(x=224→160≤y)∧(x=237→y≤159)∧128≤z∧z≤191:=by
  have c:c0 (x :: y :: z :: l)=x:=rfl
  constructor
  ·intro h
   rcases row_bytes (x :: y :: z :: l) hb (by omega) (by rw [h];simp only [List.length_cons];omega) with ⟨a,e,h',_⟩ | ⟨a,b,e,h',r⟩ | ⟨a,b,d,e,h',r1,r2,r3,r4,r5⟩ | ⟨a,b,d,f,e,h',_⟩
   ·omega
   ·omega
   ·rw [h] at e
    have e':[x,y,z]=[a,b,d]:=e
    cases e'
    unfold rowLo at r3;unfold rowHi at r4
    repeat' split at r3
    all_goals repeat' split at r4
    all_goals omega
   ·omega
  ·intro h
   have r:rowN x=3:=by unfold rowN;repeat' split <;> omega
   rw [mtch_yes (x :: y :: z :: l) 3 (fun j h1 h2=>?_) (.inl (by rw [c,r];decide)),c,r]
   have hj:j=1∨j=2:=by omega
   rcases hj with rfl | rfl
   ·refine ok_j _ _ y rfl ?_
    unfold loJ hiJ rowLo rowHi
    rw [c,if_pos rfl,if_pos rfl]
    repeat' split
    all_goals omega
   ·refine ok_j _ _ z rfl ?_
    unfold loJ hiJ
    rw [if_neg (by decide),if_neg (by decide)]
    omega
 rw [e,hitB_iff _ _ (((x - 224) * 64 + y - 128) * 64 + z - 128) rfl]
 constructor
 ·rintro ⟨_,hs,h,hp⟩
  have:=put8_three _ h
  rw [put8_3 _ this.1 this.2] at hp
  rw [sc_iff] at hs
  simp at hp
  omega
 ·intro h
  rw [put8_3 _ (by omega) (by omega),sc_iff]
  refine ⟨by simp,by omega,rfl,?_⟩
  simp
  omega
theorem hit4 (x y z u:Int) (l:List Int) (hb:∀ v ∈ x :: y :: z :: u :: l,0≤v∧v≤255):hitB (x :: y :: z :: u :: l) 4=true ↔ mtch (x :: y :: z :: u :: l)=4:=by
 have hx:=hb x (by simp)
 have hy:=hb y (by simp)
 have hz:=hb z (by simp)
 have hu:=hb u (by simp)
 have e:mtch (x :: y :: z :: u :: l)=4 ↔ 240≤x∧x≤244∧128≤y∧y≤191∧(x=240→144≤y)∧(x=244→y≤143)∧128≤z∧z≤191∧128≤u∧u≤191:=by
  have c:c0 (x :: y :: z :: u :: l)=x:=rfl
  constructor
  ·intro h
   rcases row_bytes (x :: y :: z :: u :: l) hb (by omega) (by rw [h];simp only [List.length_cons];omega) with ⟨a,e,h',_⟩ | ⟨a,b,e,h',r⟩ | ⟨a,b,d,e,h',r⟩ | ⟨a,b,d,f,e,h',r1,r2,r3,r4,r5⟩
   ·omega
   ·omega
   ·omega
   ·rw [h] at e
    have e':[x,y,z,u]=[a,b,d,f]:=e
    cases e'
    unfold rowLo at r3;unfold rowHi at r4
    repeat' split at r3
    all_goals repeat' split at r4
    all_goals omega
  ·intro h
   have r:rowN x=4:=by unfold rowN;repeat' split <;> omega
   rw [mtch_yes (x :: y :: z :: u :: l) 4 (fun j h1 h2=>?_) (.inl (by rw [c,r];decide)),c,r]
   have hj:j=1∨j=2∨j=3:=by omega
   rcases hj with rfl | rfl | rfl
   ·refine ok_j _ _ y rfl ?_
    unfold loJ hiJ rowLo rowHi
    rw [c,if_pos rfl,if_pos rfl]
    repeat' split
    all_goals omega
   ·refine ok_j _ _ z rfl ?_
    unfold loJ hiJ
    rw [if_neg (by decide),if_neg (by decide)]
    omega
   ·refine ok_j _ _ u rfl ?_
    unfold loJ hiJ
    rw [if_neg (by decide),if_neg (by decide)]
    omega
 rw [e,hitB_iff _ _ ((((x - 240) * 64 + y - 128) * 64 + z - 128) * 64 + u - 128) rfl]
 constructor
 ·rintro ⟨_,hs,h,hp⟩
  have:=put8_four _ h
  rw [put8_4 _ this] at hp
  rw [sc_iff] at hs
  simp at hp
  omega
 ·intro h
  rw [put8_4 _ (by omega),sc_iff]
  refine ⟨by simp,by omega,rfl,?_⟩
  simp
  omega
theorem hit_iff (b:List Int) (hb:∀ z ∈ b,0≤z∧z≤255) (k:Nat) (h1:1≤k) (h4:k≤4):hitB b k=true ↔ (mtch b=k∧k≤b.length):=by
 by_cases hl:k≤b.length
 ·have e:k=1∨k=2∨k=3∨k=4:=by omega
  simp only [hl,and_true]
  rcases e with rfl | rfl | rfl | rfl
  ·match b,hb,hl with
   | x :: l,hb,_=>exact hit1 x l (hb x (by simp))
  ·match b,hb,hl with
   | [_],_,hl=>simp at hl
   | x :: y :: l,hb,_=>exact hit2 x y l hb
  ·match b,hb,hl with
   | [_],_,hl=>simp at hl
   | [_,_],_,hl=>simp at hl
   | x :: y :: z :: l,hb,_=>exact hit3 x y z l hb
  ·match b,hb,hl with
   | [_],_,hl=>simp at hl
   | [_,_],_,hl=>simp at hl
   | [_,_,_],_,hl=>simp at hl
   | x :: y :: z :: u :: l,hb,_=>exact hit4 x y z u l hb
 ·constructor
  ·intro h;unfold hitB at h;rw [decide_eq_false hl] at h;simp at h
  ·rintro ⟨_,h⟩;exact absurd h hl
theorem mean_val (b:List Int) (hb:∀ z ∈ b,0≤z∧z≤255) (h0:0 < mtch b) (hl:mtch b≤b.length):mean (b.take (mtch b).toNat)=val (b.take (mtch b).toNat):=by
 rcases row_bytes b hb h0 hl with ⟨x,e,_⟩ | ⟨x,y,e,_⟩ | ⟨x,y,z,e,_⟩ | ⟨x,y,z,u,e,_⟩
 all_goals
  rw [e]
  simp only [mean,val]
  try omega
theorem first8_hit (b:List Int) (hb:∀ z ∈ b,0≤z∧z≤255) (k:Nat) (h1:1≤k) (h4:k≤4) (h:hitB b k=true):first8 b=(mean (b.take k),(k:Int)):=by
 obtain ⟨hm,hl⟩:=(hit_iff b hb k h1 h4).1 h
 have h0:0 < mtch b:=by omega
 have hl':mtch b≤b.length:=by omega
 have e:=mean_val b hb h0 hl'
 unfold first8
 rw [if_pos ⟨h0,hl'⟩,← e,hm]
 rfl
theorem first8_none (b:List Int) (hb:∀ z ∈ b,0≤z∧z≤255) (h:∀ k:Nat,1≤k→k≤4→k≤b.length→hitB b k=false):first8 b=(-1 - c0 b,1):=by
 have hbd:=mtch_bd b
 unfold first8
 rw [if_neg]
 rintro ⟨h0,hl⟩
 have:=h (mtch b).toNat (by omega) (by omega) (by omega)
 have h':=(hit_iff b hb (mtch b).toNat (by omega) (by omega)).2 ⟨by omega,by omega⟩
 rw [this] at h'
 cases h'
end Go.Proofs.YtgfdfajblidleaaGreat.Cx
