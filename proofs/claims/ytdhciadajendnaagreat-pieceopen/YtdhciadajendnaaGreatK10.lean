import Derived.Test.YtdhciadajendnaaGreatK00
import Derived.Test.YtdhciadajendnaaGreatRows
import Derived.WalkKit
import Derived.WalkSpells
import Derived.WalkLawsBesides
import Derived.StillTactics
import Derived.Deep.QuietTactic
import Derived.BigQuiet
import Derived.Outline
import Derived.Laws.BytesArg
import Derived.Lib.Strings
set_option maxRecDepth 100000
namespace Go.Proofs.YtdhciadajendnaaGreat.Cx
def isSc (a:Int):Bool:=(decide (0≤a) && decide (a < 55296)) || (decide (57343 < a) && decide (a≤1114111))
def fits (enc a:Int):Bool :=
 if enc=1 then isSc a || (decide (a≤-129) && decide (-256≤a))
 else if enc=2∨enc=3 then decide (-256≤a) && decide (a≤1114111)
 else if enc=4 then decide (0≤a) && decide (a≤255)
 else false
def put8 (a:Int):List Int :=
 if a < 128 then [a] else if a < 2048 then [192 + a / 64,128 + a % 64]
 else if a < 65536 then [224 + a / 4096,128 + a / 64 % 64,128 + a % 64]
 else [240 + a / 262144,128 + a / 4096 % 64,128 + a / 64 % 64,128 + a % 64]
def unit (enc u:Int):List Int:=if enc=2 then [u % 256,u / 256] else [u / 256,u % 256]
def put (enc a:Int):List Int :=
 if a < 0 then [-1 - a] else if enc=1 then put8 a else if enc=4 then [a]
 else if 65536≤a then unit enc (55296 + (a - 65536) / 1024) ++ unit enc (56320 + a % 1024)
 else unit enc a
def size (enc a:Int):Int:=if fits enc a=true then (put enc a).length else 0
def nsize (a:Int):Int :=
 if a < -256 then 0 else if a≤-129 then 1 else if a < 0 then 0 else if a < 128 then 1 else if a < 2048 then 2
 else if a < 55296 then 3 else if a≤57343 then 0 else if a < 65536 then 3 else if a≤1114111 then 4 else 0
def wsize (a:Int):Int :=
 if a < -256 then 0 else if a < 0 then 1 else if a < 65536 then 2 else if a≤1114111 then 4 else 0
def lsize (a:Int):Int:=if a < 0 then 0 else if a≤255 then 1 else 0
theorem size1 (a:Int):size 1 a=nsize a:=by
 unfold size nsize fits isSc put put8
 simp
 repeat' split
 all_goals first | omega | (simp;omega) | simp
theorem sizeW (enc a:Int) (h:enc=2∨enc=3):size enc a=wsize a:=by
 rcases h with rfl | rfl
 all_goals
  unfold size wsize fits put unit
  simp
  repeat' split
  all_goals first | omega | (simp;omega) | simp
theorem size4 (a:Int):size 4 a=lsize a:=by
 unfold size lsize fits put
 simp
 repeat' split
 all_goals first | omega | (simp;omega) | simp
end Go.Proofs.YtdhciadajendnaaGreat.Cx
namespace Go.Proofs.YtdhciadajendnaaGreat
open Go.RowKit
def Cx.cv (enc:Int):Value :=
 if enc=1 then .iface 151 (.agg #[]) else if enc=2 then .iface 153 (.agg #[.int .i64 0])
 else if enc=3 then .iface 153 (.agg #[.int .i64 1]) else if enc=4 then .iface 154 (.agg #[]) else .nilIface
def Cx.known (enc:Int):Bool:=decide (1≤enc) && decide (enc≤4)
theorem m_size1 (w : World) : (method 323 151 (.agg #[]) "copyist/codec.size").run Tryz.prog w = .ok (167, .agg #[]) w := by kernel_rfl
theorem m_size2 (k : Int) (w : World) : (method 323 153 (.agg #[.int .i64 k]) "copyist/codec.size").run Tryz.prog w = .ok (182, .agg #[.int .i64 k]) w := by kernel_rfl
theorem m_size4 (w : World) : (method 323 154 (.agg #[]) "copyist/codec.size").run Tryz.prog w = .ok (194, .agg #[]) w := by kernel_rfl
theorem ret_int {k:IntKind} {a b:Int} (h:a=b):Ending.returned (.int k a)=.returned (.int k b):=by rw [h]
theorem ret_bool {a b:Bool} (h:a=b):Ending.returned (.bool a)=.returned (.bool b):=by rw [h]
theorem coderOf_any (enc:Int) (w:World):Calls Tryz.prog 62 #[.int .i64 enc] w fun e w'=>e=.returned (.tuple #[Cx.cv enc,.bool (Cx.known enc)])∧w'=w:=by
 by_cases h1:enc=1
 ·subst h1;go_enter Tryz.func62,Tryz.ntmps62;go_wp2;go_ret2;exact ⟨rfl,rfl⟩
 by_cases h2:enc=2
 ·subst h2;go_enter Tryz.func62,Tryz.ntmps62;go_wp2;go_ret2;exact ⟨rfl,rfl⟩
 by_cases h3:enc=3
 ·subst h3;go_enter Tryz.func62,Tryz.ntmps62;go_wp2;go_ret2;exact ⟨rfl,rfl⟩
 by_cases h4:enc=4
 ·subst h4;go_enter Tryz.func62,Tryz.ntmps62;go_wp2;go_ret2;exact ⟨rfl,rfl⟩
 ·have e1:Cx.cv enc=.nilIface:=by simp [Cx.cv,h1,h2,h3,h4]
  have e2:Cx.known enc=false:=by simp [Cx.known];omega
  rw [e1,e2]
  have b1:(enc == 1)=false:=by simp [h1]
  have b2:(enc == 2)=false:=by simp [h2]
  have b3:(enc == 3)=false:=by simp [h3]
  have b4:(enc == 4)=false:=by simp [h4]
  clear h1 h2 h3 h4 e1 e2
  go_enter Tryz.func62,Tryz.ntmps62
  go_wp2
  go_ret2
  exact ⟨rfl,rfl⟩
theorem coderOf_1 (w:World):Calls Tryz.prog 62 #[.int .i64 1] w fun e w'=>e=.returned (.tuple #[.iface 151 (.agg #[]),.bool true])∧w'=w:=coderOf_any 1 w
theorem coderOf_2 (w:World):Calls Tryz.prog 62 #[.int .i64 2] w fun e w'=>e=.returned (.tuple #[.iface 153 (.agg #[.int .i64 0]),.bool true])∧w'=w:=coderOf_any 2 w
theorem coderOf_3 (w:World):Calls Tryz.prog 62 #[.int .i64 3] w fun e w'=>e=.returned (.tuple #[.iface 153 (.agg #[.int .i64 1]),.bool true])∧w'=w:=coderOf_any 3 w
theorem coderOf_4 (w:World):Calls Tryz.prog 62 #[.int .i64 4] w fun e w'=>e=.returned (.tuple #[.iface 154 (.agg #[]),.bool true])∧w'=w:=coderOf_any 4 w
theorem coderOf_no (enc:Int) (h1:enc≠1) (h2:enc≠2) (h3:enc≠3) (h4:enc≠4) (w:World):Calls Tryz.prog 62 #[.int .i64 enc] w fun e w'=>e=.returned (.tuple #[.nilIface,.bool false])∧w'=w:=by
 have e1:Cx.cv enc=.nilIface:=by simp [Cx.cv,h1,h2,h3,h4]
 have e2:Cx.known enc=false:=by simp [Cx.known];omega
 have:=coderOf_any enc w
 rwa [e1,e2] at this
set_option maxHeartbeats 1000000 in
theorem nsize_any (a:Int) (w:World):Calls Tryz.prog 167 #[.agg #[],.int .i64 a] w fun e w'=>e=.returned (.int .i64 (Cx.nsize a))∧Below w.heap.size w w':=by
 rcases (show a < -256∨(-256≤a∧a≤-129)∨(-128≤a∧a≤-1)∨(0≤a∧a < 128)∨(128≤a∧a < 2048)∨(2048≤a∧a < 55296)∨(55296≤a∧a≤57343)∨(57344≤a∧a < 65536)∨(65536≤a∧a≤1114111)∨1114111 < a from by omega) with h | ⟨h,h'⟩ | ⟨h,h'⟩ | ⟨h,h'⟩ | ⟨h,h'⟩ | ⟨h,h'⟩ | ⟨h,h'⟩ | ⟨h,h'⟩ | ⟨h,h'⟩ | h
 all_goals
  go_enter Tryz.func167,Tryz.ntmps167
  go_wp2
  go_ret
  refine ⟨ret_int ?_,(Below.refl _ _).alloc (Nat.le_refl _) _⟩
  unfold Cx.nsize
  repeat' split
  all_goals omega
set_option maxHeartbeats 1000000 in
theorem wsize_any (k a:Int) (w:World):Calls Tryz.prog 182 #[.agg #[.int .i64 k],.int .i64 a] w fun e w'=>e=.returned (.int .i64 (Cx.wsize a))∧Below w.heap.size w w':=by
 rcases (show a < -256∨(-256≤a∧a≤-1)∨(0≤a∧a < 55296)∨(55296≤a∧a≤57343)∨(57344≤a∧a < 65536)∨(65536≤a∧a≤1114111)∨1114111 < a from by omega) with h | ⟨h,h'⟩ | ⟨h,h'⟩ | ⟨h,h'⟩ | ⟨h,h'⟩ | ⟨h,h'⟩ | h
 all_goals
  first | have hd:decide (a≤57343)=false:=by simp;omega
        | skip
  go_enter Tryz.func182,Tryz.ntmps182
  go_wp2
  go_ret
  refine ⟨ret_int ?_,(Below.refl _ _).alloc (Nat.le_refl _) _⟩
  unfold Cx.wsize
  repeat' split
  all_goals omega
theorem lsize_any (a:Int) (w:World):Calls Tryz.prog 194 #[.agg #[],.int .i64 a] w fun e w'=>e=.returned (.int .i64 (Cx.lsize a))∧Below w.heap.size w w':=by
 rcases (show a < 0∨(0≤a∧a≤255)∨255 < a from by omega) with h | ⟨h,h'⟩ | h
 all_goals
  go_enter Tryz.func194,Tryz.ntmps194
  go_wp2
  go_ret
  refine ⟨ret_int ?_,(Below.refl _ _).alloc (Nat.le_refl _) _⟩
  unfold Cx.lsize
  repeat' split
  all_goals omega
theorem Cx.size_other (enc a:Int) (h1:enc≠1) (h2:enc≠2) (h3:enc≠3) (h4:enc≠4):Cx.size enc a=0:=by
 simp [Cx.size,Cx.fits,h1,h2,h3,h4]
theorem Size_any (enc a:Int) (w:World):Calls Tryz.prog 75 #[.int .i64 enc,.int .i64 a] w fun e w'=>e=.returned (.int .i64 (Cx.size enc a))∧Below w.heap.size w w':=by
 by_cases h1:enc=1
 ·subst h1
  rw [Cx.size1]
  have hm:=m_size1
  go_enter Tryz.func75,Tryz.ntmps75
  go_wp2_with (first | (go_at_call 62;refine (coderOf_1 _).mono ?_;rintro e w' ⟨rfl,rfl⟩) | (go_at_call 167;refine (nsize_any _ _).mono ?_;rintro e w' ⟨rfl,hb⟩))
  go_ret
  exact ⟨rfl,by assumption⟩
 by_cases h2:enc=2
 ·subst h2
  rw [Cx.sizeW _ _ (by decide)]
  have hm:=m_size2
  go_enter Tryz.func75,Tryz.ntmps75
  go_wp2_with (first | (go_at_call 62;refine (coderOf_2 _).mono ?_;rintro e w' ⟨rfl,rfl⟩) | (go_at_call 182;refine (wsize_any _ _ _).mono ?_;rintro e w' ⟨rfl,hb⟩))
  go_ret
  exact ⟨rfl,by assumption⟩
 by_cases h3:enc=3
 ·subst h3
  rw [Cx.sizeW _ _ (by decide)]
  have hm:=m_size2
  go_enter Tryz.func75,Tryz.ntmps75
  go_wp2_with (first | (go_at_call 62;refine (coderOf_3 _).mono ?_;rintro e w' ⟨rfl,rfl⟩) | (go_at_call 182;refine (wsize_any _ _ _).mono ?_;rintro e w' ⟨rfl,hb⟩))
  go_ret
  exact ⟨rfl,by assumption⟩
 by_cases h4:enc=4
 ·subst h4
  rw [Cx.size4]
  have hm:=m_size4
  go_enter Tryz.func75,Tryz.ntmps75
  go_wp2_with (first | (go_at_call 62;refine (coderOf_4 _).mono ?_;rintro e w' ⟨rfl,rfl⟩) | (go_at_call 194;refine (lsize_any _ _).mono ?_;rintro e w' ⟨rfl,hb⟩))
  go_ret
  exact ⟨rfl,by assumption⟩
 ·rw [Cx.size_other _ _ h1 h2 h3 h4]
  go_enter Tryz.func75,Tryz.ntmps75
  go_wp2_with (go_at_call 62;refine (coderOf_no _ h1 h2 h3 h4 _).mono ?_;rintro e w' ⟨rfl,rfl⟩)
  go_ret
  exact ⟨rfl,Below.refl _ _⟩
open Go.RowKit
theorem Scalar_any (a:Int) (w:World):Calls Tryz.prog 131 #[.int .i64 a] w fun e w'=>e=.returned (.bool (Cx.isSc a))∧w'=w:=by
 rcases (show a < 0∨(0≤a∧a < 55296)∨(55296≤a∧a≤57343)∨(57344≤a∧a≤1114111)∨1114111 < a from by omega) with h | ⟨h,h'⟩ | ⟨h,h'⟩ | ⟨h,h'⟩ | h
 all_goals
  go_enter Tryz.func131,Tryz.ntmps131
  go_wp2
  all_goals
   go_ret
   refine ⟨ret_bool ?_,rfl⟩
   first | (simp [Cx.isSc];done) | (rw [Bool.eq_iff_iff];simp [Cx.isSc];omega)
def Cx.Lit (w w':World) (v:Value) (bs:List Int):Prop :=
 ∃ g,v=.slice (some ⟨g,0,none⟩) bs.length bs.length∧w.heap.size≤g∧w'.heap[g]?=some (.cells (bs.map (Value.int .u8)).toArray 5 (0,0))∧Below w.heap.size w w'
theorem Cx.lit_new (w:World) (bs:List Int):Cx.Lit w (w.alloc (.cells (bs.map (Value.int .u8)).toArray 5)) (.slice (some ⟨w.heap.size,0,none⟩) bs.length bs.length) bs :=
 ⟨w.heap.size,rfl,Nat.le_refl _,heap_alloc_new w _,(Below.refl _ _).alloc (Nat.le_refl _) _⟩
theorem eight_any (a:Int) (w:World) (h0:0≤a) (hx:a≤1114111):Calls Tryz.prog 108 #[.int .i64 a] w fun e w'=>∃ v,e=.returned v∧Cx.Lit w w' v (Cx.put8 a):=by
 rcases (show a < 128∨(128≤a∧a < 2048)∨(2048≤a∧a < 65536)∨65536≤a from by omega) with h | ⟨h,h'⟩ | ⟨h,h'⟩ | h
 ·have e1:Cx.put8 a=[a]:=by unfold Cx.put8;rw [if_pos h]
  go_enter Tryz.func108,Tryz.ntmps108
  go_wp2
  go_ret
  exact ⟨_,rfl,by rw [e1];exact Cx.lit_new w [a]⟩
 ·have e1:Cx.put8 a=[192 + a / 64,128 + a % 64]:=by unfold Cx.put8;rw [if_neg (by omega),if_pos h']
  go_enter Tryz.func108,Tryz.ntmps108
  go_wp2
  go_ret
  exact ⟨_,rfl,by rw [e1];exact Cx.lit_new w [192 + a / 64,128 + a % 64]⟩
 ·have e1:Cx.put8 a=[224 + a / 4096,128 + a / 64 % 64,128 + a % 64]:=by unfold Cx.put8;rw [if_neg (by omega),if_neg (by omega),if_pos h']
  go_enter Tryz.func108,Tryz.ntmps108
  go_wp2
  go_ret
  exact ⟨_,rfl,by rw [e1];exact Cx.lit_new w [224 + a / 4096,128 + a / 64 % 64,128 + a % 64]⟩
 ·have e1:Cx.put8 a=[240 + a / 262144,128 + a / 4096 % 64,128 + a / 64 % 64,128 + a % 64]:=by unfold Cx.put8;rw [if_neg (by omega),if_neg (by omega),if_neg (by omega)]
  go_enter Tryz.func108,Tryz.ntmps108
  go_wp2
  go_ret
  exact ⟨_,rfl,by rw [e1];exact Cx.lit_new w [240 + a / 262144,128 + a / 4096 % 64,128 + a / 64 % 64,128 + a % 64]⟩
theorem Cx.Lit.head {w w':World} {v:Value} {bs:List Int} (h:Cx.Lit w w' v bs):∃ g,v=.slice (some ⟨g,0,none⟩) bs.length bs.length∧w.heap.size≤g∧(∀ i,i < bs.length→w'.cell? ⟨g,i,none⟩=some (.int .u8 (bs.getD i 0)))∧Below w.heap.size w w':=by
 obtain ⟨g,hv,hg,hh,hb⟩:=h
 refine ⟨g,hv,hg,fun i hi=>?_,hb⟩
 rw [cell_of_row w' g i _ _ _ hh]
 simp [List.getD,hi]
theorem Cx.put_len (enc a:Int):1≤(Cx.put enc a).length∧(Cx.put enc a).length≤4:=by
 unfold Cx.put Cx.put8 Cx.unit
 repeat' split
 all_goals simp
def Cx.u0 (enc u:Int):Int:=if enc=2 then u % 256 else u / 256
def Cx.u1 (enc u:Int):Int:=if enc=2 then u / 256 else u % 256
theorem Cx.unit_eq (enc u:Int):Cx.unit enc u=[Cx.u0 enc u,Cx.u1 enc u]:=by unfold Cx.unit Cx.u0 Cx.u1;split <;> rfl
open Go.RowKit
theorem rFits_any (enc a:Int) (w:World):Calls Tryz.prog 104 #[.int .i64 enc,.int .i64 a] w fun e w'=>e=.returned (.bool (Cx.fits enc a))∧w'=w:=by
 by_cases h1:enc=1
 ·subst h1
  rcases (show a < -256∨(-256≤a∧a≤-129)∨(-128≤a∧a < 0)∨(0≤a∧a < 55296)∨(55296≤a∧a≤57343)∨(57344≤a∧a≤1114111)∨1114111 < a from by omega) with h | ⟨h,h'⟩ | ⟨h,h'⟩ | ⟨h,h'⟩ | ⟨h,h'⟩ | ⟨h,h'⟩ | h
  all_goals
   go_enter Tryz.func104,Tryz.ntmps104
   go_wp2
   all_goals
    go_ret
    refine ⟨ret_bool ?_,rfl⟩
    first | (simp [Cx.fits,Cx.isSc];done) | (rw [Bool.eq_iff_iff];simp [Cx.fits,Cx.isSc];omega)
 by_cases h2:enc=2∨enc=3
 ·rcases h2 with rfl | rfl
  all_goals
   go_enter Tryz.func104,Tryz.ntmps104
   go_wp2
   all_goals
    go_ret
    refine ⟨ret_bool ?_,rfl⟩
    first | (simp [Cx.fits];done) | (rw [Bool.eq_iff_iff];simp [Cx.fits];omega)
 by_cases h4:enc=4
 ·subst h4
  go_enter Tryz.func104,Tryz.ntmps104
  go_wp2
  all_goals
   go_ret
   refine ⟨ret_bool ?_,rfl⟩
   first | (simp [Cx.fits];done) | (rw [Bool.eq_iff_iff];simp [Cx.fits];omega)
 ·have b1:(enc == 1)=false:=by simp [h1]
  have b2:(enc == 2)=false:=by simp;omega
  have b3:(enc == 3)=false:=by simp;omega
  have b4:(enc == 4)=false:=by simp [h4]
  have hf:Hid (Cx.fits enc a=false):=by simp [Hid,Cx.fits,h1,h2,h4]
  clear h1 h2 h4
  go_enter Tryz.func104,Tryz.ntmps104
  go_wp2
  go_ret
  exact ⟨ret_bool hf.out.symm,rfl⟩
theorem unit_any (enc u:Int) (w:World) (h0:0≤u) (hx:u≤65535):Calls Tryz.prog 109 #[.int .i64 enc,.int .i64 u] w fun e w'=>∃ v,e=.returned v∧Cx.Lit w w' v (Cx.unit enc u):=by
 by_cases h:enc=2
 ·subst h
  go_enter Tryz.func109,Tryz.ntmps109
  go_wp2
  go_ret
  exact ⟨_,rfl,Cx.lit_new w [u % 256,u / 256]⟩
 ·have b:(enc == 2)=false:=by simp [h]
  have e1:Cx.unit enc u=[u / 256,u % 256]:=by unfold Cx.unit;rw [if_neg h]
  clear h
  go_enter Tryz.func109,Tryz.ntmps109
  go_wp2
  go_ret
  exact ⟨_,rfl,by rw [e1];exact Cx.lit_new w [u / 256,u % 256]⟩
theorem unit2_any (enc u:Int) (w:World) (h0:0≤u) (hx:u≤65535):Calls Tryz.prog 109 #[.int .i64 enc,.int .i64 u] w fun e w'=>∃ g,e=.returned (.slice (some ⟨g,0,none⟩) 2 2)∧w.heap.size≤g∧g < w'.heap.size ∧
  w'.cell? ⟨g,0,none⟩=some (.int .u8 (Cx.u0 enc u))∧w'.cell? ⟨g,1,none⟩=some (.int .u8 (Cx.u1 enc u))∧Below w.heap.size w w':=by
 refine (unit_any enc u w h0 hx).mono ?_
 rintro e w' ⟨v,rfl,hv⟩
 rw [Cx.unit_eq] at hv
 obtain ⟨g,rfl,hg,hc,hb⟩:=hv.head
 have h1:=hc 0 (by simp)
 have h2:=hc 1 (by simp)
 simp at h1 h2
 exact ⟨g,rfl,hg,World.block_lt_of_cell? w' _ h1,h1,h2,hb⟩
theorem Put_any (enc a:Int) (w:World) (h0:-256≤a) (hx:a≤1114111) (h4:enc=4→a≤255):Calls Tryz.prog 72 #[.int .i64 enc,.int .i64 a] w fun e w'=>∃ v,e=.returned v∧Cx.Lit w w' v (Cx.put enc a):=by
 by_cases hn:a < 0
 ·have e1:Cx.put enc a=[-1 - a]:=by unfold Cx.put;rw [if_pos hn]
  clear h4
  go_enter Tryz.func72,Tryz.ntmps72
  go_wp2
  go_ret
  exact ⟨_,rfl,by rw [e1];exact Cx.lit_new w [-1 - a]⟩
 by_cases h1:enc=1
 ·subst h1
  have e1:Cx.put 1 a=Cx.put8 a:=by unfold Cx.put;rw [if_neg hn,if_pos rfl]
  have HE:Hid (Cx.put 1 a=Cx.put8 a):=e1
  clear h4 e1
  go_enter Tryz.func72,Tryz.ntmps72
  go_wp2_with (go_at_call 108;refine (eight_any _ _ (by omega) (by omega)).mono ?_;rintro e w' ⟨v,rfl,hv⟩)
  go_ret
  exact ⟨_,rfl,by rw [HE.out];assumption⟩
 by_cases h4':enc=4
 ·subst h4'
  have h4:=h4 rfl
  have HE:Hid (Cx.put 4 a=[a]):=by unfold Hid Cx.put;rw [if_neg hn];rfl
  go_enter Tryz.func72,Tryz.ntmps72
  go_wp2
  go_ret
  exact ⟨_,rfl,by rw [HE.out];exact Cx.lit_new w [a]⟩
 have b1:(enc == 1)=false:=by simp [h1]
 have b4:(enc == 4)=false:=by simp [h4']
 by_cases hb:65536≤a
 ·have HE:Hid (Cx.put enc a=Cx.unit enc (55296 + (a - 65536) / 1024) ++ Cx.unit enc (56320 + a % 1024)):=by unfold Hid Cx.put;rw [if_neg hn,if_neg h1,if_neg h4',if_pos hb]
  clear h4 h1 h4'
  go_enter Tryz.func72,Tryz.ntmps72
  go_wp2_with fail
  refine (unit2_any _ _ _ (by omega) (by omega)).mono ?_
  rintro e w1 ⟨g,rfl,hg,hgl,c0,c1,hb1⟩
  go_wp2_with fail
  refine (unit2_any _ _ _ (by omega) (by omega)).mono ?_
  rintro e w2 ⟨g2,rfl,hg2,hgl2,d0,d1,hb2⟩
  have e0:w2.cell? ⟨g,0,none⟩=some (.int .u8 (Cx.u0 enc (55296 + (a - 65536) / 1024))):=(hb2.cell (p:=⟨g,0,none⟩) hgl).trans c0
  have e1:w2.cell? ⟨g,1,none⟩=some (.int .u8 (Cx.u1 enc (55296 + (a - 65536) / 1024))):=(hb2.cell (p:=⟨g,1,none⟩) hgl).trans c1
  have hz:w.heap.size≤w2.heap.size:=by omega
  have HB:Hid (Below w.heap.size w w2):=hb1.trans (hb2.mono hb1.size)
  clear c0 c1 hb1 hb2
  go_wp2
  go_region
  all_goals (try go_wp2)
  all_goals
   go_ret
   refine ⟨_,rfl,?_⟩
   rw [HE.out,Cx.unit_eq,Cx.unit_eq]
   exact ⟨w2.heap.size,rfl,hz,heap_alloc_new w2 _,(HB.out.alloc hz _).drew⟩
 ·have HE:Hid (Cx.put enc a=Cx.unit enc a):=by unfold Hid Cx.put;rw [if_neg hn,if_neg h1,if_neg h4',if_neg hb]
  clear h4 h1 h4'
  go_enter Tryz.func72,Tryz.ntmps72
  go_wp2_with (go_at_call 109;refine (unit_any _ _ _ (by omega) (by omega)).mono ?_;rintro e w' ⟨v,rfl,hv⟩)
  go_ret
  exact ⟨_,rfl,by rw [HE.out];assumption⟩
theorem rSize_any (enc a:Int) (w:World):Calls Tryz.prog 69 #[.int .i64 enc,.int .i64 a] w fun e w'=>e=.returned (.int .i64 (Cx.size enc a))∧Below w.heap.size w w':=by
 by_cases hf:Cx.fits enc a=true
 ·have HE:Hid (Cx.size enc a=((Cx.put enc a).length:Int)):=by unfold Hid Cx.size;rw [if_pos hf]
  have g0:-256≤a∧a≤1114111∧(enc=4→a≤255):=by
   unfold Cx.fits Cx.isSc at hf
   repeat' split at hf
   all_goals simp at hf
   all_goals omega
  obtain ⟨g0,g1,g2⟩:=g0
  have hl:=Cx.put_len enc a
  generalize hn:(Cx.put enc a).length=n at *
  have HN:Hid ((Cx.put enc a).length=n):=hn
  clear hn
  go_enter Tryz.func69,Tryz.ntmps69
  go_wp2_with (first | (go_at_call 104;refine (rFits_any _ _ _).mono ?_;rintro e w' ⟨rfl,rfl⟩) | (go_at_call 72;refine (Put_any _ _ _ g0 g1 g2).mono ?_;rintro e w' ⟨v,rfl,g,rfl,hg,hh,hb⟩;rw [HN.out]))
  go_ret
  exact ⟨ret_int HE.out.symm,by assumption⟩
 ·have hf:Cx.fits enc a=false:=by simpa using hf
  have HE:Hid (Cx.size enc a=0):=by unfold Hid Cx.size;rw [hf];rfl
  go_enter Tryz.func69,Tryz.ntmps69
  go_wp2_with (go_at_call 104;refine (rFits_any _ _ _).mono ?_;rintro e w' ⟨rfl,rfl⟩)
  go_ret
  exact ⟨ret_int HE.out.symm,Below.refl _ _⟩
end Go.Proofs.YtdhciadajendnaaGreat
namespace Go.Proofs.YtdhciadajendnaaGreat.Cx
def rowN (c:Int):Int:=if c≤127 then 1 else if c < 194 then 0 else if c≤223 then 2 else if c≤239 then 3 else if c≤244 then 4 else 0
def rowLo (c:Int):Int:=if c < 194 then 0 else if c=224 then 160 else if c=240 then 144 else if c≤244 then 128 else 0
def rowHi (c:Int):Int:=if c < 194 then 0 else if c=237 then 159 else if c=244 then 143 else if c≤244 then 191 else 0
def loJ (c:Int) (k:Nat):Int:=if k=1 then rowLo c else 128
def hiJ (c:Int) (k:Nat):Int:=if k=1 then rowHi c else 191
def c0 (b:List Int):Int:=b[0]?.getD 0
def okAt (b:List Int) (j:Nat):Bool:=decide (b.length≤j) || (decide (loJ (c0 b) j≤b[j]?.getD 0) && decide (b[j]?.getD 0≤hiJ (c0 b) j))
def okAll (b:List Int):Bool :=
 (decide (rowN (c0 b) < 2) || okAt b 1) && (decide (rowN (c0 b) < 3) || okAt b 2) && (decide (rowN (c0 b) < 4) || okAt b 3)
def mtch (b:List Int):Int:=if okAll b=true then rowN (c0 b) else 0
theorem rowN_bd (c:Int):0≤rowN c∧rowN c≤4:=by unfold rowN;repeat' split <;> omega
theorem mtch_yes (b:List Int) (k:Nat) (hn:∀ j,1≤j→j < k→okAt b j=true) (he:rowN (c0 b)≤k∨b.length≤k):mtch b=rowN (c0 b):=by
 have hb:=rowN_bd (c0 b)
 have ok:∀ j:Nat,1≤j→(j:Int) < rowN (c0 b)→okAt b j=true:=by
  intro j hj hr
  by_cases hjk:j < k
  ·exact hn j hj hjk
  ·rcases he with he | he
   ·omega
   ·unfold okAt;rw [decide_eq_true (show b.length≤j by omega),Bool.true_or]
 unfold mtch
 rw [if_pos]
 unfold okAll
 have q:∀ j:Nat,1≤j→∀ m:Int,m=(j:Int) + 1→(decide (rowN (c0 b) < m) || okAt b j)=true:=by
  intro j hj m hm
  by_cases h:rowN (c0 b) < m
  ·rw [decide_eq_true h,Bool.true_or]
  ·rw [ok j hj (by omega),Bool.or_true]
 rw [q 1 (by omega) 2 rfl,q 2 (by omega) 3 rfl,q 3 (by omega) 4 rfl];rfl
theorem mtch_no (b:List Int) (k:Nat) (h1:1≤k) (hr:(k:Int) < rowN (c0 b)) (hl:k < b.length) (hx:¬ (loJ (c0 b) k≤b[k]?.getD 0∧b[k]?.getD 0≤hiJ (c0 b) k)):mtch b=0:=by
 have hb:=rowN_bd (c0 b)
 have ho:okAt b k=false:=by
  unfold okAt
  rw [decide_eq_false (show ¬ b.length≤k by omega),Bool.false_or]
  simp only [Bool.and_eq_false_iff,decide_eq_false_iff_not]
  rcases Classical.em (loJ (c0 b) k≤b[k]?.getD 0) with h | h
  ·exact .inr fun h'=>hx ⟨h,h'⟩
  ·exact .inl h
 unfold mtch
 rw [if_neg]
 intro h
 unfold okAll at h
 simp only [Bool.and_eq_true,Bool.or_eq_true,decide_eq_true_eq] at h
 obtain ⟨⟨h2,h3⟩,h4⟩:=h
 have e:k=1∨k=2∨k=3:=by omega
 rcases e with rfl | rfl | rfl
 ·rcases h2 with h | h
  ·omega
  ·rw [h] at ho;cases ho
 ·rcases h3 with h | h
  ·omega
  ·rw [h] at ho;cases ho
 ·rcases h4 with h | h
  ·omega
  ·rw [h] at ho;cases ho
theorem okAt_of (b:List Int) (k:Nat) (h:loJ (c0 b) k≤b[k]?.getD 0∧b[k]?.getD 0≤hiJ (c0 b) k):okAt b k=true:=by
 unfold okAt
 rw [decide_eq_true h.1,decide_eq_true h.2];simp
theorem mtch_bd (b:List Int):0≤mtch b∧mtch b≤4:=by
 have:=rowN_bd (c0 b)
 unfold mtch;split <;> omega
def val:List Int→Int
 | [a]=>a
 | [a,b]=>(a - 192) * 64 + (b - 128)
 | [a,b,c]=>((a - 224) * 64 + (b - 128)) * 64 + (c - 128)
 | [a,b,c,d]=>(((a - 240) * 64 + (b - 128)) * 64 + (c - 128)) * 64 + (d - 128)
 | _=>0
def first8 (b:List Int):Int × Int:=if 0 < mtch b∧mtch b≤b.length then (val (b.take (mtch b).toNat),mtch b) else (-1 - c0 b,1)
theorem row_bytes (b:List Int) (hb:∀ z ∈ b,0≤z∧z≤255) (h0:0 < mtch b) (hl:mtch b≤b.length) :
  (∃ x,b.take (mtch b).toNat=[x]∧mtch b=1∧0≤x∧x≤127) ∨
  (∃ x y,b.take (mtch b).toNat=[x,y]∧mtch b=2∧194≤x∧x≤223∧128≤y∧y≤191) ∨
  (∃ x y z,b.take (mtch b).toNat=[x,y,z]∧mtch b=3∧224≤x∧x≤239∧rowLo x≤y∧y≤rowHi x∧128≤z∧z≤191) ∨
  (∃ x y z u,b.take (mtch b).toNat=[x,y,z,u]∧mtch b=4∧240≤x∧x≤244∧rowLo x≤y∧y≤rowHi x∧128≤z∧z≤191∧128≤u∧u≤191):=by
 have hm:okAll b=true∧mtch b=rowN (c0 b):=by
  unfold mtch at h0 ⊢
  split at h0
  ·rename_i h;exact ⟨h,by rw [if_pos h]⟩
  ·omega
 obtain ⟨hok,he⟩:=hm
 rw [he] at h0 hl ⊢
 unfold okAll at hok
 simp only [Bool.and_eq_true,Bool.or_eq_true,decide_eq_true_eq] at hok
 obtain ⟨⟨h2,h3⟩,h4⟩:=hok
 match b,hb,hl,h0,h2,h3,h4 with
 | [],_,hl,h0,_,_,_=>simp only [List.length_nil] at hl;omega
 | [x],hb,hl,h0,h2,h3,h4 =>
   have hx:=hb x (by simp)
   simp only [c0,List.getElem?_cons_zero,Option.getD_some,List.length_cons,List.length_nil] at *
   have e1:rowN x=1:=by omega
   refine .inl ⟨x,by rw [e1];rfl,e1,hx.1,?_⟩
   unfold rowN at e1;repeat' split at e1
   all_goals omega
 | x :: y :: l,hb,hl,h0,h2,h3,h4 =>
   have hx:=hb x (by simp)
   have hy:=hb y (by simp)
   simp only [c0,List.getElem?_cons_zero,Option.getD_some,List.length_cons] at *
   have hcase:(rowN x=1∧x≤127)∨(rowN x=2∧194≤x∧x≤223)∨(rowN x=3∧224≤x∧x≤239)∨(rowN x=4∧240≤x∧x≤244):=by
    unfold rowN at h0 ⊢;repeat' split at h0
    all_goals first | omega | (simp [*];omega)
   have k1:2≤rowN x→rowLo x≤y∧y≤rowHi x:=by
    intro h
    rcases h2 with h2 | h2
    ·omega
    ·simpa [okAt,c0,loJ,hiJ] using h2
   rcases hcase with ⟨e,r⟩ | ⟨e,r⟩ | ⟨e,r⟩ | ⟨e,r⟩
   ·exact .inl ⟨x,by rw [e];rfl,e,hx.1,r⟩
   ·refine .inr (.inl ⟨x,y,by rw [e];rfl,e,r.1,r.2,?_⟩)
    have:=k1 (by omega)
    unfold rowLo rowHi at this
    repeat' split at this
    all_goals omega
   ·match l,hb,hl,h3 with
    | [],_,hl,_=>simp at hl;omega
    | z :: l,hb,hl,h3 =>
      have k2:128≤z∧z≤191:=by
       rcases h3 with h3 | h3
       ·omega
       ·simpa [okAt,loJ,hiJ] using h3
      exact .inr (.inr (.inl ⟨x,y,z,by rw [e];rfl,e,r.1,r.2,(k1 (by omega)).1,(k1 (by omega)).2,k2.1,k2.2⟩))
   ·match l,hb,hl,h3,h4 with
    | [],_,hl,_,_=>simp at hl;omega
    | [z],_,hl,_,_=>simp at hl;omega
    | z :: u :: l,hb,hl,h3,h4 =>
      have k2:128≤z∧z≤191:=by
       rcases h3 with h3 | h3
       ·omega
       ·simpa [okAt,loJ,hiJ] using h3
      have k3:128≤u∧u≤191:=by
       rcases h4 with h4 | h4
       ·omega
       ·simpa [okAt,loJ,hiJ] using h4
      exact .inr (.inr (.inr ⟨x,y,z,u,by rw [e];rfl,e,r.1,r.2,(k1 (by omega)).1,(k1 (by omega)).2,k2.1,k2.2,k3.1,k3.2⟩))
end Go.Proofs.YtdhciadajendnaaGreat.Cx
namespace Go.Proofs.YtdhciadajendnaaGreat
open Go.RowKit
theorem Tryz.info_u8:(Tryz.prog.info? 5).map (fun i=>(i.zero,i.size,i.bytes))=some (some (.int .u8 0),1,1):=by kernel_rfl
theorem Tryz.info_i64:(Tryz.prog.info? 3).map (fun i=>(i.zero,i.size,i.bytes))=some (some (.int .i64 0),1,8):=by kernel_rfl
def Rd (k:IntKind) (w:World) (v:Value) (zs:List Int):Prop :=
 ∃ ao cap,v=.slice ao zs.length cap∧zs.length≤cap∧cap≤maxLen ∧
   (zs≠[]→∃ b off,ao=some ⟨b,off,none⟩∧b < w.heap.size∧∀ i,i < zs.length→w.cell? ⟨b,off + i,none⟩=some (.int k (zs[i]?.getD 0)))
theorem Rd.ext {k:IntKind} {w w':World} {v:Value} {zs:List Int} (h:Rd k w v zs) (hb:Below w.heap.size w w'):Rd k w' v zs:=by
 obtain ⟨ao,cap,hv,h1,h2,h3⟩:=h
 refine ⟨ao,cap,hv,h1,h2,fun hn=>?_⟩
 obtain ⟨b,off,ha,hlt,hc⟩:=h3 hn
 exact ⟨b,off,ha,Nat.lt_of_lt_of_le hlt hb.size,fun i hi=>(hb.cell (p:=⟨b,off + i,none⟩) hlt).trans (hc i hi)⟩
theorem Rd.of_own {k:IntKind} {w:World} {base:Nat} {e:TypeId} {v:Value} {n:Nat} {zs:List Int} (h:w.ownsRow base e 1 v n (zs.map (Value.int k))):Rd k w v zs:=by
 obtain ⟨h1,h2⟩:=h
 simp at h1
 subst h1
 rcases h2 with ⟨rfl,hn⟩ | ⟨g,cap,cur,rfl,hb,hg,hn,hc,hs,ht⟩
 ·exact ⟨none,0,by rw [hn],by omega,by simp [maxLen],fun h=>absurd (List.length_eq_zero_iff.1 hn) h⟩
 ·refine ⟨_,cap,rfl,hn,hc,fun _=>⟨g,0,rfl,(Array.getElem?_eq_some_iff.1 hg).1,fun i hi=>?_⟩⟩
  rw [cell_of_row w g (0 + i) cur e (0,0) hg]
  simp only [Nat.mul_one] at ht
  have:(cur.toList.take zs.length)[i]?=some (Value.int k (zs[i]?.getD 0)):=by rw [ht];simp [hi]
  rw [List.getElem?_take,if_pos hi] at this
  simpa using this
theorem Rd.len {k:IntKind} {w:World} {v:Value} {zs:List Int} (h:Rd k w v zs):zs.length≤9223372036854775807:=by
 obtain ⟨ao,cap,hv,h1,h2,h3⟩:=h
 unfold maxLen at h2
 omega
theorem own_ext {w w':World} {base:Nat} {e:TypeId} {size:Nat} {v:Value} {n:Nat} {xs:List Value} (h:w.ownsRow base e size v n xs) (hb:Below w.heap.size w w'):w'.ownsRow base e size v n xs :=
 h.kept (row:=none) ⟨hb.os,hb.tape,hb.output,hb.size,fun k hk _=>hb.block k hk⟩ (by cases v.ownBlock <;> simp)
theorem zxt {a b c:World} (h:Below a.heap.size a b) (k:Below b.heap.size b c):Below a.heap.size a c:=h.trans (k.mono h.size)
theorem below_push {w wr w':World} {o:Obj} {e:TypeId} {size n:Nat} {v:Value} {xs:List Value} (hb:Below w.heap.size w wr) (hown:wr.ownsRow w.heap.size e size v n xs) (hg:(wr.alloc o).grownBy w' v.ownBlock):Below w.heap.size w w' :=
 (hb.alloc hb.size o).grown hg (by have:=hb.size;simp;omega) (fun k hk=>(hown.lt k hk).1)
theorem one_i64 (x:Int):∀ u ∈ [Value.int .i64 x],u.oneCell'=true:=by intro u hu;simp at hu;subst hu;rfl
open Go.RowKit
def fillB (i:Nat):Int:=wrap64 (167 + (i:Int)) % 256
def fill (a m:Nat):List Int:=(List.range' a m).map fillB
def Lent (w:World) (base g cap:Nat) (zs:List Int):Prop :=
 zs.length + 40≤cap∧cap≤maxLen∧base≤g∧g < w.heap.size∧w.ownsRow base 5 1 (.slice (some ⟨g,0,none⟩) cap cap) cap ((zs ++ fill zs.length (cap - zs.length)).map (Value.int .u8))
open Go.RowKit
def tw (k:Nat) (x:Int):Int:=bits .xor .u8 x (1 + (k:Int) % 3)
def turn (zs:List Int):List Int:=zs.mapIdx tw
open Go.RowKit
def Byt (zs:List Int):Prop:=∀ z ∈ zs,0≤z∧z≤255
theorem Byt.take {zs:List Int} (h:Byt zs) (n:Nat):Byt (zs.take n):=fun z hz=>h z (List.mem_of_mem_take hz)
theorem Byt.drop {zs:List Int} (h:Byt zs) (n:Nat):Byt (zs.drop n):=fun z hz=>h z (List.mem_of_mem_drop hz)
theorem pre_iff (m z:List Int):(decide (m.length≤z.length) && decide (z.take m.length=m))=m.isPrefixOf z:=by
 rw [Bool.eq_iff_iff,List.isPrefixOf_iff_prefix]
 simp only [Bool.and_eq_true,decide_eq_true_eq]
 constructor
 ·rintro ⟨_,h⟩
  exact List.prefix_iff_eq_take.2 h.symm
 ·intro h
  exact ⟨h.length_le,(List.prefix_iff_eq_take.1 h).symm⟩
theorem Rd.take {k:IntKind} {w:World} {ao:Option Addr} {n cap:Nat} {zs:List Int} (h:Rd k w (.slice ao n cap) zs) (m:Nat) (hm:m≤zs.length):Rd k w (.slice ao m cap) (zs.take m):=by
 obtain ⟨ao',cap',hv,h1,h2,h3⟩:=h
 cases hv
 refine ⟨ao,cap,by rw [List.length_take,Nat.min_eq_left hm],by rw [List.length_take];omega,h2,fun hn=>?_⟩
 obtain ⟨b,off,ha,hb,hc⟩:=h3 (fun h=>hn (by rw [h];simp))
 refine ⟨b,off,ha,hb,fun i hi=>?_⟩
 rw [List.length_take] at hi
 rw [hc i (by omega),List.getElem?_take,if_pos (by omega)]
theorem take_grow (m z:List Int) (k:Nat) (h:m.take k=z.take k) (hm:k < m.length) (hz:k < z.length) (he:m[k]?.getD 0=z[k]?.getD 0):m.take (k + 1)=z.take (k + 1):=by
 rw [List.take_succ_eq_append_getElem hm,List.take_succ_eq_append_getElem hz,h]
 simp [hm,hz] at he
 rw [he]
theorem pre_no (m z:List Int) (k:Nat) (hm:k < m.length) (hz:m.length≤z.length) (he:m[k]?.getD 0≠z[k]?.getD 0):m.isPrefixOf z=false:=by
 rw [Bool.eq_false_iff]
 intro h
 rw [List.isPrefixOf_iff_prefix] at h
 obtain ⟨t,rfl⟩:=h
 exact he (by rw [List.getElem?_append_left hm])
theorem pre_yes (m z:List Int) (hz:m.length≤z.length) (he:m.take m.length=z.take m.length):m.isPrefixOf z=true:=by
 rw [← pre_iff]
 rw [List.take_length] at he
 simp [hz,← he]
theorem begins_any (v1 v2:Value) (z m:List Int) (at':Nat) (w:World) (h1:Rd .u8 w v1 z) (h2:Rd .u8 w v2 m) (hat:at'≤z.length) (hm0:m≠[]) (hsum:z.length + m.length≤4611686018427387904) :
  Calls Tryz.prog 139 #[v1,.int .i64 at',v2] w fun e w'=>e=.returned (.bool (m.isPrefixOf (z.drop at')))∧Below w.heap.size w w':=by
 have hz1:=h1.len
 have hz2:=h2.len
 obtain ⟨ao,cp,rfl,hl1,hc1,h1⟩:=h1
 obtain ⟨ao2,cp2,rfl,hl2,hc2,h2⟩:=h2
 by_cases hl:at' + m.length≤z.length
 ·have hmp:0 < m.length:=List.length_pos_iff.2 hm0
  have hzn:z≠[]:=List.length_pos_iff.1 (by omega)
  obtain ⟨b,off,rfl,hb,hcl⟩:=h1 hzn
  obtain ⟨b2,off2,rfl,hb2,hcl2⟩:=h2 hm0
  have HY:Hid (m.take m.length=(z.drop at').take m.length→m.isPrefixOf (z.drop at')=true):=pre_yes m _ (by rw [List.length_drop];omega)
  have HN:Hid (∀ k,k < m.length→m[k]?.getD 0≠z[at' + k]?.getD 0→m.isPrefixOf (z.drop at')=false):=fun k hk he=>pre_no m _ k hk (by rw [List.length_drop];omega) (by rw [List.getElem?_drop];exact he)
  have HG:Hid (∀ k,k < m.length→m.take k=(z.drop at').take k→m[k]?.getD 0=z[at' + k]?.getD 0→m.take (k + 1)=(z.drop at').take (k + 1)):=fun k hk h he=>take_grow m _ k h hk (by rw [List.length_drop];omega) (by rw [List.getElem?_drop];exact he)
  clear h1 h2 hm0 hmp hzn
  generalize m.isPrefixOf (z.drop at')=R at *
  go_enter Tryz.func139,Tryz.ntmps139
  go_wp2
  go_loopw [7] (fun i wr=>∃ k:Nat,k≤m.length∧i=.int .i64 k∧m.take k=(z.drop at').take k∧Below w.heap.size w wr) (fun i _=>m.length - (intOf i).toNat)
  case atStart=>exact ⟨0,Nat.zero_le _,rfl,rfl,Below.refl _ _⟩
  case round =>
   obtain ⟨k,hk,rfl,ht,hbw⟩:=hrel
   have HT:Hid (m.take k=(z.drop at').take k):=ht
   clear ht
   by_cases hlt:k < m.length
   ·have c1:wr.cell? ⟨b,off + (at' + k),none⟩=some (.int .u8 (z[at' + k]?.getD 0)):=(hbw.cell (p:=⟨b,off + (at' + k),none⟩) hb).trans (hcl _ (by omega))
    have c2:wr.cell? ⟨b2,off2 + k,none⟩=some (.int .u8 (m[k]?.getD 0)):=(hbw.cell (p:=⟨b2,off2 + k,none⟩) hb2).trans (hcl2 _ hlt)
    have HN':=HN.out k hlt
    have HG':=HG.out k hlt HT.out
    generalize z[at' + k]?.getD 0=x at *
    generalize m[k]?.getD 0=y at *
    clear hcl hcl2 HN HG
    by_cases he:y=x
    ·have HG2:Hid (m.take (k + 1)=(z.drop at').take (k + 1)):=HG' he
     subst he
     clear HN' HG'
     have hi1:(at':Int) + (k:Int) < (z.length:Int):=by omega
     go_wp2
     go_quiet (fail)
     go_wp2
     go_roundw
     case rel=>exact ⟨k + 1,by omega,by go_num,HG2.out,below_drewN hbw _⟩
     case measure=>simp [intOf];omega
    ·have HR:Hid (R=false):=HN' he
     have hne:(x != y)=true:=by simp;exact fun h=>he h.symm
     clear HN' HG' he
     go_wp2
     go_quiet (fail)
     go_wp2
     go_ret
     exact ⟨by rw [HR.out];rfl,below_drewN hbw _⟩
   ·have hke:k=m.length:=by omega
    subst hke
    have HR:Hid (R=true):=HY.out HT.out
    clear HY HN HG hcl hcl2 HT
    go_wp2
    go_ret
    exact ⟨by rw [HR.out];rfl,hbw⟩
 ·have e1:m.isPrefixOf (z.drop at')=false:=by
   rw [← pre_iff];simp only [List.length_drop]
   rw [decide_eq_false (by omega),Bool.false_and]
  rw [e1]
  clear h1 h2 e1 hm0
  go_enter Tryz.func139,Tryz.ntmps139
  go_wp2
  all_goals (go_ret;exact ⟨rfl,Below.refl _ _⟩)
end Go.Proofs.YtdhciadajendnaaGreat
