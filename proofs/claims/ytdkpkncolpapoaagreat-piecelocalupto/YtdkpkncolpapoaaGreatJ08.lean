import Derived.Test.YtdkpkncolpapoaaGreatJ00
import Derived.Test.YtdkpkncolpapoaaGreatJ07
import Derived.Test.YtdkpkncolpapoaaGreatRows
import Derived.WalkKit
import Derived.WalkSpells
import Derived.WalkLawsBesides
import Derived.StillTactics
import Derived.Deep.QuietTactic
import Derived.BigQuiet
import Derived.Outline
import Derived.Laws.BytesArg
import Derived.Lib.Strings
import Derived.Deep.RegionHeld3
import Derived.Deep.RegionWith
namespace Go.Proofs.YtdkpkncolpapoaaGreat
open Go.RowKit
def Cx.cv (enc:Int):Value :=
 if enc=1 then .iface 175 (.agg #[]) else if enc=2 then .iface 177 (.agg #[.int .i64 0])
 else if enc=3 then .iface 177 (.agg #[.int .i64 1]) else if enc=4 then .iface 178 (.agg #[]) else .nilIface
def Cx.known (enc:Int):Bool:=decide (1≤enc) && decide (enc≤4)
theorem m_size1 (w : World) : (method 336 175 (.agg #[]) "copyist/codec.size").run Tryz.prog w = .ok (176, .agg #[]) w := by kernel_rfl
theorem m_size2 (k : Int) (w : World) : (method 336 177 (.agg #[.int .i64 k]) "copyist/codec.size").run Tryz.prog w = .ok (191, .agg #[.int .i64 k]) w := by kernel_rfl
theorem m_size4 (w : World) : (method 336 178 (.agg #[]) "copyist/codec.size").run Tryz.prog w = .ok (203, .agg #[]) w := by kernel_rfl
theorem ret_int {k:IntKind} {a b:Int} (h:a=b):Ending.returned (.int k a)=.returned (.int k b):=by rw [h]
theorem coderOf_any (enc:Int) (w:World):Calls Tryz.prog 57 #[.int .i64 enc] w fun e w'=>e=.returned (.tuple #[Cx.cv enc,.bool (Cx.known enc)])∧w'=w:=by
 by_cases h1:enc=1
 ·subst h1;go_enter Tryz.func57,Tryz.ntmps57;go_wp2;go_ret2;exact ⟨rfl,rfl⟩
 by_cases h2:enc=2
 ·subst h2;go_enter Tryz.func57,Tryz.ntmps57;go_wp2;go_ret2;exact ⟨rfl,rfl⟩
 by_cases h3:enc=3
 ·subst h3;go_enter Tryz.func57,Tryz.ntmps57;go_wp2;go_ret2;exact ⟨rfl,rfl⟩
 by_cases h4:enc=4
 ·subst h4;go_enter Tryz.func57,Tryz.ntmps57;go_wp2;go_ret2;exact ⟨rfl,rfl⟩
 ·have e1:Cx.cv enc=.nilIface:=by simp [Cx.cv,h1,h2,h3,h4]
  have e2:Cx.known enc=false:=by simp [Cx.known];omega
  rw [e1,e2]
  have b1:(enc == 1)=false:=by simp [h1]
  have b2:(enc == 2)=false:=by simp [h2]
  have b3:(enc == 3)=false:=by simp [h3]
  have b4:(enc == 4)=false:=by simp [h4]
  clear h1 h2 h3 h4 e1 e2
  go_enter Tryz.func57,Tryz.ntmps57
  go_wp2
  go_ret2
  exact ⟨rfl,rfl⟩
theorem coderOf_1 (w:World):Calls Tryz.prog 57 #[.int .i64 1] w fun e w'=>e=.returned (.tuple #[.iface 175 (.agg #[]),.bool true])∧w'=w:=coderOf_any 1 w
theorem coderOf_2 (w:World):Calls Tryz.prog 57 #[.int .i64 2] w fun e w'=>e=.returned (.tuple #[.iface 177 (.agg #[.int .i64 0]),.bool true])∧w'=w:=coderOf_any 2 w
theorem coderOf_3 (w:World):Calls Tryz.prog 57 #[.int .i64 3] w fun e w'=>e=.returned (.tuple #[.iface 177 (.agg #[.int .i64 1]),.bool true])∧w'=w:=coderOf_any 3 w
theorem coderOf_4 (w:World):Calls Tryz.prog 57 #[.int .i64 4] w fun e w'=>e=.returned (.tuple #[.iface 178 (.agg #[]),.bool true])∧w'=w:=coderOf_any 4 w
theorem coderOf_no (enc:Int) (h1:enc≠1) (h2:enc≠2) (h3:enc≠3) (h4:enc≠4) (w:World):Calls Tryz.prog 57 #[.int .i64 enc] w fun e w'=>e=.returned (.tuple #[.nilIface,.bool false])∧w'=w:=by
 have e1:Cx.cv enc=.nilIface:=by simp [Cx.cv,h1,h2,h3,h4]
 have e2:Cx.known enc=false:=by simp [Cx.known];omega
 have:=coderOf_any enc w
 rwa [e1,e2] at this
set_option maxHeartbeats 1000000 in
theorem nsize_any (a:Int) (w:World):Calls Tryz.prog 176 #[.agg #[],.int .i64 a] w fun e w'=>e=.returned (.int .i64 (Cx.nsize a))∧Below w.heap.size w w':=by
 rcases (show a < -256∨(-256≤a∧a≤-129)∨(-128≤a∧a≤-1)∨(0≤a∧a < 128)∨(128≤a∧a < 2048)∨(2048≤a∧a < 55296)∨(55296≤a∧a≤57343)∨(57344≤a∧a < 65536)∨(65536≤a∧a≤1114111)∨1114111 < a from by omega) with h | ⟨h,h'⟩ | ⟨h,h'⟩ | ⟨h,h'⟩ | ⟨h,h'⟩ | ⟨h,h'⟩ | ⟨h,h'⟩ | ⟨h,h'⟩ | ⟨h,h'⟩ | h
 all_goals
  go_enter Tryz.func176,Tryz.ntmps176
  go_wp2
  go_ret
  refine ⟨ret_int ?_,(Below.refl _ _).alloc (Nat.le_refl _) _⟩
  unfold Cx.nsize
  repeat' split
  all_goals omega
set_option maxHeartbeats 1000000 in
theorem wsize_any (k a:Int) (w:World):Calls Tryz.prog 191 #[.agg #[.int .i64 k],.int .i64 a] w fun e w'=>e=.returned (.int .i64 (Cx.wsize a))∧Below w.heap.size w w':=by
 rcases (show a < -256∨(-256≤a∧a≤-1)∨(0≤a∧a < 55296)∨(55296≤a∧a≤57343)∨(57344≤a∧a < 65536)∨(65536≤a∧a≤1114111)∨1114111 < a from by omega) with h | ⟨h,h'⟩ | ⟨h,h'⟩ | ⟨h,h'⟩ | ⟨h,h'⟩ | ⟨h,h'⟩ | h
 all_goals
  first | have hd:decide (a≤57343)=false:=by simp;omega
        | skip
  go_enter Tryz.func191,Tryz.ntmps191
  go_wp2
  go_ret
  refine ⟨ret_int ?_,(Below.refl _ _).alloc (Nat.le_refl _) _⟩
  unfold Cx.wsize
  repeat' split
  all_goals omega
theorem lsize_any (a:Int) (w:World):Calls Tryz.prog 203 #[.agg #[],.int .i64 a] w fun e w'=>e=.returned (.int .i64 (Cx.lsize a))∧Below w.heap.size w w':=by
 rcases (show a < 0∨(0≤a∧a≤255)∨255 < a from by omega) with h | ⟨h,h'⟩ | h
 all_goals
  go_enter Tryz.func203,Tryz.ntmps203
  go_wp2
  go_ret
  refine ⟨ret_int ?_,(Below.refl _ _).alloc (Nat.le_refl _) _⟩
  unfold Cx.lsize
  repeat' split
  all_goals omega
theorem Cx.size_other (enc a:Int) (h1:enc≠1) (h2:enc≠2) (h3:enc≠3) (h4:enc≠4):Cx.size enc a=0:=by
 simp [Cx.size,Cx.fits,h1,h2,h3,h4]
theorem Size_any (enc a:Int) (w:World):Calls Tryz.prog 53 #[.int .i64 enc,.int .i64 a] w fun e w'=>e=.returned (.int .i64 (Cx.size enc a))∧Below w.heap.size w w':=by
 by_cases h1:enc=1
 ·subst h1
  rw [Cx.size1]
  have hm:=m_size1
  go_enter Tryz.func53,Tryz.ntmps53
  go_wp2_with (first | (go_at_call 57;refine (coderOf_1 _).mono ?_;rintro e w' ⟨rfl,rfl⟩) | (go_at_call 176;refine (nsize_any _ _).mono ?_;rintro e w' ⟨rfl,hb⟩))
  go_ret
  exact ⟨rfl,by assumption⟩
 by_cases h2:enc=2
 ·subst h2
  rw [Cx.sizeW _ _ (by decide)]
  have hm:=m_size2
  go_enter Tryz.func53,Tryz.ntmps53
  go_wp2_with (first | (go_at_call 57;refine (coderOf_2 _).mono ?_;rintro e w' ⟨rfl,rfl⟩) | (go_at_call 191;refine (wsize_any _ _ _).mono ?_;rintro e w' ⟨rfl,hb⟩))
  go_ret
  exact ⟨rfl,by assumption⟩
 by_cases h3:enc=3
 ·subst h3
  rw [Cx.sizeW _ _ (by decide)]
  have hm:=m_size2
  go_enter Tryz.func53,Tryz.ntmps53
  go_wp2_with (first | (go_at_call 57;refine (coderOf_3 _).mono ?_;rintro e w' ⟨rfl,rfl⟩) | (go_at_call 191;refine (wsize_any _ _ _).mono ?_;rintro e w' ⟨rfl,hb⟩))
  go_ret
  exact ⟨rfl,by assumption⟩
 by_cases h4:enc=4
 ·subst h4
  rw [Cx.size4]
  have hm:=m_size4
  go_enter Tryz.func53,Tryz.ntmps53
  go_wp2_with (first | (go_at_call 57;refine (coderOf_4 _).mono ?_;rintro e w' ⟨rfl,rfl⟩) | (go_at_call 203;refine (lsize_any _ _).mono ?_;rintro e w' ⟨rfl,hb⟩))
  go_ret
  exact ⟨rfl,by assumption⟩
 ·rw [Cx.size_other _ _ h1 h2 h3 h4]
  go_enter Tryz.func53,Tryz.ntmps53
  go_wp2_with (go_at_call 57;refine (coderOf_no _ h1 h2 h3 h4 _).mono ?_;rintro e w' ⟨rfl,rfl⟩)
  go_ret
  exact ⟨rfl,Below.refl _ _⟩
end Go.Proofs.YtdkpkncolpapoaaGreat

namespace Go.Proofs.YtdkpkncolpapoaaGreat
open Go.RowKit
def Cx.Lit (w w':World) (v:Value) (bs:List Int):Prop :=
 ∃ g,v=.slice (some ⟨g,0,none⟩) bs.length bs.length∧w.heap.size≤g∧w'.heap[g]?=some (.cells (bs.map (Value.int .u8)).toArray 5 (0,0))∧Below w.heap.size w w'
theorem Cx.Lit.head {w w':World} {v:Value} {bs:List Int} (h:Cx.Lit w w' v bs):∃ g,v=.slice (some ⟨g,0,none⟩) bs.length bs.length∧w.heap.size≤g∧(∀ i,i < bs.length→w'.cell? ⟨g,i,none⟩=some (.int .u8 (bs.getD i 0)))∧Below w.heap.size w w':=by
 obtain ⟨g,hv,hg,hh,hb⟩:=h
 refine ⟨g,hv,hg,fun i hi=>?_,hb⟩
 rw [cell_of_row w' g i _ _ _ hh]
 simp [List.getD,hi]
theorem Cx.put_len (enc a:Int):1≤(Cx.put enc a).length∧(Cx.put enc a).length≤4:=by
 unfold Cx.put Cx.put8 Cx.unit
 repeat' split
 all_goals simp
def Cx.u0 (enc u:Int):Int:=if enc=2 then u % 256 else u / 256
def Cx.u1 (enc u:Int):Int:=if enc=2 then u / 256 else u % 256
theorem Cx.unit_eq (enc u:Int):Cx.unit enc u=[Cx.u0 enc u,Cx.u1 enc u]:=by unfold Cx.unit Cx.u0 Cx.u1;split <;> rfl
end Go.Proofs.YtdkpkncolpapoaaGreat

namespace Go.Proofs.YtdkpkncolpapoaaGreat.Cx
def rowN (c:Int):Int:=if c≤127 then 1 else if c < 194 then 0 else if c≤223 then 2 else if c≤239 then 3 else if c≤244 then 4 else 0
def rowLo (c:Int):Int:=if c < 194 then 0 else if c=224 then 160 else if c=240 then 144 else if c≤244 then 128 else 0
def rowHi (c:Int):Int:=if c < 194 then 0 else if c=237 then 159 else if c=244 then 143 else if c≤244 then 191 else 0
def loJ (c:Int) (k:Nat):Int:=if k=1 then rowLo c else 128
def hiJ (c:Int) (k:Nat):Int:=if k=1 then rowHi c else 191
def c0 (b:List Int):Int:=b[0]?.getD 0
def okAt (b:List Int) (j:Nat):Bool:=decide (b.length≤j) || (decide (loJ (c0 b) j≤b[j]?.getD 0) && decide (b[j]?.getD 0≤hiJ (c0 b) j))
def okAll (b:List Int):Bool :=
 (decide (rowN (c0 b) < 2) || okAt b 1) && (decide (rowN (c0 b) < 3) || okAt b 2) && (decide (rowN (c0 b) < 4) || okAt b 3)
def mtch (b:List Int):Int:=if okAll b=true then rowN (c0 b) else 0
theorem rowN_bd (c:Int):0≤rowN c∧rowN c≤4:=by unfold rowN;repeat' split <;> omega
theorem mtch_yes (b:List Int) (k:Nat) (hn:∀ j,1≤j→j < k→okAt b j=true) (he:rowN (c0 b)≤k∨b.length≤k):mtch b=rowN (c0 b):=by
 have hb:=rowN_bd (c0 b)
 have ok:∀ j:Nat,1≤j→(j:Int) < rowN (c0 b)→okAt b j=true:=by
  intro j hj hr
  by_cases hjk:j < k
  ·exact hn j hj hjk
  ·rcases he with he | he
   ·omega
   ·unfold okAt;rw [decide_eq_true (show b.length≤j by omega),Bool.true_or]
 unfold mtch
 rw [if_pos]
 unfold okAll
 have q:∀ j:Nat,1≤j→∀ m:Int,m=(j:Int) + 1→(decide (rowN (c0 b) < m) || okAt b j)=true:=by
  intro j hj m hm
  by_cases h:rowN (c0 b) < m
  ·rw [decide_eq_true h,Bool.true_or]
  ·rw [ok j hj (by omega),Bool.or_true]
 rw [q 1 (by omega) 2 rfl,q 2 (by omega) 3 rfl,q 3 (by omega) 4 rfl];rfl
theorem mtch_no (b:List Int) (k:Nat) (h1:1≤k) (hr:(k:Int) < rowN (c0 b)) (hl:k < b.length) (hx:¬ (loJ (c0 b) k≤b[k]?.getD 0∧b[k]?.getD 0≤hiJ (c0 b) k)):mtch b=0:=by
 have hb:=rowN_bd (c0 b)
 have ho:okAt b k=false:=by
  unfold okAt
  rw [decide_eq_false (show ¬ b.length≤k by omega),Bool.false_or]
  simp only [Bool.and_eq_false_iff,decide_eq_false_iff_not]
  rcases Classical.em (loJ (c0 b) k≤b[k]?.getD 0) with h | h
  ·exact .inr fun h'=>hx ⟨h,h'⟩
  ·exact .inl h
 unfold mtch
 rw [if_neg]
 intro h
 unfold okAll at h
 simp only [Bool.and_eq_true,Bool.or_eq_true,decide_eq_true_eq] at h
 obtain ⟨⟨h2,h3⟩,h4⟩:=h
 have e:k=1∨k=2∨k=3:=by omega
 rcases e with rfl | rfl | rfl
 ·rcases h2 with h | h
  ·omega
  ·rw [h] at ho;cases ho
 ·rcases h3 with h | h
  ·omega
  ·rw [h] at ho;cases ho
 ·rcases h4 with h | h
  ·omega
  ·rw [h] at ho;cases ho
theorem okAt_of (b:List Int) (k:Nat) (h:loJ (c0 b) k≤b[k]?.getD 0∧b[k]?.getD 0≤hiJ (c0 b) k):okAt b k=true:=by
 unfold okAt
 rw [decide_eq_true h.1,decide_eq_true h.2];simp
theorem mtch_bd (b:List Int):0≤mtch b∧mtch b≤4:=by
 have:=rowN_bd (c0 b)
 unfold mtch;split <;> omega
def val:List Int→Int
 | [a]=>a
 | [a,b]=>(a - 192) * 64 + (b - 128)
 | [a,b,c]=>((a - 224) * 64 + (b - 128)) * 64 + (c - 128)
 | [a,b,c,d]=>(((a - 240) * 64 + (b - 128)) * 64 + (c - 128)) * 64 + (d - 128)
 | _=>0
def first8 (b:List Int):Int × Int:=if 0 < mtch b∧mtch b≤b.length then (val (b.take (mtch b).toNat),mtch b) else (-1 - c0 b,1)
theorem row_bytes (b:List Int) (hb:∀ z ∈ b,0≤z∧z≤255) (h0:0 < mtch b) (hl:mtch b≤b.length) :
  (∃ x,b.take (mtch b).toNat=[x]∧mtch b=1∧0≤x∧x≤127) ∨
  (∃ x y,b.take (mtch b).toNat=[x,y]∧mtch b=2∧194≤x∧x≤223∧128≤y∧y≤191) ∨
  (∃ x y z,b.take (mtch b).toNat=[x,y,z]∧mtch b=3∧224≤x∧x≤239∧rowLo x≤y∧y≤rowHi x∧128≤z∧z≤191) ∨
  (∃ x y z u,b.take (mtch b).toNat=[x,y,z,u]∧mtch b=4∧240≤x∧x≤244∧rowLo x≤y∧y≤rowHi x∧128≤z∧z≤191∧128≤u∧u≤191):=by
 have hm:okAll b=true∧mtch b=rowN (c0 b):=by
  unfold mtch at h0 ⊢
  split at h0
  ·rename_i h;exact ⟨h,by rw [if_pos h]⟩
  ·omega
 obtain ⟨hok,he⟩:=hm
 rw [he] at h0 hl ⊢
 unfold okAll at hok
 simp only [Bool.and_eq_true,Bool.or_eq_true,decide_eq_true_eq] at hok
 obtain ⟨⟨h2,h3⟩,h4⟩:=hok
 match b,hb,hl,h0,h2,h3,h4 with
 | [],_,hl,h0,_,_,_=>simp only [List.length_nil] at hl;omega
 | [x],hb,hl,h0,h2,h3,h4 =>
   have hx:=hb x (by simp)
   simp only [c0,List.getElem?_cons_zero,Option.getD_some,List.length_cons,List.length_nil] at *
   have e1:rowN x=1:=by omega
   refine .inl ⟨x,by rw [e1];rfl,e1,hx.1,?_⟩
   unfold rowN at e1;repeat' split at e1
   all_goals omega
 | x :: y :: l,hb,hl,h0,h2,h3,h4 =>
   have hx:=hb x (by simp)
   have hy:=hb y (by simp)
   simp only [c0,List.getElem?_cons_zero,Option.getD_some,List.length_cons] at *
   have hcase:(rowN x=1∧x≤127)∨(rowN x=2∧194≤x∧x≤223)∨(rowN x=3∧224≤x∧x≤239)∨(rowN x=4∧240≤x∧x≤244):=by
    unfold rowN at h0 ⊢;repeat' split at h0
    all_goals first | omega | (simp [*];omega)
   have k1:2≤rowN x→rowLo x≤y∧y≤rowHi x:=by
    intro h
    rcases h2 with h2 | h2
    ·omega
    ·simpa [okAt,c0,loJ,hiJ] using h2
   rcases hcase with ⟨e,r⟩ | ⟨e,r⟩ | ⟨e,r⟩ | ⟨e,r⟩
   ·exact .inl ⟨x,by rw [e];rfl,e,hx.1,r⟩
   ·refine .inr (.inl ⟨x,y,by rw [e];rfl,e,r.1,r.2,?_⟩)
    have:=k1 (by omega)
    unfold rowLo rowHi at this
    repeat' split at this
    all_goals omega
   ·match l,hb,hl,h3 with
    | [],_,hl,_=>simp at hl;omega
    | z :: l,hb,hl,h3 =>
      have k2:128≤z∧z≤191:=by
       rcases h3 with h3 | h3
       ·omega
       ·simpa [okAt,loJ,hiJ] using h3
      exact .inr (.inr (.inl ⟨x,y,z,by rw [e];rfl,e,r.1,r.2,(k1 (by omega)).1,(k1 (by omega)).2,k2.1,k2.2⟩))
   ·match l,hb,hl,h3,h4 with
    | [],_,hl,_,_=>simp at hl;omega
    | [z],_,hl,_,_=>simp at hl;omega
    | z :: u :: l,hb,hl,h3,h4 =>
      have k2:128≤z∧z≤191:=by
       rcases h3 with h3 | h3
       ·omega
       ·simpa [okAt,loJ,hiJ] using h3
      have k3:128≤u∧u≤191:=by
       rcases h4 with h4 | h4
       ·omega
       ·simpa [okAt,loJ,hiJ] using h4
      exact .inr (.inr (.inr ⟨x,y,z,u,by rw [e];rfl,e,r.1,r.2,(k1 (by omega)).1,(k1 (by omega)).2,k2.1,k2.2,k3.1,k3.2⟩))
end Go.Proofs.YtdkpkncolpapoaaGreat.Cx

namespace Go.Proofs.YtdkpkncolpapoaaGreat
open Go.RowKit
theorem Tryz.info_u8:(Tryz.prog.info? 5).map (fun i=>(i.zero,i.size,i.bytes))=some (some (.int .u8 0),1,1):=by kernel_rfl
theorem Tryz.info_i64:(Tryz.prog.info? 3).map (fun i=>(i.zero,i.size,i.bytes))=some (some (.int .i64 0),1,8):=by kernel_rfl
def Rd (k:IntKind) (w:World) (v:Value) (zs:List Int):Prop :=
 ∃ ao cap,v=.slice ao zs.length cap∧zs.length≤cap∧cap≤maxLen ∧
   (zs≠[]→∃ b off,ao=some ⟨b,off,none⟩∧b < w.heap.size∧∀ i,i < zs.length→w.cell? ⟨b,off + i,none⟩=some (.int k (zs[i]?.getD 0)))
theorem Rd.ext {k:IntKind} {w w':World} {v:Value} {zs:List Int} (h:Rd k w v zs) (hb:Below w.heap.size w w'):Rd k w' v zs:=by
 obtain ⟨ao,cap,hv,h1,h2,h3⟩:=h
 refine ⟨ao,cap,hv,h1,h2,fun hn=>?_⟩
 obtain ⟨b,off,ha,hlt,hc⟩:=h3 hn
 exact ⟨b,off,ha,Nat.lt_of_lt_of_le hlt hb.size,fun i hi=>(hb.cell (p:=⟨b,off + i,none⟩) hlt).trans (hc i hi)⟩
theorem Rd.grown {k:IntKind} {w w':World} {v:Value} {zs:List Int} {B:Nat} (h:Rd k w v zs) (hB:zs≠[]→∀ b off n c,v=.slice (some ⟨b,off,none⟩) n c→b < B) (hb:Below B w w'):Rd k w' v zs:=by
 obtain ⟨ao,cap,hv,h1,h2,h3⟩:=h
 refine ⟨ao,cap,hv,h1,h2,fun hn=>?_⟩
 obtain ⟨b,off,ha,hlt,hc⟩:=h3 hn
 have hlt':=hB hn b off zs.length cap (by rw [hv,ha])
 exact ⟨b,off,ha,Nat.lt_of_lt_of_le hlt hb.size,fun i hi=>(hb.cell (p:=⟨b,off + i,none⟩) hlt').trans (hc i hi)⟩
theorem Rd.of_own {k:IntKind} {w:World} {base:Nat} {e:TypeId} {v:Value} {n:Nat} {zs:List Int} (h:w.ownsRow base e 1 v n (zs.map (Value.int k))):Rd k w v zs:=by
 obtain ⟨h1,h2⟩:=h
 simp at h1
 subst h1
 rcases h2 with ⟨rfl,hn⟩ | ⟨g,cap,cur,rfl,hb,hg,hn,hc,hs,ht⟩
 ·exact ⟨none,0,by rw [hn],by omega,by simp [maxLen],fun h=>absurd (List.length_eq_zero_iff.1 hn) h⟩
 ·refine ⟨_,cap,rfl,hn,hc,fun _=>⟨g,0,rfl,(Array.getElem?_eq_some_iff.1 hg).1,fun i hi=>?_⟩⟩
  rw [cell_of_row w g (0 + i) cur e (0,0) hg]
  simp only [Nat.mul_one] at ht
  have:(cur.toList.take zs.length)[i]?=some (Value.int k (zs[i]?.getD 0)):=by rw [ht];simp [hi]
  rw [List.getElem?_take,if_pos hi] at this
  simpa using this
theorem Rd.len {k:IntKind} {w:World} {v:Value} {zs:List Int} (h:Rd k w v zs):zs.length≤9223372036854775807:=by
 obtain ⟨ao,cap,hv,h1,h2,h3⟩:=h
 unfold maxLen at h2
 omega
theorem own_ext {w w':World} {base:Nat} {e:TypeId} {size:Nat} {v:Value} {n:Nat} {xs:List Value} (h:w.ownsRow base e size v n xs) (hb:Below w.heap.size w w'):w'.ownsRow base e size v n xs :=
 h.kept (row:=none) ⟨hb.os,hb.tape,hb.output,hb.size,fun k hk _=>hb.block k hk⟩ (by cases v.ownBlock <;> simp)
theorem ext_trans {a b c:World} (h:Below a.heap.size a b) (k:Below b.heap.size b c):Below a.heap.size a c:=h.trans (k.mono h.size)
theorem below_push {w wr w':World} {o:Obj} {e:TypeId} {size n:Nat} {v:Value} {xs:List Value} (hb:Below w.heap.size w wr) (hown:wr.ownsRow w.heap.size e size v n xs) (hg:(wr.alloc o).grownBy w' v.ownBlock):Below w.heap.size w w' :=
 (hb.alloc hb.size o).grown hg (by have:=hb.size;simp;omega) (fun k hk=>(hown.lt k hk).1)
theorem one_i64 (x:Int):∀ u ∈ [Value.int .i64 x],u.oneCell'=true:=by intro u hu;simp at hu;subst hu;rfl
end Go.Proofs.YtdkpkncolpapoaaGreat

namespace Go.Proofs.YtdkpkncolpapoaaGreat
open Go.RowKit
def fillB (i:Nat):Int:=wrap64 (167 + (i:Int)) % 256
def fill (a m:Nat):List Int:=(List.range' a m).map fillB
def Lent (w:World) (base g cap:Nat) (zs:List Int):Prop :=
 zs.length + 40≤cap∧cap≤maxLen∧base≤g∧g < w.heap.size∧w.ownsRow base 5 1 (.slice (some ⟨g,0,none⟩) cap cap) cap ((zs ++ fill zs.length (cap - zs.length)).map (Value.int .u8))
end Go.Proofs.YtdkpkncolpapoaaGreat

namespace Go.Proofs.YtdkpkncolpapoaaGreat
open Go.RowKit
theorem Rd.drewN {k:IntKind} {w:World} {v:Value} {zs:List Int} (h:Rd k w v zs) (n:Nat):Rd k (w.drewN n) v zs:=h.ext (below_drewN (Below.refl _ _) n)
theorem Lent.rd {w:World} {base g cap:Nat} {zs:List Int} (h:Lent w base g cap zs):Rd .u8 w (.slice (some ⟨g,0,none⟩) zs.length cap) zs:=by
 obtain ⟨hl1,hl2,hl3,hl4,hown⟩:=h
 refine ⟨_,cap,rfl,by omega,hl2,fun _=>⟨g,0,rfl,hl4,fun i hi=>?_⟩⟩
 rw [Nat.zero_add,hown.cellAt i (by omega),List.getElem?_map,List.getElem?_append_left hi]
 simp [hi]
theorem Lent.ext {w w':World} {base g cap:Nat} {zs:List Int} (h:Lent w base g cap zs) (hb:Below w.heap.size w w'):Lent w' base g cap zs :=
 ⟨h.1,h.2.1,h.2.2.1,Nat.lt_of_lt_of_le h.2.2.2.1 hb.size,own_ext h.2.2.2.2 hb⟩
end Go.Proofs.YtdkpkncolpapoaaGreat

namespace Go.Proofs.YtdkpkncolpapoaaGreat
open Go.RowKit
def Byt (zs:List Int):Prop:=∀ z ∈ zs,0≤z∧z≤255
theorem Byt.take {zs:List Int} (h:Byt zs) (n:Nat):Byt (zs.take n):=fun z hz=>h z (List.mem_of_mem_take hz)
theorem Byt.drop {zs:List Int} (h:Byt zs) (n:Nat):Byt (zs.drop n):=fun z hz=>h z (List.mem_of_mem_drop hz)
theorem Rd.take {k:IntKind} {w:World} {ao:Option Addr} {n cap:Nat} {zs:List Int} (h:Rd k w (.slice ao n cap) zs) (m:Nat) (hm:m≤zs.length):Rd k w (.slice ao m cap) (zs.take m):=by
 obtain ⟨ao',cap',hv,h1,h2,h3⟩:=h
 cases hv
 refine ⟨ao,cap,by rw [List.length_take,Nat.min_eq_left hm],by rw [List.length_take];omega,h2,fun hn=>?_⟩
 obtain ⟨b,off,ha,hb,hc⟩:=h3 (fun h=>hn (by rw [h];simp))
 refine ⟨b,off,ha,hb,fun i hi=>?_⟩
 rw [List.length_take] at hi
 rw [hc i (by omega),List.getElem?_take,if_pos (by omega)]
end Go.Proofs.YtdkpkncolpapoaaGreat

namespace Go.Proofs.YtdkpkncolpapoaaGreat
open Go.RowKit
theorem row_any (c:Int) (w:World) (h:0≤c) (h':c≤255):Calls Tryz.prog 185 #[.int .u8 c] w fun e w'=>e=.returned (.tuple #[.int .i64 (Cx.rowN c),.int .u8 (Cx.rowLo c),.int .u8 (Cx.rowHi c)])∧w'=w:=by
 have fin:∀ (n lo hi:Int),Cx.rowN c=n→Cx.rowLo c=lo→Cx.rowHi c=hi→Calls Tryz.prog 185 #[.int .u8 c] w (fun e w'=>e=.returned (.tuple #[.int .i64 n,.int .u8 lo,.int .u8 hi])∧w'=w) →
   Calls Tryz.prog 185 #[.int .u8 c] w fun e w'=>e=.returned (.tuple #[.int .i64 (Cx.rowN c),.int .u8 (Cx.rowLo c),.int .u8 (Cx.rowHi c)])∧w'=w:=by
  intro n lo hi e1 e2 e3 h;rw [e1,e2,e3];exact h
 rcases (show c≤127∨(128≤c∧c < 194)∨(194≤c∧c≤223)∨c=224∨(225≤c∧c≤236)∨c=237∨(238≤c∧c≤239)∨c=240∨(241≤c∧c≤243)∨c=244∨(245≤c∧c≤255) from by omega) with g | ⟨g,g'⟩ | ⟨g,g'⟩ | g | ⟨g,g'⟩ | g | ⟨g,g'⟩ | g | ⟨g,g'⟩ | g | ⟨g,g'⟩
 ·refine fin 1 0 0 (by unfold Cx.rowN;rw [if_pos g]) (by unfold Cx.rowLo;rw [if_pos (by omega)]) (by unfold Cx.rowHi;rw [if_pos (by omega)]) ?_
  go_enter Tryz.func185,Tryz.ntmps185;go_wp2;go_ret3;exact ⟨rfl,rfl⟩
 ·refine fin 0 0 0 (by unfold Cx.rowN;rw [if_neg (by omega),if_pos (by omega)]) (by unfold Cx.rowLo;rw [if_pos (by omega)]) (by unfold Cx.rowHi;rw [if_pos (by omega)]) ?_
  go_enter Tryz.func185,Tryz.ntmps185;go_wp2;go_ret3;exact ⟨rfl,rfl⟩
 ·refine fin 2 128 191 (by unfold Cx.rowN;repeat' split <;> omega) (by unfold Cx.rowLo;repeat' split <;> omega) (by unfold Cx.rowHi;repeat' split <;> omega) ?_
  go_enter Tryz.func185,Tryz.ntmps185;go_wp2;go_ret3;exact ⟨rfl,rfl⟩
 ·subst g;refine fin 3 160 191 rfl rfl rfl ?_
  go_enter Tryz.func185,Tryz.ntmps185;go_wp2;go_ret3;exact ⟨rfl,rfl⟩
 ·refine fin 3 128 191 (by unfold Cx.rowN;repeat' split <;> omega) (by unfold Cx.rowLo;repeat' split <;> omega) (by unfold Cx.rowHi;repeat' split <;> omega) ?_
  go_enter Tryz.func185,Tryz.ntmps185;go_wp2;go_ret3;exact ⟨rfl,rfl⟩
 ·subst g;refine fin 3 128 159 rfl rfl rfl ?_
  go_enter Tryz.func185,Tryz.ntmps185;go_wp2;go_ret3;exact ⟨rfl,rfl⟩
 ·refine fin 3 128 191 (by unfold Cx.rowN;repeat' split <;> omega) (by unfold Cx.rowLo;repeat' split <;> omega) (by unfold Cx.rowHi;repeat' split <;> omega) ?_
  go_enter Tryz.func185,Tryz.ntmps185;go_wp2;go_ret3;exact ⟨rfl,rfl⟩
 ·subst g;refine fin 4 144 191 rfl rfl rfl ?_
  go_enter Tryz.func185,Tryz.ntmps185;go_wp2;go_ret3;exact ⟨rfl,rfl⟩
 ·refine fin 4 128 191 (by unfold Cx.rowN;repeat' split <;> omega) (by unfold Cx.rowLo;repeat' split <;> omega) (by unfold Cx.rowHi;repeat' split <;> omega) ?_
  go_enter Tryz.func185,Tryz.ntmps185;go_wp2;go_ret3;exact ⟨rfl,rfl⟩
 ·subst g;refine fin 4 128 143 rfl rfl rfl ?_
  go_enter Tryz.func185,Tryz.ntmps185;go_wp2;go_ret3;exact ⟨rfl,rfl⟩
 ·refine fin 0 0 0 (by unfold Cx.rowN;repeat' split <;> omega) (by unfold Cx.rowLo;repeat' split <;> omega) (by unfold Cx.rowHi;repeat' split <;> omega) ?_
  go_enter Tryz.func185,Tryz.ntmps185;go_wp2;go_ret3;exact ⟨rfl,rfl⟩
theorem ret_int' {k:IntKind} {a b:Int} (h:a=b):Ending.returned (.int k a)=.returned (.int k b):=by rw [h]
theorem rawAtom_any (c:Int) (w:World) (h:0≤c) (h':c≤255):Calls Tryz.prog 180 #[.int .u8 c] w fun e w'=>e=.returned (.int .i64 (-1 - c))∧w'=w:=by
 go_enter Tryz.func180,Tryz.ntmps180
 go_wp2
 go_ret
 exact ⟨rfl,rfl⟩
theorem Byt.at {zs:List Int} (h:Byt zs) (i:Nat):0≤zs[i]?.getD 0∧zs[i]?.getD 0≤255:=by
 by_cases hi:i < zs.length
 ·simp only [hi,List.getElem?_eq_getElem,Option.getD_some]
  exact h _ (List.getElem_mem hi)
 ·simp [List.getElem?_eq_none (show zs.length≤i by omega)]
set_option maxRecDepth 100000 in
theorem match_any (v:Value) (zs:List Int) (w:World) (h:Rd .u8 w v zs) (hb:Byt zs) (hn:zs≠[]) :
  Calls Tryz.prog 178 #[v] w fun e w'=>e=.returned (.int .i64 (Cx.mtch zs))∧w'=w:=by
 have hlen:=h.len
 obtain ⟨ao,cap,rfl,hl,hm,hc⟩:=h
 obtain ⟨b,off,rfl,hbl,hc⟩:=hc hn
 have hpos:0 < zs.length:=List.length_pos_iff.2 hn
 have h0:=hc 0 hpos
 have hb0:=hb.at 0
 rw [Nat.add_zero] at h0
 change 0≤Cx.c0 zs∧Cx.c0 zs≤255 at hb0
 change w.cell? ⟨b,off,none⟩=some (.int .u8 (Cx.c0 zs)) at h0
 have hr:=Cx.rowN_bd (Cx.c0 zs)
 have HY:Hid (∀ k,(∀ j,1≤j→j < k→Cx.okAt zs j=true)→(Cx.rowN (Cx.c0 zs)≤k∨zs.length≤k)→Cx.mtch zs=Cx.rowN (Cx.c0 zs)):=Cx.mtch_yes zs
 have HN:Hid (∀ k:Nat,1≤k→(k:Int) < Cx.rowN (Cx.c0 zs)→k < zs.length→¬ (Cx.loJ (Cx.c0 zs) k≤zs[k]?.getD 0∧zs[k]?.getD 0≤Cx.hiJ (Cx.c0 zs) k)→Cx.mtch zs=0):=Cx.mtch_no zs
 have HO:Hid (∀ k,(Cx.loJ (Cx.c0 zs) k≤zs[k]?.getD 0∧zs[k]?.getD 0≤Cx.hiJ (Cx.c0 zs) k)→Cx.okAt zs k=true):=Cx.okAt_of zs
 have HB:Hid (Byt zs):=hb
 generalize Cx.c0 zs=c at *
 generalize hM:Cx.mtch zs=M at *
 have HC:Hid (∀ i,i < zs.length→w.cell? ⟨b,off + i,none⟩=some (.int .u8 (zs[i]?.getD 0))):=hc
 clear hn hc hb hM hm
 go_enter Tryz.func178,Tryz.ntmps178
 go_wp2_with (go_at_call 185;refine (row_any _ _ hb0.1 hb0.2).mono ?_;rintro e w' ⟨rfl,rfl⟩)
 go_loop [4,5,6] (fun f t i=>∃ k:Nat,1≤k∧k≤4∧i=.int .i64 k∧f=.int .u8 (Cx.loJ c k)∧t=.int .u8 (Cx.hiJ c k)∧Hid (∀ j,1≤j→j < k→Cx.okAt zs j=true)) (fun _ _ i=>5 - (intOf i).toNat)
 case atStart=>exact ⟨1,Nat.le_refl _,by omega,rfl,rfl,rfl,fun j h1 h2=>by omega⟩
 case round =>
  obtain ⟨k,hk1,hk2,rfl,rfl,rfl,HJ⟩:=hrel
  by_cases hr1:(k:Int) < Cx.rowN c
  ·by_cases hl1:k < zs.length
   ·have hx:=HC.out k hl1
    have hxb:=HB.out.at k
    have HN':=HN.out k hk1 hr1 hl1
    have HO':=HO.out k
    generalize zs[k]?.getD 0=x at *
    have HX:Hid (Cx.okAt zs k=true→∀ j,1≤j→j < k + 1→Cx.okAt zs j=true):=fun ho j h1 h2=>by
     by_cases hj:j=k
     ·rw [hj];exact ho
     ·exact HJ.out j h1 (by omega)
    by_cases hlo:Cx.loJ c k≤x
    ·by_cases hhi:x≤Cx.hiJ c k
     ·have HX':Hid (∀ j,1≤j→j < k + 1→Cx.okAt zs j=true):=HX.out (HO' ⟨hlo,hhi⟩)
      have HE1:Hid (Cx.loJ c (k + 1)=128):=by unfold Hid Cx.loJ;rw [if_neg (by omega)]
      have HE2:Hid (Cx.hiJ c (k + 1)=191):=by unfold Hid Cx.hiJ;rw [if_neg (by omega)]
      clear HX HO' HN' HN HO HY HJ HC HB
      go_wp2
      go_round
      case rel=>exact ⟨k + 1,by omega,by omega,by go_num,by rw [HE1.out],by rw [HE2.out],HX'.out⟩
      case measure=>simp [intOf];omega
     ·have HM:Hid (M=0):=HN' (fun h=>hhi h.2)
      clear HX HO' HN' HN HO HY HJ HC HB
      go_wp2
      go_ret
      exact ⟨by rw [HM.out];rfl,rfl⟩
    ·have HM:Hid (M=0):=HN' (fun h=>hlo h.1)
     have hlt:x < Cx.loJ c k:=by omega
     clear HX HO' HN' HN HO HY HJ HC HB
     go_wp2
     go_ret
     exact ⟨by rw [HM.out];rfl,rfl⟩
   ·have HM:Hid (M=Cx.rowN c):=HY.out k HJ.out (.inr (by omega))
    clear HN HO HY HJ HC HB
    go_wp2
    go_ret
    exact ⟨by rw [HM.out];rfl,rfl⟩
  ·have HM:Hid (M=Cx.rowN c):=HY.out k HJ.out (.inl (by omega))
   clear HN HO HY HJ HC HB
   go_wp2
   go_ret
   exact ⟨by rw [HM.out];rfl,rfl⟩
theorem wraps_i64 (n:Int) (h₀:0≤n) (h₁:n < 2 ^ 63):IntKind.i64.wrap n=n:=by rw [IntKind.wrap_i64];omega
theorem and31 {x:Int} (h0:0≤x) (h1:x < 256):bits .and .i64 x 31=x % 32:=bits_mask .i64 63 (by decide) wraps_i64 5 (by decide) x h0 (by omega)
theorem and15 {x:Int} (h0:0≤x) (h1:x < 256):bits .and .i64 x 15=x % 16:=bits_mask .i64 63 (by decide) wraps_i64 4 (by decide) x h0 (by omega)
theorem and7 {x:Int} (h0:0≤x) (h1:x < 256):bits .and .i64 x 7=x % 8:=bits_mask .i64 63 (by decide) wraps_i64 3 (by decide) x h0 (by omega)
theorem or6 {x y:Int} (hx0:0≤x) (hx:x % 64=0) (hx1:x < 9223372036854775808) (h0:0≤y) (h1:y < 64):bits .or .i64 x y=x + y:=bits_join .i64 63 (by decide) wraps_i64 6 x y hx0 (by omega) (by omega) h0 (by omega) (by omega)
theorem wrap_small {x:Int} (h0:0≤x) (h1:x < 9223372036854775808):wrap64 x=x:=by unfold wrap64;omega
def Cx.Whole (zs:List Int):Prop :=
 (∃ x,zs=[x]∧0≤x∧x≤127)∨(∃ x y,zs=[x,y]∧194≤x∧x≤223∧128≤y∧y≤191) ∨
 (∃ x y z,zs=[x,y,z]∧224≤x∧x≤239∧128≤y∧y≤191∧128≤z∧z≤191) ∨
 (∃ x y z u,zs=[x,y,z,u]∧240≤x∧x≤244∧128≤y∧y≤191∧128≤z∧z≤191∧128≤u∧u≤191)
theorem Cx.whole_of (b:List Int) (hb:Byt b) (h0:0 < Cx.mtch b) (hl:Cx.mtch b≤b.length):Cx.Whole (b.take (Cx.mtch b).toNat):=by
 rcases Cx.row_bytes b hb h0 hl with ⟨x,e,_,r⟩ | ⟨x,y,e,_,r⟩ | ⟨x,y,z,e,_,r1,r2,r3,r4,r5,r6⟩ | ⟨x,y,z,u,e,_,r1,r2,r3,r4,r5,r6,r7,r8⟩
 ·exact .inl ⟨x,e,r⟩
 ·exact .inr (.inl ⟨x,y,e,r⟩)
 ·refine .inr (.inr (.inl ⟨x,y,z,e,r1,r2,?_,?_,r5,r6⟩))
  ·unfold Cx.rowLo at r3;repeat' split at r3
   all_goals omega
  ·unfold Cx.rowHi at r4;repeat' split at r4
   all_goals omega
 ·refine .inr (.inr (.inr ⟨x,y,z,u,e,r1,r2,?_,?_,r5,r6,r7,r8⟩))
  ·unfold Cx.rowLo at r3;repeat' split at r3
   all_goals omega
  ·unfold Cx.rowHi at r4;repeat' split at r4
   all_goals omega
set_option maxRecDepth 100000 in
theorem scalar_any (v:Value) (zs:List Int) (w:World) (h:Rd .u8 w v zs) (hw:Cx.Whole zs) :
  Calls Tryz.prog 179 #[v] w fun e w'=>e=.returned (.int .i64 (Cx.val zs))∧Below w.heap.size w w':=by
 obtain ⟨ao,cap,rfl,hl,hm,hc⟩:=h
 have hm':cap≤9223372036854775807:=hm
 clear hm
 rcases hw with ⟨x,rfl,r1,r2⟩ | ⟨x,y,rfl,r1,r2,r3,r4⟩ | ⟨x,y,z,rfl,r1,r2,r3,r4,r5,r6⟩ | ⟨x,y,z,u,rfl,r1,r2,r3,r4,r5,r6,r7,r8⟩
 ·obtain ⟨b,off,rfl,hbl,hc⟩:=hc (by simp)
  have h0:=hc 0 (by simp)
  simp at h0 hl
  clear hc
  simp only [List.length_cons,List.length_nil]
  go_enter Tryz.func179,Tryz.ntmps179
  go_wp2
  go_ret
  exact ⟨rfl,Below.refl _ _⟩
 ·obtain ⟨b,off,rfl,hbl,hc⟩:=hc (by simp)
  have h0:=hc 0 (by simp)
  have h1:=hc 1 (by simp)
  simp at h0 h1 hl
  clear hc
  simp only [List.length_cons,List.length_nil]
  go_enter Tryz.func179,Tryz.ntmps179
  go_wp2
  go_quiet (fail)
  go_wp2
  refine wp_loop_rounds 2 ?_
  rw [rounds_succ]
  go_wp2
  rw [rounds_succ]
  go_wp2
  go_ret
  refine ⟨ret_int' ?_,below_drewN (Below.refl _ _) _⟩
  rw [and31 (by omega) (by omega),wrap_small (by omega) (by omega),or6 (by omega) (by omega) (by omega) (by omega) (by omega)]
  simp only [Cx.val];omega
 ·obtain ⟨b,off,rfl,hbl,hc⟩:=hc (by simp)
  have h0:=hc 0 (by simp)
  have h1:=hc 1 (by simp)
  have h2:=hc 2 (by simp)
  simp at h0 h1 h2 hl
  rw [show off + 2=off + 1 + 1 from rfl] at h2
  clear hc
  simp only [List.length_cons,List.length_nil]
  go_enter Tryz.func179,Tryz.ntmps179
  go_wp2
  go_quiet (fail)
  go_wp2
  refine wp_loop_rounds 3 ?_
  rw [rounds_succ]
  go_wp2
  rw [rounds_succ]
  go_wp2
  rw [rounds_succ]
  go_wp2
  go_ret
  refine ⟨ret_int' ?_,below_drewN (Below.refl _ _) _⟩
  rw [and15 (by omega) (by omega),wrap_small (x:=x % 16 * 64) (by omega) (by omega),or6 (x:=x % 16 * 64) (by omega) (by omega) (by omega) (by omega) (by omega),wrap_small (by omega) (by omega),or6 (by omega) (by omega) (by omega) (by omega) (by omega)]
  simp only [Cx.val];omega
 ·obtain ⟨b,off,rfl,hbl,hc⟩:=hc (by simp)
  have h0:=hc 0 (by simp)
  have h1:=hc 1 (by simp)
  have h2:=hc 2 (by simp)
  have h3:=hc 3 (by simp)
  simp at h0 h1 h2 h3 hl
  rw [show off + 2=off + 1 + 1 from rfl] at h2
  rw [show off + 3=off + 1 + 2 from rfl] at h3
  clear hc
  simp only [List.length_cons,List.length_nil]
  go_enter Tryz.func179,Tryz.ntmps179
  go_wp2
  go_quiet (fail)
  go_wp2
  refine wp_loop_rounds 4 ?_
  rw [rounds_succ]
  go_wp2
  rw [rounds_succ]
  go_wp2
  rw [rounds_succ]
  go_wp2
  rw [rounds_succ]
  go_wp2
  go_ret
  refine ⟨ret_int' ?_,below_drewN (Below.refl _ _) _⟩
  rw [and7 (by omega) (by omega),wrap_small (x:=x % 8 * 64) (by omega) (by omega),or6 (x:=x % 8 * 64) (by omega) (by omega) (by omega) (by omega) (by omega),wrap_small (x:=(x % 8 * 64 + y % 64) * 64) (by omega) (by omega),or6 (x:=(x % 8 * 64 + y % 64) * 64) (by omega) (by omega) (by omega) (by omega) (by omega),wrap_small (by omega) (by omega),or6 (by omega) (by omega) (by omega) (by omega) (by omega)]
  simp only [Cx.val];omega
set_option maxRecDepth 100000 in
theorem first8_any (v:Value) (zs:List Int) (w:World) (h:Rd .u8 w v zs) (hb:Byt zs) (hn:zs≠[]) :
  Calls Tryz.prog 172 #[.agg #[],v] w fun e w'=>e=.returned (.tuple #[.int .i64 (Cx.first8 zs).1,.int .i64 (Cx.first8 zs).2])∧Below w.heap.size w w':=by
 have HR:Hid (Rd .u8 w v zs):=h
 have HB:Hid (Byt zs):=hb
 have HNE:Hid (zs≠[]):=hn
 have hlen:=h.len
 have hmb:=Cx.mtch_bd zs
 have hb0:=hb.at 0
 change 0≤Cx.c0 zs∧Cx.c0 zs≤255 at hb0
 obtain ⟨ao,cap,rfl,hl,hm,hc⟩:=h
 obtain ⟨b,off,rfl,hbl,hc⟩:=hc hn
 have hpos:0 < zs.length:=List.length_pos_iff.2 hn
 have h0:=hc 0 hpos
 rw [Nat.add_zero] at h0
 change w.cell? ⟨b,off,none⟩=some (.int .u8 (Cx.c0 zs)) at h0
 have h0':∀ o:Obj,(w.alloc o).cell? ⟨b,off,none⟩=some (.int .u8 (Cx.c0 zs)):=fun o=>((Below.refl w.heap.size w).alloc (Nat.le_refl _) o |>.cell (p:=⟨b,off,none⟩) hbl).trans h0
 clear hn hc hb hm
 by_cases hs:0 < Cx.mtch zs∧Cx.mtch zs≤zs.length
 ·have HW:Hid (Cx.Whole (zs.take (Cx.mtch zs).toNat)):=Cx.whole_of zs HB.out hs.1 hs.2
  have HE:Hid (Cx.first8 zs=(Cx.val (zs.take (Cx.mtch zs).toNat),Cx.mtch zs)):=by unfold Hid Cx.first8;rw [if_pos hs]
  have HT:Hid (Rd .u8 w (.slice (some ⟨b,off,none⟩) (Cx.mtch zs).toNat cap) (zs.take (Cx.mtch zs).toNat)):=HR.out.take _ (by omega)
  obtain ⟨hs1,hs2⟩:=hs
  go_enter Tryz.func172,Tryz.ntmps172
  go_wp2_with fail
  refine (match_any _ zs _ (HR.out.ext ((Below.refl _ _).alloc (Nat.le_refl _) _)) HB.out HNE.out).mono ?_
  rintro e w' ⟨rfl,rfl⟩
  go_wp2_with fail
  refine (scalar_any _ _ _ (HT.out.ext ((Below.refl _ _).alloc (Nat.le_refl _) _)) HW.out).mono ?_
  rintro e w1 ⟨rfl,hb1⟩
  go_wp2
  go_ret2
  exact ⟨by rw [HE.out];rfl,ext_trans ((Below.refl _ _).alloc (Nat.le_refl _) _) hb1⟩
 ·have HE:Hid (Cx.first8 zs=(-1 - Cx.c0 zs,1)):=by unfold Hid Cx.first8;rw [if_neg hs]
  by_cases hs1:0 < Cx.mtch zs
  ·have hs2:¬ Cx.mtch zs≤zs.length:=fun h=>hs ⟨hs1,h⟩
   clear hs
   go_enter Tryz.func172,Tryz.ntmps172
   go_wp2_with fail
   refine (match_any _ zs _ (HR.out.ext ((Below.refl _ _).alloc (Nat.le_refl _) _)) HB.out HNE.out).mono ?_
   rintro e w' ⟨rfl,rfl⟩
   go_wp2_with fail
   refine (rawAtom_any _ _ hb0.1 hb0.2).mono ?_
   rintro e w1 ⟨rfl,rfl⟩
   go_wp2
   go_ret2
   exact ⟨by rw [HE.out];rfl,(Below.refl _ _).alloc (Nat.le_refl _) _⟩
  ·clear hs
   go_enter Tryz.func172,Tryz.ntmps172
   go_wp2_with fail
   refine (match_any _ zs _ (HR.out.ext ((Below.refl _ _).alloc (Nat.le_refl _) _)) HB.out HNE.out).mono ?_
   rintro e w' ⟨rfl,rfl⟩
   go_wp2_with fail
   refine (rawAtom_any _ _ hb0.1 hb0.2).mono ?_
   rintro e w1 ⟨rfl,rfl⟩
   go_wp2
   go_ret2
   exact ⟨by rw [HE.out];rfl,(Below.refl _ _).alloc (Nat.le_refl _) _⟩
end Go.Proofs.YtdkpkncolpapoaaGreat

namespace Go.Proofs.YtdkpkncolpapoaaGreat
open Go.RowKit
def Cx.wv (k:Int) (zs:List Int):Int:=if k=0 then zs[1]?.getD 0 * 256 + zs[0]?.getD 0 else zs[0]?.getD 0 * 256 + zs[1]?.getD 0
theorem Cx.wv_bd (k:Int) (zs:List Int) (hb:Byt zs):0≤Cx.wv k zs∧Cx.wv k zs≤65535:=by
 have:=hb.at 0
 have:=hb.at 1
 unfold Cx.wv;split <;> omega
theorem or8 {x y:Int} (hx0:0≤x) (hx:x % 256=0) (hx1:x < 9223372036854775808) (h0:0≤y) (h1:y < 256):bits .or .i64 x y=x + y:=bits_join .i64 63 (by decide) wraps_i64 8 x y hx0 (by omega) (by omega) h0 (by omega) (by omega)
set_option maxRecDepth 100000 in
theorem unitW_any (k:Int) (v:Value) (zs:List Int) (w:World) (h:Rd .u8 w v zs) (hb:Byt zs) (hk:k=0∨k=1) (h2:2≤zs.length) :
  Calls Tryz.prog 195 #[.agg #[.int .i64 k],v] w fun e w'=>e=.returned (.int .i64 (Cx.wv k zs))∧∃ n,w'=(w.alloc (.cells #[.int .i64 k] 177)).drewN n:=by
 have hlen:=h.len
 obtain ⟨ao,cap,rfl,hl,hm,hc⟩:=h
 obtain ⟨b,off,rfl,hbl,hc⟩:=hc (List.length_pos_iff.1 (by omega))
 have h0:=hc 0 (by omega)
 have h1:=hc 1 (by omega)
 have hb0:=hb.at 0
 have hb1:=hb.at 1
 have HE:Hid (Cx.wv k zs=if k=0 then zs[1]?.getD 0 * 256 + zs[0]?.getD 0 else zs[0]?.getD 0 * 256 + zs[1]?.getD 0):=rfl
 generalize Cx.wv k zs=R at *
 generalize zs[0]?.getD 0=x at *
 generalize zs[1]?.getD 0=y at *
 rw [Nat.add_zero] at h0
 have h0':∀ o:Obj,(w.alloc o).cell? ⟨b,off,none⟩=some (.int .u8 x):=fun o=>((Below.refl w.heap.size w).alloc (Nat.le_refl _) o |>.cell (p:=⟨b,off,none⟩) hbl).trans h0
 have h1':∀ o:Obj,(w.alloc o).cell? ⟨b,off + 1,none⟩=some (.int .u8 y):=fun o=>((Below.refl w.heap.size w).alloc (Nat.le_refl _) o |>.cell (p:=⟨b,off + 1,none⟩) hbl).trans h1
 have hg0:(0:Int) < (zs.length:Int):=by omega
 have hg1:(1:Int) < (zs.length:Int):=by omega
 clear hc hb hm h0 h1
 rcases hk with rfl | rfl
 ·rw [if_pos rfl] at HE
  go_enter Tryz.func195,Tryz.ntmps195
  go_wp2
  go_quiet (fail)
  go_wp2
  go_ret
  refine ⟨ret_int' ?_,_,rfl⟩
  rw [HE.out]
  rw [or8 (by omega) (by omega) (by omega) (by omega) (by omega)]
 ·rw [if_neg (by omega)] at HE
  go_enter Tryz.func195,Tryz.ntmps195
  go_wp2
  go_quiet (fail)
  go_wp2
  go_ret
  refine ⟨ret_int' ?_,_,rfl⟩
  rw [HE.out]
  rw [or8 (by omega) (by omega) (by omega) (by omega) (by omega)]
def Cx.hiU (a:Int):Bool:=decide (55296≤a) && decide (a < 56320)
def Cx.loU (a:Int):Bool:=decide (56320≤a) && decide (a≤57343)
theorem isHigh_any (a:Int) (w:World):Calls Tryz.prog 197 #[.int .i64 a] w fun e w'=>e=.returned (.bool (Cx.hiU a))∧w'=w:=by
 unfold Cx.hiU
 by_cases h1:55296≤a
 ·go_enter Tryz.func197,Tryz.ntmps197
  go_wp2
  go_ret
  exact ⟨by rw [decide_eq_true h1,Bool.true_and];rfl,rfl⟩
 ·have hd:decide (55296≤a)=false:=by simp;omega
  go_enter Tryz.func197,Tryz.ntmps197
  go_wp2
  go_ret
  exact ⟨rfl,rfl⟩
theorem isLow_any (a:Int) (w:World):Calls Tryz.prog 198 #[.int .i64 a] w fun e w'=>e=.returned (.bool (Cx.loU a))∧w'=w:=by
 unfold Cx.loU
 by_cases h1:56320≤a
 ·go_enter Tryz.func198,Tryz.ntmps198
  go_wp2
  go_ret
  exact ⟨by rw [decide_eq_true h1,Bool.true_and];rfl,rfl⟩
 ·have hd:decide (56320≤a)=false:=by simp;omega
  go_enter Tryz.func198,Tryz.ntmps198
  go_wp2
  go_ret
  exact ⟨rfl,rfl⟩
theorem ext_alloc {a w:World} (h:Below a.heap.size a w) (o:Obj):Below a.heap.size a (w.alloc o):=h.alloc h.size o
theorem two_new {w w':World} {o o':Obj} {n:Nat} (h:w'=((w.alloc o).alloc o').drewN n):Below w.heap.size w w':=by
 subst h;exact below_drewN (((Below.refl _ _).alloc (Nat.le_refl _) _).alloc (by simp) _) _
theorem one_new {w w':World} {o:Obj} {n:Nat} (h:w'=(w.alloc o).drewN n):Below w.heap.size w w':=by
 subst h;exact below_drewN ((Below.refl _ _).alloc (Nat.le_refl _) _) _
theorem Rd.drop {k:IntKind} {w:World} {b off n cap:Nat} {zs:List Int} (h:Rd k w (.slice (some ⟨b,off,none⟩) n cap) zs) (m:Nat) (hm:m < zs.length):Rd k w (.slice (some ⟨b,off + m,none⟩) (n - m) (cap - m)) (zs.drop m):=by
 obtain ⟨ao',cap',hv,h1,h2,h3⟩:=h
 cases hv
 refine ⟨_,cap - m,by rw [List.length_drop],by rw [List.length_drop];omega,by omega,fun hn=>?_⟩
 obtain ⟨b',off',ha,hb,hc⟩:=h3 (fun h=>by rw [h] at hm;simp at hm)
 cases ha
 refine ⟨b,off + m,rfl,hb,fun i hi=>?_⟩
 rw [List.length_drop] at hi
 rw [Nat.add_assoc,hc (m + i) (by omega),List.getElem?_drop]
def Cx.isP (k:Int) (zs:List Int):Bool:=decide (4≤zs.length) && Cx.hiU (Cx.wv k zs) && Cx.loU (Cx.wv k (zs.drop 2))
set_option maxRecDepth 100000 in
set_option maxHeartbeats 1000000 in
theorem isPair_any (k:Int) (v:Value) (zs:List Int) (w:World) (h:Rd .u8 w v zs) (hb:Byt zs) (hk:k=0∨k=1) (h2:2≤zs.length) :
  Calls Tryz.prog 193 #[.agg #[.int .i64 k],v] w fun e w'=>e=.returned (.bool (Cx.isP k zs))∧Below w.heap.size w w':=by
 have HR:Hid (Rd .u8 w v zs):=h
 have HB:Hid (Byt zs):=hb
 have HK:Hid (k=0∨k=1):=hk
 have hlen:=h.len
 obtain ⟨ao,cap,rfl,hl,hm,hc⟩:=h
 obtain ⟨b,off,rfl,hbl,hc⟩:=hc (List.length_pos_iff.1 (by omega))
 clear hm hk hb
 by_cases h4:4≤zs.length
 ·have HD:Hid (Rd .u8 w (.slice (some ⟨b,off + 2,none⟩) (zs.length - 2) (cap - 2)) (zs.drop 2)):=HR.out.drop 2 (by omega)
  have hi4:(4:Int)≤(zs.length:Int):=by omega
  cases hH:Cx.hiU (Cx.wv k zs)
  ·have HE:Hid (Cx.isP k zs=false):=by unfold Hid Cx.isP;rw [hH,Bool.and_false,Bool.false_and]
   clear hc
   go_enter Tryz.func193,Tryz.ntmps193
   go_wp2_with fail
   first | go_region_with (first | (go_at_call 197;refine (isHigh_any _ _).mono ?_;rintro e w' ⟨rfl,rfl⟩;rw [hH]) | (go_at_call_of 195 (Value.slice (some { block:=b,off:=off }) zs.length cap);refine (unitW_any k _ zs _ ?_ HB.out HK.out h2).mono ?_;exact HR.out.ext ((Below.refl _ _).alloc (Nat.le_refl _) _).drew;rintro e w' ⟨rfl,n1,rfl⟩)) | fail
   all_goals
    go_wp2
    go_ret
    exact ⟨by rw [HE.out];rfl,(by repeat (first | exact Below.refl _ _ | apply below_drewN | refine ext_alloc ?_ _ | apply Below.drew))⟩
  ·cases hL:Cx.loU (Cx.wv k (zs.drop 2))
   ·have HE:Hid (Cx.isP k zs=false):=by unfold Hid Cx.isP;rw [hL,Bool.and_false]
    clear hc
    go_enter Tryz.func193,Tryz.ntmps193
    go_wp2_with fail
    first | go_region_with (first | (go_at_call 197;refine (isHigh_any _ _).mono ?_;rintro e w' ⟨rfl,rfl⟩;rw [hH]) | (go_at_call 198;refine (isLow_any _ _).mono ?_;rintro e w' ⟨rfl,rfl⟩;rw [hL]) | (go_at_call_of 195 (Value.slice (some { block:=b,off:=off }) zs.length cap);refine (unitW_any k _ zs _ ?_ HB.out HK.out h2).mono ?_;exact HR.out.ext ((Below.refl _ _).alloc (Nat.le_refl _) _).drew;rintro e w' ⟨rfl,n1,rfl⟩) | (go_at_call 195;refine (unitW_any k _ (zs.drop 2) _ ?_ (HB.out.drop 2) HK.out ?_).mono ?_;exact HD.out.ext (two_new rfl);(rw [List.length_drop];omega);rintro e w' ⟨rfl,n2,rfl⟩)) | fail
    all_goals
     go_wp2
     go_ret
     exact ⟨by rw [HE.out];rfl,(by repeat (first | exact Below.refl _ _ | apply below_drewN | refine ext_alloc ?_ _ | apply Below.drew))⟩
   ·have HE:Hid (Cx.isP k zs=true):=by unfold Hid Cx.isP;rw [hH,hL,decide_eq_true h4];rfl
    clear hc
    go_enter Tryz.func193,Tryz.ntmps193
    go_wp2_with fail
    first | go_region_with (first | (go_at_call 197;refine (isHigh_any _ _).mono ?_;rintro e w' ⟨rfl,rfl⟩;rw [hH]) | (go_at_call 198;refine (isLow_any _ _).mono ?_;rintro e w' ⟨rfl,rfl⟩;rw [hL]) | (go_at_call_of 195 (Value.slice (some { block:=b,off:=off }) zs.length cap);refine (unitW_any k _ zs _ ?_ HB.out HK.out h2).mono ?_;exact HR.out.ext ((Below.refl _ _).alloc (Nat.le_refl _) _).drew;rintro e w' ⟨rfl,n1,rfl⟩) | (go_at_call 195;refine (unitW_any k _ (zs.drop 2) _ ?_ (HB.out.drop 2) HK.out ?_).mono ?_;exact HD.out.ext (two_new rfl);(rw [List.length_drop];omega);rintro e w' ⟨rfl,n2,rfl⟩)) | fail
    all_goals
     go_wp2
     go_ret
     exact ⟨by rw [HE.out];rfl,(by repeat (first | exact Below.refl _ _ | apply below_drewN | refine ext_alloc ?_ _ | apply Below.drew))⟩
 ·have HE:Hid (Cx.isP k zs=false):=by unfold Hid Cx.isP;rw [decide_eq_false h4];rfl
  have hd:decide ((4:Int)≤(zs.length:Int))=false:=by simp;omega
  clear hc
  go_enter Tryz.func193,Tryz.ntmps193
  go_wp2
  go_quiet (fail)
  go_wp2
  go_ret
  exact ⟨by rw [HE.out];rfl,(by repeat (first | exact Below.refl _ _ | apply below_drewN | refine ext_alloc ?_ _ | apply Below.drew))⟩
end Go.Proofs.YtdkpkncolpapoaaGreat
