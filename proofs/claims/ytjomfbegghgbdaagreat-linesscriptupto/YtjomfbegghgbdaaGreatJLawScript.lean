import Derived.Test.YtjomfbegghgbdaaGreatK50
import Derived.Test.YtjomfbegghgbdaaGreatK46
import Derived.Test.YtjomfbegghgbdaaGreatK48
set_option maxRecDepth 100000
namespace Go.Proofs.YtjomfbegghgbdaaGreat
open Go.ChangeShapes Go.WideShapes Go.ChangeAt Go.RowKit
theorem P.ask_linesScript:P.Ask (fun o=>o.put.length≤1048576) 2 9:=fun enc w g t A m o v h _ hk hp hv hl hh=>⟨fun e=>by
 rcases e with e | e | e
 ·exact P.counts_two enc w g t A m o v h e hv
 ·exact P.counts_five enc w g t A m o v h e hv
 ·exact P.counts_six enc w g t A m o v h e hv,fun _=>P.ats_any enc w g t A m o v h hv,fun _=>P.alls_any enc w g t A m o v h hv,fun _=>P.typeds_any enc w g t A m o v h hk hp,fun _=>P.wholes_any enc w g t A m o v h hv⟩
theorem P.linesScript_any (x1 x2:Int) (ad1 ad2:Option Addr) (nd1 cd1 nd2 cd2:Nat) (D1 D2:List Int) (v:Value) (os:List P.Opv) (w:World) (hD1:Rd .u8 w (.slice ad1 nd1 cd1) D1) (hB1:Byt D1) (hD2:Rd .u8 w (.slice ad2 nd2 cd2) D2) (hB2:Byt D2) (hO:P.RdO w v os) (hU:∀ o ∈ os,o.put.length≤1048576) :
  Calls Tryz.prog 17 #[.agg #[.int .i64 x1,.slice ad1 nd1 cd1],.agg #[.int .i64 x2,.slice ad2 nd2 cd2],v] w fun e w'=>e=.returned (.bool true)∧Below w.heap.size w w':=by
 have RU:P.Hid (∀ w',Below w.heap.size w w'→Calls Tryz.prog 49 #[.agg #[.int .i64 x1,.slice ad1 nd1 cd1],.agg #[.int .i64 x2,.slice ad2 nd2 cd2],v,.int .i64 2,.int .i64 9] w' fun e w''=>e=.returned (.bool true)∧Below w'.heap.size w' w''):=fun w' hb=>P.run_any (fun o=>o.put.length≤1048576) 2 9 P.ask_linesScript x1 x2 ad1 ad2 nd1 cd1 nd2 cd2 D1 D2 v os w' (hD1.ext hb) hB1 (hD2.ext hb) hB2 (hO.ext hb) hU
 have HB:=P.zh (show Below w.heap.size w ((w.alloc (.cells #[.int .i64 x1,.slice ad1 nd1 cd1] 24)).alloc (.cells #[.int .i64 x2,.slice ad2 nd2 cd2] 24)) from zxa (zxa (Below.refl _ _) _) _)
 clear hD1 hD2 hB1 hB2 hO
 go_enter Tryz.func17,Tryz.ntmps17
 go_wp2_with (go_at_call 49;refine (RU.out _ HB.out).mono ?_;rintro e w1 ⟨rfl,hb⟩;have HB1:=P.zh (zxt HB.out hb);clear hb;(try dsimp only))
 go_ret
 exact ⟨rfl,HB1.out⟩
theorem linesScript_contract (H:Type) (enc:TypeId × Value→H) (W:World) (base:Nat) (args:Array Value) (ds gs:List (DataW H)) (before:List MemPlace)
  (hval:∀ (j:Nat) t v,Tryz.f17.params[j]?=some t→args[j]?=some v→Value.okWide Tryz.prog W .any base t v)
  (hW:DataW.Whole enc Tryz.prog Tryz.f17.params.toList Rows.linesScriptSpec.vars false W args.toList ds gs before) (hk:Rows.uptoSmall H (ds ++ gs)=true) :
  Calls Tryz.prog 17 args W fun e W'=>∃ v,e=.returned v∧Rows.linesScriptSpec.post enc Tryz.prog Tryz.f17 false true false false W args v W':=by
 have hW':=hW
 obtain ⟨p,q,hA0,hV,rfl,hfz,hnd⟩:=hW
 have hA:DataW.TrodAll enc Tryz.prog W 0 (fun _=>true) true Tryz.f17.params.toList args.toList ds p:=hA0
 rw [Tryz.params17] at hA hval
 obtain ⟨v0,vs0,d0,ds0,p0,q0,hargs,rfl,rfl,h0,r0⟩:=trodAll_cons hA
 obtain ⟨v1,vs1,d1,ds1,p1,q1,rfl,rfl,rfl,h1,r1⟩:=trodAll_cons r0
 obtain ⟨v2,vs2,d2,ds2,p2,q2,rfl,rfl,rfl,h2,r2⟩:=trodAll_cons r1
 obtain ⟨rfl,rfl,rfl⟩:=trodAll_nil r2
 obtain rfl:args=#[v0,v1,v2]:=by cases args;simp_all
 obtain ⟨rfl,rfl⟩:=trodVars_none hV
 have k0:=h0
 have lt0:∀ x ∈ p0,x.block < W.heap.size:=by obtain ⟨m,hm⟩:=k0;exact DataW.trod_lt m _ _ _ hm
 obtain ⟨x1,ad1,nd1,cd1,D1,rfl,hD1,hB1⟩:=start_of (hval 0 24 v0 rfl rfl) h0
 have k1:=h1
 have lt1:∀ x ∈ p1,x.block < W.heap.size:=by obtain ⟨m,hm⟩:=k1;exact DataW.trod_lt m _ _ _ hm
 obtain ⟨x2,ad2,nd2,cd2,D2,rfl,hD2,hB2⟩:=start_of (hval 1 24 v1 rfl rfl) h1
 obtain ⟨a2,len2,cap2,rfl⟩:=okWide_slice Tryz.underlying25 (hval 2 25 v2 rfl rfl)
 have k2:=h2
 have lt2:∀ x ∈ p2,x.block < W.heap.size:=by obtain ⟨m,hm⟩:=k2;exact DataW.trod_lt m _ _ _ hm
 obtain ⟨os,hO,hU⟩:=ops_ofB h2 (Nat.le_trans (bulk_part (by simp)) (bulk_bound hk))
 clear hA0
 refine (P.linesScript_any x1 x2 ad1 ad2 nd1 cd1 nd2 cd2 D1 D2 _ os W hD1 hB1 hD2 hB2 hO hU).mono fun e W' ⟨he,bel⟩=>?_
 subst he
 exact ⟨_,rfl,_,_,_,[],_,[],hW',trodAll_mk1 (shut_bool Tryz.underlying4 _),(trodAll_cons_mk (Below.trod laidOutK (by kernel_rfl) (of_decide_eq_true (by kernel_rfl)) k0 bel lt0) (trodAll_cons_mk (Below.trod laidOutK (by kernel_rfl) (of_decide_eq_true (by kernel_rfl)) k1 bel lt1) (trodAll_cons_mk (Below.trod laidOutK (by kernel_rfl) (of_decide_eq_true (by kernel_rfl)) k2 bel lt2) trodAll_mk0))),rfl,bel.frame _,fun h=>by cases h⟩
theorem linesScript_lifted (os:Os) (started:os.Started) (H:Type) (enc:TypeId × Value→H) (F0:Stop.Interp) :
  ReturnsInHanded {} Tryz.checked os 17 .any ((Rows.OpenSpec.upto Rows.linesScriptSpec).pre6 enc Tryz.prog Tryz.f17 Rows.linesScriptUptoRow.domain false) (((Rows.OpenSpec.upto Rows.linesScriptSpec).at F0).post enc Tryz.prog Tryz.f17 false true false false):=by
 refine returnsInHanded_of_cond (C:=Tryz.checked) (s:=Rows.OpenSpec.upto Rows.linesScriptSpec) (k:=Rows.uptoSmall) rfl ownK started (by kernel_rfl) Tryz.func17
  (OpenSpec.witness (enc:=enc) (C:=Tryz.checked) (s:=Rows.OpenSpec.upto Rows.linesScriptSpec) (k:=Rows.uptoSmall) rfl false ⟨#[],#[.agg #[.int .i64 0,.slice none 0 0],.agg #[.int .i64 0,.slice none 0 0],.slice none 0 0],[]⟩ 8 (by kernel_rfl) (by kernel_rfl) (by kernel_rfl)
   (x:=([.agg [.lit (.int .i64 0),.nil],.agg [.lit (.int .i64 0),.nil],.nil],[],[])) (by kernel_rfl) rfl (by kernel_rfl)) ?_
 intro W base args ds gs before hval hW _ hk _
 exact linesScript_contract H enc W base args ds gs before hval hW hk
theorem linesScript_upto:Rows.LinesScriptUptoSaid :=
 OpenClaim.holds_of_cond 17 Tryz.f17 rfl rfl rfl rfl rfl rfl rfl ⟨rfl,rfl,rfl,rfl,rfl⟩ rfl rfl rfl rfl rfl (by kernel_rfl) Tryz.func17 (by kernel_rfl)
  (of_decide_eq_true (by kernel_rfl)) (by unfold Func.isWrapper;first | (rw [if_pos (by decide +kernel)];kernel_rfl) | (rw [if_neg (by decide +kernel)];exact ⟨rfl,rfl⟩))
  (fun os started H enc _ F0=>linesScript_lifted os started H enc F0)
end Go.Proofs.YtjomfbegghgbdaaGreat
