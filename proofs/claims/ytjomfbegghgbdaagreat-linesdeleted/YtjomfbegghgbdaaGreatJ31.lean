import Derived.Test.YtjomfbegghgbdaaGreatJ00
import Derived.Test.YtjomfbegghgbdaaGreatJ27
import Derived.Test.YtjomfbegghgbdaaGreatJ30
namespace Go.Proofs.YtjomfbegghgbdaaGreat
open Go.ChangeShapes Go.WideShapes Go.ChangeAt Go.RowKit
theorem cSb:Tryz.prog.cellsOf 22=1:=by kernel_rfl
theorem cIn:Tryz.prog.cellsOf 3=1:=by kernel_rfl
theorem cSt:Tryz.prog.cellsOf 24=2:=by kernel_rfl
set_option maxRecDepth 100000 in
theorem start_of {H:Type} {enc:TypeId × Value→H} {W:World} {base:Nat} {v:Value} {d:DataW H} {p:List MemPlace} (hv:Value.okWide Tryz.prog W .any base 24 v)
  (h:DataW.Trod enc Tryz.prog W 0 (fun _=>true) true 24 v d p):∃ x ad nd cd D,v=.agg #[.int .i64 x,.slice ad nd cd]∧Rd .u8 W (.slice ad nd cd) D∧Byt D:=by
 obtain ⟨cs,rfl,hs⟩:=okWide_struct Tryz.underlying24 hv
 obtain ⟨fuel,hf⟩:=h
 have hc:(Value.agg cs).cells=cs:=by simp [Value.cells]
 rw [hc] at hf
 obtain ⟨xs,n,rfl,hx,hl,hxl,hall⟩:=DataW.trod_struct Tryz.underlying24 hf
 match xs,hxl with
 | [x0,x1],_ =>
   obtain ⟨k0,e0,r0,w0⟩:=DataW.trod_int Tryz.underlying3 (hall 0 _ rfl)
   have h1:=hall 1 _ rfl
   have e0':(cs.toList.drop 0).take (Tryz.prog.cellsOf 3)=[.int .i64 k0]:=e0
   have h1':DataW.trod enc Tryz.prog W 0 (fun _=>true) true n 22 ((cs.toList.drop 1).take (Tryz.prog.cellsOf 22))=some x1:=h1
   rw [cSt] at hl
   rw [cIn] at e0'
   rw [cSb] at h1'
   obtain ⟨l⟩:=cs
   match l,hl with
   | [c0,c1],_ =>
     simp at e0'
     subst e0'
     simp only [List.drop_succ_cons,List.drop_zero,List.take_succ_cons,List.take_zero] at h1'
     have hsl:∃ ao len cap,c1=.slice ao len cap:=by
      rcases DataW.trod_slice Tryz.underlying22 h1' with ⟨hcs,_⟩ | ⟨x,l,k,elems,rest,n,_,hcs,_⟩
      ·exact ⟨none,0,0,by simpa using hcs⟩
      ·exact ⟨some x,l,k,by simpa using hcs⟩
     obtain ⟨ao,len,cap,rfl⟩:=hsl
     obtain ⟨zs,hr,hw,_⟩:=rd_of (enc:=enc) (d:=x1.1) (p:=x1.2) Tryz.underlying22 Tryz.underlying5 (by kernel_rfl) ⟨n,by simpa [Value.cells] using h1'⟩
     exact ⟨k0,ao,len,cap,zs,rfl,hr,byt_of hw⟩
end Go.Proofs.YtjomfbegghgbdaaGreat
