import Derived.Test.YtdhciadajendnaaGreatK34
import Derived.Deep.RegionHeld3
set_option maxRecDepth 100000
namespace Go.Proofs.YtdhciadajendnaaGreat.P
open Go.RowKit
theorem rd_at {k:IntKind} {w:World} {ao:Option Addr} {n c:Nat} {zs:List Int} (h:Rd k w (.slice ao n c) zs) (i:Nat) (hi:i < zs.length):∃ b o,ao=some ⟨b,o,none⟩∧b < w.heap.size∧w.cell? ⟨b,o + i,none⟩=some (.int k (zs[i]?.getD 0))∧n≤c:=by
 obtain ⟨ao',c',e1,h1,_,h3⟩:=h
 simp only [Value.slice.injEq] at e1
 obtain ⟨rfl,rfl,rfl⟩:=e1
 obtain ⟨b,o,rfl,hb,hc⟩:=h3 (by intro e;subst e;simp at hi)
 exact ⟨b,o,rfl,hb,hc i hi,h1⟩
def OwnU (w:World) (base:Nat) (v:Value) (zs:List Int):Prop:=w.ownsRow base 5 1 v zs.length (zs.map (Value.int .u8))
theorem OwnU.form {w:World} {base:Nat} {v:Value} {zs:List Int} (h:OwnU w base v zs):∃ ao cap,v=.slice ao zs.length cap:=by
 rcases h.2 with ⟨rfl,h2⟩ | ⟨g,cap,cur,rfl,_⟩
 ·exact ⟨none,0,by rw [h2]⟩
 ·exact ⟨_,cap,rfl⟩
theorem OwnU.ext {w w':World} {base:Nat} {v:Value} {zs:List Int} (h:OwnU w base v zs) (hb:Below w.heap.size w w'):OwnU w' base v zs:=World.ownsRow.kept (row:=none) h ⟨hb.os,hb.tape,hb.output,hb.size,fun k hk _=>hb.block k hk⟩ (by cases v.ownBlock <;> simp)
section
variable {P:Program} {W:World} {ops:Array Oper} {o:Oper} {a:Act} {K:Act→World→Prop} {Q:Exit→Act→World→Prop}
theorem wp_append_bys (s x:Operand) (t:TypeId) (ho:o.op=.call { callee:=.builtin .append,args:=#[s,x],argTypes:=#[t,t] })
  (base:Nat) (hinf:(P.info? 5).map (fun i=>(i.zero,i.size,i.bytes))=some (some (.int .u8 0),1,1)) (ht:P.underlying t=some (.slice 5))
  (v:Value) (zs:List Int) (hs:a.eval s=v) (hown:OwnU W base v zs) (ys:List Int) (ad:Addr) (m c:Nat) (hx:a.eval x=.slice (some ad) m c) (hm:m=ys.length)
  (hys:∀ j u,(ys.map (Value.int .u8))[j]?=some u→W.cell? (ad.add j)=some u) (hm0:0 < m) (hl:zs.length + ys.length≤1099511627776) (hbase:base≤W.heap.size)
  (h:∀ v' w',OwnU w' base v' (zs ++ ys)→Below base W w'→K (a.put o.dst v') w'):o.wp P a W K Q:=by
 obtain ⟨i0,hi,hz0,hz1,hz2⟩:=info_parts hinf
 obtain ⟨v',w',hrun,h2,h3,_⟩:=run_append_blk (P:=P) W base t o.type 5 i0 (.int .u8 0) 1 1 ht hi hz0 hz1 hz2 rfl (by decide) v zs.length (zs.map (Value.int .u8)) hown ad m c (ys.map (Value.int .u8)) (by simp [hm]) hys (fun u hu=>by rw [List.mem_map] at hu;obtain ⟨_,_,rfl⟩:=hu;rfl) (by unfold maxLen;omega) (by omega) hbase hm0
 unfold Oper.wp execOp
 simp only [ho,resolve,invoke,builtin,Sem.run_bind,Sem.run_pure,Result.andThen_ok,List.map_toArray,List.map_cons,List.map_nil,hs,hx,hrun]
 refine h v' w' ?_ ((Kps.grown (o:=fun k=>v.ownBlock=some k) h3 (fun k e _=>e)).below hbase (fun k e=>(World.ownsRow.lt hown k e).1))
 unfold OwnU
 rw [List.map_append,List.length_append,← hm]
 exact h2
end
set_option maxHeartbeats 8000000 in
theorem rSize5_any (enc lim:Int) (w:World) (q B:Nat) (va vt vk:Value) (A T:List Int) (h:DTr w q B enc lim va vt vk A T) (hf:∀ a ∈ A,Cx.fits enc a=true) (hl:ln enc A≤65536) :
  Calls Tryz.prog 44 #[.pointer (some ⟨q,0,none⟩)] w fun e w'=>e=.returned (.int .i64 (ln enc A:Nat))∧Below w.heap.size w w':=by
 obtain ⟨aa,ca,rfl⟩:=h.a.form
 have hAl:=ln_ge enc A
 have HH:=zh h
 have HF:=zh hf
 have HL:=zh hl
 obtain ⟨n,hn⟩:∃ n,n=A.length:=⟨_,rfl⟩
 rw [← hn] at HH hAl
 have HN:=zh hn
 have hnb:n≤65536:=by omega
 obtain ⟨x0,_,x2,_,_,_⟩:=cells5t HH.out.x
 clear h hf hl hn hAl
 go_enter Tryz.func44,Tryz.ntmps44
 go_wp2_with fail
 go_loopw [3,4] (fun nv iv wr=>∃ k:Nat,k≤n∧iv=.int .i64 (k:Nat)∧nv=.int .i64 (ln enc (A.take k):Nat)∧Hid (Below w.heap.size w wr)) (fun _ i _=>n - (intOf i).toNat)
 case atStart=>exact ⟨0,Nat.zero_le _,rfl,rfl,Below.refl _ _⟩
 case round =>
  clear x0 x2
  obtain ⟨k,hk,rfl,rfl,HD⟩:=hrel
  obtain ⟨y0,_,y2,_,_,_⟩:=cells5t (HH.out.ext HD.out).x
  by_cases hlt:(k:Int) < (n:Int)
  ·have hkn:k < n:=by omega
   have hkl:k < A.length:=by rw [← HN.out];omega
   obtain ⟨x,hx⟩:∃ x,A[k]?=some x:=⟨_,List.getElem?_eq_getElem hkl⟩
   obtain ⟨g,o9,rfl,hg,cx,_⟩:=rd_at HH.out.a.rd k hkl
   rw [hx,Option.getD_some] at cx
   have hfx:=HF.out x (List.mem_of_getElem? hx)
   obtain ⟨z,hz⟩:∃ z,z=(Cx.put enc x).length:=⟨_,rfl⟩
   have hz4:z≤4:=by rw [hz];exact (Cx.put_len enc x).2
   obtain ⟨s,hs⟩:∃ s,s=ln enc (A.take k):=⟨_,rfl⟩
   have hta:A.take (k + 1)=A.take k ++ [x]:=by rw [List.take_add_one,hx];rfl
   have HS1:Hid (ln enc (A.take (k + 1))=s + z):=by unfold Hid;rw [hta,ln_app,ln_one,hs,hz]
   have hsb:s + z≤65536:=by
    have h1:=HS1.out
    have h2:ln enc A=ln enc (A.take (k + 1)) + ln enc (A.drop (k + 1)):=by rw [← ln_app,List.take_append_drop]
    have h3:=HL.out
    omega
   have HCX:Hid (∀ w',Below w.heap.size w w'→w'.cell? ⟨q,0,none⟩=some (.int .i64 enc)∧w'.cell? ⟨q,2,none⟩=some (.slice (some ⟨g,o9,none⟩) n ca)∧w'.cell? ⟨g,o9 + k,none⟩=some (.int .i64 x)):=fun w' hb=>by
    obtain ⟨c0,_,c2,_⟩:=cells5t (HH.out.ext hb).x
    exact ⟨c0,c2,(hb.cell (p:=⟨g,o9 + k,none⟩) hg).trans cx⟩
   clear cx y0 y2
   obtain ⟨y0,y2,cx⟩:=HCX.out wr HD.out
   have SZ:Hid (∀ w',Calls Tryz.prog 69 #[.int .i64 enc,.int .i64 x] w' fun e w''=>e=.returned (.int .i64 (z:Nat))∧Below w'.heap.size w' w''):=fun w'=>by
    have:=rSize_any enc x w'
    rwa [show Cx.size enc x=((z:Nat):Int) by unfold Cx.size;rw [if_pos hfx,hz]] at this
   have hw:IntKind.i64.wrap ((s:Int) + (z:Int))=((s + z:Nat):Int):=by rw [IntKind.wrap_i64];omega
   rw [← hs]
   clear hs hz hta hfx hx hkl hg
   go_upto_region 5 with fail
   refine wp_region_held_drew (S:=fun w''=>w''.cell? ⟨q,0,none⟩=some (.int .i64 enc)∧w''.cell? ⟨q,2,none⟩=some (.slice (some ⟨g,o9,none⟩) n ca)∧w''.cell? ⟨g,o9 + k,none⟩=some (.int .i64 x)) (by kernel_rfl) (⟨y0,y2,cx⟩) (fun _=>?_)
   refine tkH 0 rfl ?_
   refine tkH 1 rfl ?_
   refine tkH 2 rfl ?_
   refine tkH 3 rfl ?_
   refine tkH 4 rfl ?_
   refine tkH 5 rfl ?_
   refine tkH 6 rfl ?_
   refine tkH 7 rfl ?_
   refine tkH 8 rfl ?_
   refine tkH 9 rfl ?_
   refine tkH 10 rfl ?_
   refine tkH 11 rfl ?_
   refine rdH 12 rfl fun K hK=>?_
   go_simp
   refine (SZ.out _).mono ?_;clear y0 y2 cx;rintro e w2 ⟨rfl,hb⟩;have HB2:=zh (zxt HD.out (zxt (Below.drew (Below.refl wr.heap.size wr)) hb));clear hb;obtain ⟨y0,y2,cx⟩:=HCX.out w2 HB2.out;try dsimp only
   refine hK.out _ _ ?_ (fun _=>?_)
   ·exact HCX.out w2 HB2.out
   clear hK K
   try simp only [Act.put,tS]
   refine tkH 13 rfl ?_
   refine tkH 14 rfl ?_
   refine dnH ?_
   go_wp2_with fail
   go_roundw
   case rel=>exact ⟨k + 1,by omega,by go_num,by rw [HS1.out,Int.natCast_add],HB2.out⟩
   case measure=>simp [intOf];omega
  ·have hke:k=n:=by omega
   have hkn2:¬ k < n:=by omega
   have HT:Hid (A.take k=A):=by unfold Hid;rw [hke,HN.out,List.take_length]
   clear hke
   go_wp2_with fail
   go_ret
   exact ⟨congrArg (fun l=>Ending.returned (Value.int .i64 (ln enc l:Nat))) HT.out,HD.out⟩
set_option maxHeartbeats 8000000 in
theorem rBytes5_any (enc lim:Int) (w:World) (q B:Nat) (va vt vk:Value) (A T:List Int) (h:DTr w q B enc lim va vt vk A T) (hf:∀ a ∈ A,Cx.fits enc a=true) (hl:ln enc A≤65536) :
  Calls Tryz.prog 48 #[.pointer (some ⟨q,0,none⟩)] w fun e w'=>∃ v,e=.returned v∧Hid (OwnU w' w.heap.size v (Cx.encB enc A))∧Below w.heap.size w w':=by
 obtain ⟨aa,ca,rfl⟩:=h.a.form
 have hAl:=ln_ge enc A
 have HH:=zh h
 have HF:=zh hf
 have HL:=zh hl
 obtain ⟨n,hn⟩:∃ n,n=A.length:=⟨_,rfl⟩
 rw [← hn] at HH hAl
 have HN:=zh hn
 have hnb:n≤65536:=by omega
 obtain ⟨x0,_,x2,_,_,_⟩:=cells5t HH.out.x
 clear h hf hl hn hAl
 go_enter Tryz.func48,Tryz.ntmps48
 go_wp2_with fail
 go_loopw [3,4] (fun bv iv wr=>∃ (k:Nat) (ab:Option Addr) (nb cb:Nat),k≤n∧iv=.int .i64 (k:Nat)∧bv=.slice ab nb cb∧nb=ln enc (A.take k)∧Hid (OwnU wr w.heap.size (.slice ab nb cb) (Cx.encB enc (A.take k)))∧Hid (Below w.heap.size w wr)) (fun _ i _=>n - (intOf i).toNat)
 case atStart=>exact ⟨0,none,0,0,Nat.zero_le _,rfl,rfl,rfl,World.ownsRow_nil _ _ _ _,Below.refl _ _⟩
 case round =>
  clear x0 x2
  obtain ⟨k,ab,nb,cb,hk,rfl,rfl,hnl,HO,HD⟩:=hrel
  have HNL:=zh hnl
  clear hnl
  obtain ⟨y0,_,y2,_,_,_⟩:=cells5t (HH.out.ext HD.out).x
  by_cases hlt:(k:Int) < (n:Int)
  ·have hkn:k < n:=by omega
   have hkl:k < A.length:=by rw [← HN.out];omega
   obtain ⟨x,hx⟩:∃ x,A[k]?=some x:=⟨_,List.getElem?_eq_getElem hkl⟩
   obtain ⟨g,o9,rfl,hg,cx,_⟩:=rd_at HH.out.a.rd k hkl
   rw [hx,Option.getD_some] at cx
   have hfx:=HF.out x (List.mem_of_getElem? hx)
   obtain ⟨z,hz⟩:∃ z,z=(Cx.put enc x).length:=⟨_,rfl⟩
   have hz4:z≤4:=by rw [hz];exact (Cx.put_len enc x).2
   obtain ⟨s,hs⟩:∃ s,s=ln enc (A.take k):=⟨_,rfl⟩
   have hta:A.take (k + 1)=A.take k ++ [x]:=by rw [List.take_add_one,hx];rfl
   have HS1:Hid (ln enc (A.take (k + 1))=s + z):=by unfold Hid;rw [hta,ln_app,ln_one,hs,hz]
   have hsb:s + z≤65536:=by
    have h1:=HS1.out
    have h2:ln enc A=ln enc (A.take (k + 1)) + ln enc (A.drop (k + 1)):=by rw [← ln_app,List.take_append_drop]
    have h3:=HL.out
    omega
   have HCX:Hid (∀ w',Below w.heap.size w w'→w'.cell? ⟨q,0,none⟩=some (.int .i64 enc)∧w'.cell? ⟨q,2,none⟩=some (.slice (some ⟨g,o9,none⟩) n ca)∧w'.cell? ⟨g,o9 + k,none⟩=some (.int .i64 x)):=fun w' hb=>by
    obtain ⟨c0,_,c2,_⟩:=cells5t (HH.out.ext hb).x
    exact ⟨c0,c2,(hb.cell (p:=⟨g,o9 + k,none⟩) hg).trans cx⟩
   clear cx y0 y2
   obtain ⟨y0,y2,cx⟩:=HCX.out wr HD.out
   have hz1:1≤z:=by rw [hz];exact (Cx.put_len enc x).1
   have HZ:=zh hz
   have hbd:-256≤x∧x≤1114111∧(enc=4→x≤255):=by
    clear hz hz4 hs hsb hta cx y0 y2
    unfold Cx.fits Cx.isSc at hfx
    repeat' split at hfx
    all_goals simp at hfx
    all_goals omega
   have PU:Hid (∀ w',Calls Tryz.prog 72 #[.int .i64 enc,.int .i64 x] w' fun e w''=>∃ v,e=.returned v∧Hid (Cx.Lit w' w'' v (Cx.put enc x))):=fun w'=>(Put_any enc x w' hbd.1 hbd.2.1 hbd.2.2).mono (fun e w'' ⟨v,h1,h2⟩=>⟨v,h1,h2⟩)
   have HLN:Hid ((Cx.encB enc (A.take k)).length + (Cx.put enc x).length≤65536):=by
    have e:(Cx.encB enc (A.take k)).length=s:=hs.symm
    unfold Hid
    rw [e,← hz]
    exact hsb
   have HEQ:Hid (Cx.encB enc (A.take (k + 1))=Cx.encB enc (A.take k) ++ Cx.put enc x):=by unfold Hid;rw [hta,Cx.encB_app];simp [Cx.encB]
   have HLE:Hid ((Cx.encB enc (A.take k) ++ Cx.put enc x).length=s + z):=by
    have e:(Cx.encB enc (A.take k)).length=s:=hs.symm
    unfold Hid
    rw [List.length_append,e,← hz]
   have hnb2:nb=s:=by rw [HNL.out,hs]
   subst hnb2
   clear hs hz hta hfx hx hkl hg hbd
   go_upto_region 5 with fail
   refine wp_region_held_drew (S:=fun w''=>w''.cell? ⟨q,0,none⟩=some (.int .i64 enc)∧w''.cell? ⟨q,2,none⟩=some (.slice (some ⟨g,o9,none⟩) n ca)∧w''.cell? ⟨g,o9 + k,none⟩=some (.int .i64 x)) (by kernel_rfl) (⟨y0,y2,cx⟩) (fun _=>?_)
   refine tkH 0 rfl ?_
   refine tkH 1 rfl ?_
   refine tkH 2 rfl ?_
   refine tkH 3 rfl ?_
   refine tkH 4 rfl ?_
   refine tkH 5 rfl ?_
   refine tkH 6 rfl ?_
   refine tkH 7 rfl ?_
   refine tkH 8 rfl ?_
   refine tkH 9 rfl ?_
   refine tkH 10 rfl ?_
   refine tkH 11 rfl ?_
   refine rdH 12 rfl fun K hK=>?_
   go_simp
   refine (PU.out _).mono ?_;clear y0 y2 cx;rintro e w2 ⟨v2,rfl,hlit⟩;obtain ⟨g2,rfl,hg2,hh2,hb⟩:=hlit.out;have HB2:=zh (zxt HD.out (zxt (Below.drew (Below.refl wr.heap.size wr)) hb));have HBO:=zh (zxt (Below.drew (Below.refl wr.heap.size wr)) hb);have HH2:=zh hh2;clear hb hh2 hlit;rw [← HZ.out];obtain ⟨y0,y2,cx⟩:=HCX.out w2 HB2.out;try dsimp only
   refine hK.out _ _ ?_ (fun _=>?_)
   ·exact HCX.out w2 HB2.out
   clear hK K
   try simp only [Act.put,tS]
   refine rdH 13 rfl fun K hK=>?_
   rw [if_pos (by rfl)]
   refine wp_append_bys _ _ 22 rfl w.heap.size Tryz.info_u8 Tryz.underlying22 _ (Cx.encB enc (A.take k)) rfl (HO.out.ext HBO.out) (Cx.put enc x) ⟨g2,0,none⟩ z z rfl HZ.out (fun j u hj=>by rw [Addr.add_lit,cell_of_row _ _ _ _ _ _ HH2.out];simpa using hj) hz1 (by have:=HLN.out;omega) HB2.out.size ?_;intro v3 w3 o3 b3;obtain ⟨a3,c3,e3⟩:=OwnU.form o3;rw [HLE.out] at e3;subst e3;have HO3:=zh o3;have HB3:=zh (HB2.out.trans b3);clear o3 b3 y0 y2 cx;obtain ⟨y0,y2,cx⟩:=HCX.out w3 HB3.out;try dsimp only
   refine hK.out _ _ ?_ (fun _=>?_)
   ·exact HCX.out w3 HB3.out
   clear hK K
   try simp only [Act.put,tS]
   refine tkH 14 rfl ?_
   refine dnH ?_
   go_wp2_with fail
   go_roundw
   case rel=>exact ⟨k + 1,a3,nb + z,c3,by omega,by go_num,rfl,HS1.out.symm,by rw [HEQ.out];exact HO3.out,HB3.out⟩
   case measure=>simp [intOf];omega
  ·have hke:k=n:=by omega
   have hkn2:¬ k < n:=by omega
   have HT:Hid (A.take k=A):=by unfold Hid;rw [hke,HN.out,List.take_length]
   clear hke
   go_wp2_with fail
   go_ret
   exact ⟨_,rfl,by have:=HO.out;rw [HT.out] at this;exact this,HD.out⟩
open Go.RowKit
theorem OwnU.rd {w:World} {base:Nat} {v:Value} {zs:List Int} (h:OwnU w base v zs):Rd .u8 w v zs:=Rd.of_own h
theorem RWU {w w':World} {b s:Nat} {zs:List Int} (h:RwU w b 0 zs) (hb:Below w.heap.size w w') (hs:zs.length=s) (hz:s≤65536):Rd .u8 w' (.slice (some ⟨b,0,none⟩) s s) zs:=by
 subst hs
 exact (h.rd zs.length (Nat.le_refl _) (by omega)).ext hb
set_option maxHeartbeats 16000000 in
theorem look0_any (enc lim:Int) (L:List Int) (w:World) (wb t q B:Nat) (ps:List PG) (va vt vk:Value) (c0:w.cell? ⟨wb,0,none⟩=some (.pointer (some ⟨t,0,none⟩))) (c2:w.cell? ⟨wb,2 + 0,none⟩=some (.pointer (some ⟨q,0,none⟩))) (hT:Tx enc lim L w t ps) (hD:DTr w q B enc lim va vt vk (asOf ps) ((sh enc ps).map Prod.snd)) (hf:∀ a ∈ asOf ps,Cx.fits enc a=true) :
  Calls Tryz.prog 21 #[.pointer (some ⟨wb,0,none⟩),.int .i64 0] w fun e w'=>e=.returned (.bool true)∧Below w.heap.size w w':=by
 obtain ⟨aa,ca,rfl⟩:=hD.a.form
 obtain ⟨a9,ct,rfl⟩:=hD.t.form
 have hsl:=sh_len enc ps
 obtain ⟨n,hn⟩:∃ n,n=(asOf ps).length:=⟨_,rfl⟩
 rw [← hn] at hD hsl
 rw [List.length_map,hsl] at hD
 have HLA:Hid ((asOf ps).length=n):=hn.symm
 have HLT:Hid (((sh enc ps).map Prod.snd).length=n):=by unfold Hid;rw [List.length_map,hsl]
 have hsz:=hT.sz
 obtain ⟨s,hs⟩:∃ s,s=ln enc (asOf ps):=⟨_,rfl⟩
 have HLN:Hid ((Cx.encB enc (asOf ps)).length=s):=hs.symm
 have HT:=zh hT
 have HD:=zh hD
 have EN:Hid (∀ w',Below w.heap.size w w'→Calls Tryz.prog 42 #[.pointer (some ⟨t,0,none⟩)] w' fun e w''=>e=.returned (.int .i64 enc)∧Below w'.heap.size w' w''):=fun w' hb=>(Enc_any enc lim L w' t ps (hT.ext hb)).mono fun e w'' ⟨h1,h2⟩=>⟨h1,by rw [h2];exact Below.refl _ _⟩
 have LN:Hid (∀ w',Below w.heap.size w w'→Calls Tryz.prog 34 #[.pointer (some ⟨t,0,none⟩)] w' fun e w''=>e=.returned (.int .i64 (n:Nat))∧Below w'.heap.size w' w''):=fun w' hb=>by rw [← hsl];exact Len_any enc lim L w' t ps (hT.ext hb)
 have SZ:Hid (∀ w',Below w.heap.size w w'→Calls Tryz.prog 43 #[.pointer (some ⟨t,0,none⟩)] w' fun e w''=>e=.returned (.int .i64 (s:Nat))∧Below w'.heap.size w' w''):=fun w' hb=>by rw [hs];exact tSize_any enc lim L w' t ps (hT.ext hb)
 have RS:Hid (∀ w',Below w.heap.size w w'→Calls Tryz.prog 44 #[.pointer (some ⟨q,0,none⟩)] w' fun e w''=>e=.returned (.int .i64 (s:Nat))∧Below w'.heap.size w' w''):=fun w' hb=>by rw [hs];exact rSize5_any enc lim w' q B _ _ vk (asOf ps) _ (hD.ext hb) hf hsz
 have AT:Hid (∀ w',Below w.heap.size w w'→Calls Tryz.prog 46 #[.pointer (some ⟨t,0,none⟩),.int .i64 0,.int .i64 (n:Nat)] w' fun e w''=>AtR (asOf ps) w' e w''):=fun w' hb=>by
  have:=Atoms_any enc lim L w' t ps 0 (sh enc ps).length (hT.ext hb)
  rw [clp_all,btw_all,sh_fst,hsl] at this
  exact this
 have TG:Hid (∀ w',Below w.heap.size w w'→Calls Tryz.prog 47 #[.pointer (some ⟨t,0,none⟩),.int .i64 0,.int .i64 (n:Nat)] w' fun e w''=>AtR ((sh enc ps).map Prod.snd) w' e w''):=fun w' hb=>by
  have:=Tags_any enc lim L w' t ps 0 (sh enc ps).length (hT.ext hb)
  rw [clp_all,btw_all,hsl] at this
  exact this
 have BY:Hid (∀ w',Below w.heap.size w w'→Calls Tryz.prog 23 #[.pointer (some ⟨t,0,none⟩)] w' fun e w''=>ByR (Cx.encB enc (asOf ps)) w' e w''):=fun w' hb=>Bytes_any enc lim L w' t ps (hT.ext hb)
 have RB:Hid (∀ w',Below w.heap.size w w'→Calls Tryz.prog 48 #[.pointer (some ⟨q,0,none⟩)] w' fun e w''=>∃ v,e=.returned v∧Hid (OwnU w'' w'.heap.size v (Cx.encB enc (asOf ps)))∧Below w'.heap.size w' w''):=fun w' hb=>rBytes5_any enc lim w' q B _ _ vk (asOf ps) _ (hD.ext hb) hf hsz
 have HC:Hid (∀ w',Below w.heap.size w w'→w'.cell? ⟨q,0,none⟩=some (.int .i64 enc)∧w'.cell? ⟨q,2,none⟩=some (.slice aa n ca)∧w'.cell? ⟨q,3,none⟩=some (.slice a9 n ct)):=fun w' hb=>by
  obtain ⟨x0,_,x2,x3,_⟩:=cells5t (hD.ext hb).x
  exact ⟨x0,x2,x3⟩
 have hnb:n≤65536:=by have:=ln_ge enc (asOf ps);omega
 have hsb:s≤65536:=by omega
 clear hT hD hn hsl hs hsz hf
 obtain ⟨y0,y2,y3⟩:=HC.out w (Below.refl _ _)
 go_enter Tryz.func21,Tryz.ntmps21
 go_upto_region 4 with fail
 clear c0 c2
 refine wp_region_held_drew (S:=fun w''=>w''.cell? ⟨q,0,none⟩=some (.int .i64 enc)∧w''.cell? ⟨q,2,none⟩=some (.slice aa n ca)∧w''.cell? ⟨q,3,none⟩=some (.slice a9 n ct)) (by kernel_rfl) (⟨y0,y2,y3⟩) (fun _=>?_)
 refine tkH 0 rfl ?_
 refine tkH 2 rfl ?_
 refine tkH 3 rfl ?_
 refine tkH 4 rfl ?_
 refine tkH 5 rfl ?_
 refine rdH 1 rfl fun K hK=>?_
 go_simp
 refine (EN.out _ (Below.drew (Below.refl _ _))).mono ?_;clear y0 y2 y3;rintro e z1 ⟨rfl,hb⟩;have HBz1:Hid (Below w.heap.size w z1):=zxt (Below.drew (Below.refl _ _)) hb;clear hb;obtain ⟨y0,y2,y3⟩:=HC.out z1 HBz1.out;try dsimp only
 refine hK.out _ _ ?_ (fun _=>?_)
 ·exact HC.out z1 HBz1.out
 clear hK K
 try simp only [Act.put,tS]
 refine tkH 6 rfl ?_
 refine tkH 7 rfl ?_
 refine tkH 8 rfl ?_
 refine tkH 10 rfl ?_
 refine rdH 9 rfl fun K hK=>?_
 go_simp
 refine (LN.out _ HBz1.out).mono ?_;clear y0 y2 y3;rintro e z2 ⟨rfl,hb⟩;have HBz2:Hid (Below w.heap.size w z2):=zxt HBz1.out hb;clear hb;obtain ⟨y0,y2,y3⟩:=HC.out z2 HBz2.out;try dsimp only
 refine hK.out _ _ ?_ (fun _=>?_)
 ·exact HC.out z2 HBz2.out
 clear hK K
 try simp only [Act.put,tS]
 refine tkH 11 rfl ?_
 refine tkH 12 rfl ?_
 refine tkH 13 rfl ?_
 refine tkH 14 rfl ?_
 refine tkH 16 rfl ?_
 refine rdH 15 rfl fun K hK=>?_
 go_simp
 refine (SZ.out _ HBz2.out).mono ?_;clear y0 y2 y3;rintro e z3 ⟨rfl,hb⟩;have HBz3:Hid (Below w.heap.size w z3):=zxt HBz2.out hb;clear hb;obtain ⟨y0,y2,y3⟩:=HC.out z3 HBz3.out;try dsimp only
 refine hK.out _ _ ?_ (fun _=>?_)
 ·exact HC.out z3 HBz3.out
 clear hK K
 try simp only [Act.put,tS]
 refine rdH 17 rfl fun K hK=>?_
 go_simp
 refine (RS.out _ HBz3.out).mono ?_;clear y0 y2 y3;rintro e z4 ⟨rfl,hb⟩;have HBz4:Hid (Below w.heap.size w z4):=zxt HBz3.out hb;clear hb;obtain ⟨y0,y2,y3⟩:=HC.out z4 HBz4.out;try dsimp only
 refine hK.out _ _ ?_ (fun _=>?_)
 ·exact HC.out z4 HBz4.out
 clear hK K
 try simp only [Act.put,tS]
 refine tkH 18 rfl ?_
 refine tkH 19 rfl ?_
 refine dnH ?_
 clear EN LN SZ RS HBz1 HBz2 HBz3
 go_upto_region 6 with fail
 have HBz4d:Hid (Below w.heap.size w z4.drew):=zxt HBz4.out (Below.drew (Below.refl _ _))
 refine wp_region_held_drew (S:=fun w''=>w''.cell? ⟨q,0,none⟩=some (.int .i64 enc)∧w''.cell? ⟨q,2,none⟩=some (.slice aa n ca)∧w''.cell? ⟨q,3,none⟩=some (.slice a9 n ct)) (by kernel_rfl) (⟨y0,y2,y3⟩) (fun _=>?_)
 refine tkH 0 rfl ?_
 refine tkH 1 rfl ?_
 refine tkH 3 rfl ?_
 refine tkH 4 rfl ?_
 refine tkH 5 rfl ?_
 refine tkH 6 rfl ?_
 refine rdH 2 rfl fun K hK=>?_
 go_simp
 refine (AT.out _ HBz4d.out).mono ?_;clear y0 y2 y3;rintro e u1 ⟨vu1,rfl,ho,hb⟩;have HBu1:Hid (Below w.heap.size w u1):=zxt HBz4d.out hb;clear hb;obtain ⟨au1,cu1,hv⟩:=ho.form;rw [HLA.out] at hv;subst hv;have HOu1:=zh ho;clear ho;obtain ⟨y0,y2,y3⟩:=HC.out u1 HBu1.out;try dsimp only
 refine hK.out _ _ ?_ (fun _=>?_)
 ·exact HC.out u1 HBu1.out
 clear hK K
 try simp only [Act.put,tS]
 refine rdH 7 rfl fun K hK=>?_
 go_simp
 refine (sameInts_any _ _ _ _ HOu1.out.rd (HD.out.ext HBu1.out).a.rd).mono ?_;clear y0 y2 y3;rintro e u2 ⟨rfl,hb⟩;have HBu2:Hid (Below w.heap.size w u2):=zxt HBu1.out hb;clear hb;obtain ⟨y0,y2,y3⟩:=HC.out u2 HBu2.out;try dsimp only
 refine hK.out _ _ ?_ (fun _=>?_)
 ·exact HC.out u2 HBu2.out
 clear hK K
 try simp only [Act.put,tS]
 refine tkH 8 rfl ?_
 refine tkH 9 rfl ?_
 refine tkH 10 rfl ?_
 refine tkH 12 rfl ?_
 refine tkH 13 rfl ?_
 refine tkH 14 rfl ?_
 refine tkH 15 rfl ?_
 refine rdH 11 rfl fun K hK=>?_
 go_simp
 refine (TG.out _ HBu2.out).mono ?_;clear y0 y2 y3;rintro e u3 ⟨vu3,rfl,ho,hb⟩;have HBu3:Hid (Below w.heap.size w u3):=zxt HBu2.out hb;clear hb;obtain ⟨au3,cu3,hv⟩:=ho.form;rw [HLT.out] at hv;subst hv;have HOu3:=zh ho;clear ho;obtain ⟨y0,y2,y3⟩:=HC.out u3 HBu3.out;try dsimp only
 refine hK.out _ _ ?_ (fun _=>?_)
 ·exact HC.out u3 HBu3.out
 clear hK K
 try simp only [Act.put,tS]
 refine rdH 16 rfl fun K hK=>?_
 go_simp
 refine (sameInts_any _ _ _ _ HOu3.out.rd (HD.out.ext HBu3.out).t.rd).mono ?_;clear y0 y2 y3;rintro e u4 ⟨rfl,hb⟩;have HBu4:Hid (Below w.heap.size w u4):=zxt HBu3.out hb;clear hb;obtain ⟨y0,y2,y3⟩:=HC.out u4 HBu4.out;try dsimp only
 refine hK.out _ _ ?_ (fun _=>?_)
 ·exact HC.out u4 HBu4.out
 clear hK K
 try simp only [Act.put,tS]
 refine tkH 17 rfl ?_
 refine tkH 18 rfl ?_
 refine tkH 19 rfl ?_
 refine tkH 21 rfl ?_
 refine rdH 20 rfl fun K hK=>?_
 go_simp
 refine (BY.out _ HBu4.out).mono ?_;clear y0 y2 y3;rintro e u5 ⟨bb,rfl,hr,_,hb⟩;have HBu5:Hid (Below w.heap.size w u5):=zxt HBu4.out hb;clear hb;have HRU:=zh hr;clear hr;rw [HLN.out];obtain ⟨y0,y2,y3⟩:=HC.out u5 HBu5.out;try dsimp only
 refine hK.out _ _ ?_ (fun _=>?_)
 ·exact HC.out u5 HBu5.out
 clear hK K
 try simp only [Act.put,tS]
 refine rdH 22 rfl fun K hK=>?_
 go_simp
 refine (RB.out _ HBu5.out).mono ?_;clear y0 y2 y3;rintro e u6 ⟨vb,rfl,ho,hb⟩;have HBu6:Hid (Below w.heap.size w u6):=zxt HBu5.out hb;have HBT:=zh hb;clear hb;obtain ⟨ab,cb,hv⟩:=OwnU.form ho.out;rw [HLN.out] at hv;subst hv;have HOB:=zh ho.out;clear ho;obtain ⟨y0,y2,y3⟩:=HC.out u6 HBu6.out;try dsimp only
 refine hK.out _ _ ?_ (fun _=>?_)
 ·exact HC.out u6 HBu6.out
 clear hK K
 try simp only [Act.put,tS]
 refine rdH 23 rfl fun K hK=>?_
 go_simp
 refine (sameBytes_eq _ _ (Cx.encB enc (asOf ps)) _ (RWU HRU.out HBT.out HLN.out hsb) (OwnU.rd HOB.out)).mono ?_;clear y0 y2 y3;rintro e u7 ⟨rfl,hb⟩;have HBu7:Hid (Below w.heap.size w u7):=zxt HBu6.out hb;clear hb;obtain ⟨y0,y2,y3⟩:=HC.out u7 HBu7.out;try dsimp only
 refine hK.out _ _ ?_ (fun _=>?_)
 ·exact HC.out u7 HBu7.out
 clear hK K
 try simp only [Act.put,tS]
 refine tkH 24 rfl ?_
 refine tkH 25 rfl ?_
 refine dnH ?_
 go_wp2_with fail
 go_ret
 exact ⟨rfl,HBu7.out⟩
open Go.RowKit
theorem sh_fits {enc lim:Int} {L:List Int} {w:World} {t:Nat} {ps:List PG} (h:Tx enc lim L w t ps):∀ a ∈ asOf ps,Cx.fits enc a=true:=by
 intro a ha
 obtain ⟨q,hq,hqa⟩:=List.mem_flatMap.1 ha
 exact (h.pc q hq).gr.fit a hqa
def inO (a0 a2:Int) (zs:List Int) (ao:Option Addr) (cap:Nat):In2:=⟨fun k=>match k with | 0=>a0 | _=>1,fun k=>match k with | 0=>a2 | _=>0,fun k=>match k with | 0=>zs | _=>[],fun k=>match k with | 0=>ao | _=>none,fun k=>match k with | 0=>cap | _=>0⟩
set_option maxHeartbeats 4000000 in
theorem lopen_any (a0:Int) (v:Value) (zs:List Int) (a2:Int) (W:World) (h:Rd .u8 W v zs) (hB:Byt zs) (hl:zs.length≤140737488351232) :
  Calls Tryz.prog 4 #[.int .i64 a0,v,.int .i64 a2] W fun e W'=>e=.returned (.bool true)∧Below W.heap.size W W':=by
 have AB:=zh (able_any W)
 have HR:=zh h
 have HB:=zh hB
 have HL:=zh hl
 obtain ⟨ao,cap,rfl,_,_,hc⟩:=h
 have HOF:Hid (∀ b o,ao=some ⟨b,o,none⟩→zs≠[]→b < W.heap.size):=fun b o e hn=>by
  obtain ⟨b',o',e',hb,_⟩:=hc hn
  rw [e] at e'
  cases e'
  exact hb
 clear hB hl hc
 go_enter Tryz.func4,Tryz.ntmps4
 go_upto_region 3 with (go_at_call 11;refine AB.out.mono ?_;rintro e w1 ⟨rfl,hb⟩;have HB1:=zh hb;clear hb;(try dsimp only))
 go_upto_region 4 with fail
 generalize hw2:World.alloc _ _=w2
 have HX2:Hid (WbX w2 w1.heap.size (fun _=>none) (fun _=>none) (.slice none 0 0) (.slice none 0 0) (.slice none 0 0)):=by unfold Hid;rw [← hw2];exact heap_alloc_new _ _
 have HB2:Hid (Below w1.heap.size w1 w2):=by unfold Hid;rw [← hw2];exact zxa (Below.refl _ _) _
 clear hw2
 have BG:Hid (Calls Tryz.prog 20 #[.pointer (some ⟨w1.heap.size,0,none⟩),.agg #[.int .i64 a0,.int .i64 1,.int .i64 a2,.int .i64 0,.slice ao zs.length cap,.slice none 0 0,.slice none 0 0]] w2 fun e w'=>e=.returned (.bool true)∧Hid (BeR (inO a0 a2 zs ao cap) w2 w' w1.heap.size (.slice none 0 0) (.slice none 0 0) (.slice none 0 0) 2)):=by
  refine begin_any (inO a0 a2 zs ao cap) w2 w1.heap.size (.slice none 0 0) _ _ _ HX2.out (fun k hk=>?_)
  obtain rfl | rfl:k=0∨k=1:=by omega
  ·exact ⟨HR.out.ext (zxt HB1.out HB2.out),HB.out,by have:=HL.out;show zs.length≤_;omega,fun hn b o e=>by have:=HOF.out b o e hn;have:=HB1.out.size;omega⟩
  ·exact ⟨rd_none w2,(fun z hz=>by cases hz),Nat.zero_le _,fun hn=>absurd rfl hn⟩
 clear HR HB HL HOF AB
 go_upto_region 6 with (go_at_call 20;refine BG.out.mono ?_;rintro e w3 ⟨rfl,hr⟩;have HBE:=zh hr.out;clear hr;(try dsimp only))
 obtain ⟨hk,p,r,hwx,hbg⟩:=HBE.out
 have HK:Hid (Below W.heap.size W w3):=(HB1.out.trans (HB2.out.mono HB1.out.size)).trans (hk.below (Nat.le_trans HB1.out.size HB2.out.size) (fun q e=>by rw [e];exact HB1.out.size))
 have hb0:BgR a0 a2 zs w3 (.pointer (p 0)) (.pointer (r 0)):=hbg 0 (by omega)
 obtain ⟨c0,c2,_⟩:=hwx.cells 0 (by omega)
 clear BG HBE hk hwx hbg HX2
 rcases hb0 with ⟨_,hp,_⟩ | ⟨_,t,q,B,ps,va,vt,hp,hq,hT,_,hD⟩
 ·rw [hp] at c0
  clear hp c2
  go_wp2_with fail
  go_ret
  exact ⟨rfl,HK.out⟩
 ·rw [hp] at c0
  rw [hq] at c2
  rw [sh_fst] at hD
  have LK:=zh (look0_any a0 a2 zs w3 w1.heap.size t q B ps va vt _ c0 c2 hT hD (sh_fits hT))
  clear hp hq hT hD c2
  go_wp2_with (go_at_call 21;refine LK.out.mono ?_;rintro e w4 ⟨rfl,hb⟩;have HB4:=zh hb;clear hb;(try dsimp only))
  go_ret
  exact ⟨rfl,HK.out.trans (HB4.out.mono HK.out.size)⟩
end Go.Proofs.YtdhciadajendnaaGreat.P
