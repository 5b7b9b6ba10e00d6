import Derived.Test.YtdhciadajendnaaGreatK18
set_option maxRecDepth 100000
namespace Go.Proofs.YtdhciadajendnaaGreat.P
open Go.RowKit
theorem Rd.mid {k:IntKind} {w:World} {b o n c:Nat} {zs:List Int} (h:Rd k w (.slice (some ⟨b,o,none⟩) n c) zs) (i m:Nat) (hi:i + m≤zs.length):Rd k w (.slice (some ⟨b,o + i,none⟩) m (c - i)) ((zs.drop i).take m):=by
 obtain ⟨ao,cap,hv,h1,h2,h3⟩:=h
 simp only [Value.slice.injEq] at hv
 obtain ⟨rfl,hn,hc⟩:=hv
 subst hc
 have hl:((zs.drop i).take m).length=m:=by rw [List.length_take,List.length_drop];omega
 refine ⟨_,c - i,by rw [hl],by rw [hl];omega,by omega,fun hne=>?_⟩
 obtain ⟨b',o',e,hb,hc⟩:=h3 (by intro e;subst e;simp at hne)
 simp only [Option.some.injEq,Addr.mk.injEq] at e
 obtain ⟨rfl,rfl,_⟩:=e
 refine ⟨b,o + i,rfl,hb,fun j hj=>?_⟩
 rw [hl] at hj
 have:=hc (i + j) (by omega)
 rw [Nat.add_assoc,this,List.getElem?_take,if_pos hj,List.getElem?_drop]
theorem pcs_one (x:It):∀ u ∈ pcs x,u.oneCell'=true:=fun u hu=>flat_one [x] u (by simpa [flat] using hu)
theorem cell7_new (w:World) (T:TypeId) (x:It):∀ j u,(pcs x)[j]?=some u→(w.alloc (.cells #[.slice x.p x.n x.c,.int .i64 x.pl,.int .i64 x.sp.a,.int .i64 x.sp.s,.int .i64 x.sp.b,.bool x.sp.lf,.bool x.sp.cr] T)).cell? ((⟨w.heap.size,0,none⟩:Addr).add j)=some u:=by
 intro j u hj
 rw [Addr.add_lit,cell_of_row (w.alloc (.cells #[.slice x.p x.n x.c,.int .i64 x.pl,.int .i64 x.sp.a,.int .i64 x.sp.s,.int .i64 x.sp.b,.bool x.sp.lf,.bool x.sp.cr] T)) w.heap.size (0 + j) _ T (0,0) (heap_alloc_new _ _),Nat.zero_add]
 simpa [pcs] using hj
theorem alloc_size (w:World) (o:Obj):(w.alloc o).heap.size=w.heap.size + 1:=by simp
theorem OwnR.other {w w':World} {base:Nat} {v:Value} {xs:List It} (h:OwnR w base 97 v xs) {g:Nat} (hg:w.grownBy w' (some g)) (hb:g < base):OwnR w' base 97 v xs :=
 World.ownsRow.kept h hg (.inr fun e=>Nat.not_le_of_lt hb (World.ownsRow.lt h g e).1)
theorem lit7 (w:World) (T:TypeId) (x:It):∀ j u,(pcs x)[j]?=some u→((w.alloc (.cells #[.slice x.p x.n x.c,.int .i64 x.pl,.int .i64 x.sp.a,.int .i64 x.sp.s,.int .i64 x.sp.b,.bool x.sp.lf,.bool x.sp.cr] T)).drew).cell? ((⟨w.heap.size,0,none⟩:Addr).add j)=some u:=fun j u h=>by
 rw [World.cell?_drew]
 exact cell7_new w T x j u h
section
variable {P:Program} {W:World}
theorem wp_append_piece {op:Oper} {a:Act} {K:Act→World→Prop} {Q:Exit→Act→World→Prop} (s x:Operand) (t:TypeId)
  (ho:op.op=.call { callee:=.builtin .append,args:=#[s,x],argTypes:=#[t,t] })
  (base:Nat) (e:TypeId) (hinf:(P.info? e).map (fun i=>(i.zero,i.size,i.bytes))=some (some (.agg #[.slice It.zero.p It.zero.n It.zero.c,.int .i64 It.zero.pl,.int .i64 It.zero.sp.a,.int .i64 It.zero.sp.s,.int .i64 It.zero.sp.b,.bool It.zero.sp.lf,.bool It.zero.sp.cr]),7,64)) (ht:P.underlying t=some (.slice e))
  (v:Value) (xs:List It) (hs:a.eval s=v) (hown:OwnR W base e v xs) (y:It) (g:Nat) (hx:a.eval x=.slice (some ⟨g,0,none⟩) 1 1) (hnew:∀ j u,(pcs y)[j]?=some u→W.cell? ((⟨g,0,none⟩:Addr).add j)=some u)
  (hbytes:xs.length + 1≤1099511627776) (hbase:base≤W.heap.size)
  (h:∀ v' w',OwnR w' base e v' (xs ++ [y])→W.grownBy w' v.ownBlock→K (a.put op.dst v') w'):op.wp P a W K Q:=by
 obtain ⟨i0,hi,hz0,hz1,hz2⟩:=info_parts hinf
 refine wp_append_own _ s x t ho base e i0 _ 7 64 ht hi hz0 hz1 hz2 rfl (by decide) v xs.length (flat xs) hs hown ⟨g,0,none⟩ 1 1 (pcs y) hx rfl hnew (pcs_one y) (by unfold maxLen;omega) (by omega) hbase ?_
 intro v' w' hown' hg _
 refine h v' w' ?_ hg
 unfold OwnR
 rw [List.length_append,flat_app,show flat [y]=pcs y by simp [flat]]
 exact hown'
end
theorem size_alloc_le (w:World) (o:Obj):w.heap.size≤(w.alloc o).heap.size:=by rw [alloc_size];omega
theorem below_append {B base:Nat} {w wr W w':World} {v:Value} {xs:List It} (hown:OwnR wr base 97 v xs) (hb:Below B w wr) (hs:B≤base) (hw:B≤wr.heap.size) (hW:Below wr.heap.size wr W) (hg:W.grownBy w' v.ownBlock):Below B w w' :=
 (hb.trans (hW.mono hw)).grown hg (Nat.le_trans hw hW.size) (fun k hk=>Nat.le_trans hs (World.ownsRow.lt hown k hk).1)
theorem blk_append {base g:Nat} {wr W w':World} {v:Value} {xs:List It} {T:TypeId} {s:Rs} (hown:OwnR wr base 97 v xs) (hB:Blk T wr g s) (hs:g < base) (hW:Below wr.heap.size wr W) (hg:W.grownBy w' v.ownBlock):Blk T w' g s:=by
 have h:=hB.ext hW
 unfold Blk at h ⊢
 rw [hg.block g (Blk.lt h) (fun e=>by have:=(World.ownsRow.lt hown _ e.symm).1;omega)]
 exact h
theorem new_drew (w:World) (o:Obj):Below w.heap.size w ((w.alloc o).drew):=(zxa (Below.refl _ _) o).drew
theorem vi {a b:Int} (h:a=b):Value.int .i64 a=Value.int .i64 b:=by rw [h]
structure CtI (enc:Int) (al:List Int) (j:Nat) (gs:List (List Int)) (cur:List Int):Prop where
 all:gs.flatten ++ cur=al.take j
 gr:∀ g ∈ gs,Gr enc g
 cu:cur=[]∧j=0∨Gr enc cur
theorem CtI.len {enc:Int} {al:List Int} {j:Nat} {gs:List (List Int)} {cur:List Int} (h:CtI enc al j gs cur):gs.length≤al.length∧ln enc gs.flatten + ln enc cur≤ln enc al:=by
 have e:=h.all
 constructor
 ·have h1:∀ gs:List (List Int),(∀ g ∈ gs,Gr enc g)→gs.length≤gs.flatten.length:=by
   intro gs
   induction gs with
   | nil=>intro _;exact Nat.le_refl _
   | cons g gs ih =>
     intro k
     have:=(k g List.mem_cons_self).pos
     have:=ih fun x hx=>k x (List.mem_cons_of_mem _ hx)
     rw [List.flatten_cons,List.length_append,List.length_cons]
     omega
  have h2:=congrArg List.length e
  rw [List.length_append,List.length_take] at h2
  have:=h1 gs h.gr
  omega
 ·rw [← ln_app,e]
  have:=ln_app enc (al.take j) (al.drop j)
  rw [List.take_append_drop] at this
  omega
set_option maxHeartbeats 4000000 in
theorem cut_any (enc:Int) (he:Cx.En enc) (va vb:Value) (al:List Int) (b o:Nat) (w:World) (hA:Rd .i64 w va al) (hfit:∀ a ∈ al,Cx.fits enc a=true) (hR:Rd .u8 w vb (Cx.encB enc al)) (hp:al≠[]→∀ p n c,vb=.slice p n c→p=some ⟨b,o,none⟩) (hl:al.length≤1073741824) :
  Calls Tryz.prog 52 #[.int .i64 enc,va,vb] w fun e w'=>∃ v gs,e=.returned v∧Hid (gs.flatten=al∧(∀ g ∈ gs,Gr enc g)∧OwnR w' w.heap.size 97 v (mks enc b o 0 gs))∧Below w.heap.size w w':=by
 obtain ⟨i0,hi,hz0,hz1,hz2⟩:=info_parts Tryz.info_piece
 obtain ⟨pb,cb,hvb,hb1,hb2,hb3⟩:=id hR
 clear hb3
 subst hvb
 have hP:al≠[]→pb=some ⟨b,o,none⟩:=fun h=>hp h _ _ _ rfl
 obtain ⟨pa,ca,hva,ha1,ha2,ha3⟩:=id hA
 subst hva
 have hln:ln enc al≤4 * al.length:=ln_le enc al
 have eL:(Cx.encB enc al).length=ln enc al:=rfl
 rw [eL] at hb1 hR ⊢
 obtain ⟨w0,hw0⟩:∃ w0,w0=w.alloc (.cells #[.int .i64 0,.int .i64 0,.int .i64 0,.bool false,.bool false] 94):=⟨_,rfl⟩
 have hs0:w0.heap.size=w.heap.size + 1:=by rw [hw0];simp
 have HB0:Hid (Below w.heap.size w w0):=by unfold Hid;rw [hw0];exact zxa (Below.refl _ _) _
 have K0:Hid (Blk 94 w0 w.heap.size Rs.zero):=by unfold Hid;rw [hw0];exact heap_alloc_new _ _
 have HAT:Hid (∀ wr,Below w.heap.size w wr→∀ j (h:j < al.length),∃ ba oa,pa=some ⟨ba,oa,none⟩∧wr.cell? ⟨ba,oa + j,none⟩=some (.int .i64 (al[j]?.getD 0))):=fun wr hb j h=>by
  obtain ⟨ba,oa,h1,h2,h3⟩:=ha3 (by intro e;subst e;simp at h)
  exact ⟨ba,oa,h1,(hb.cell (p:=⟨ba,oa + j,none⟩) h2).trans (h3 j h)⟩
 have HRD:Hid (∀ wr,Below w.heap.size w wr→al≠[]→Rd .u8 wr (.slice (some ⟨b,o,none⟩) (ln enc al) cb) (Cx.encB enc al)):=fun wr hb hne=>by
  have:=hP hne
  subst this
  exact hR.ext hb
 have HEN:=zh he
 have HFIT:=zh hfit
 have hca:al.length≤9223372036854775807:=by omega
 unfold maxLen at hb2 ha2
 clear hA hR he hfit hp ha3
 go_enter Tryz.func52,Tryz.ntmps52
 go_upto_block 0 with fail
 rw [← hw0]
 clear hw0
 go_cut [7,9,10] from 12 to 62 (fun pv sv ev wF=>∃ gs cur,sv=.int .i64 (ln enc gs.flatten:Nat)∧ev=.int .i64 ((ln enc gs.flatten:Nat) + (ln enc cur:Nat):Int)∧Hid (CtI enc al al.length gs cur)∧Hid (OwnR wF w0.heap.size 97 pv (mks enc b o 0 gs))∧Hid (Blk 94 wF w.heap.size (spn enc cur))∧Hid (Below w.heap.size w wF))
 case first =>
  go_wp2_with fail
  go_loopg [7,9,10,16] al.length (fun gk pv sv ev p wr=>∃ (j:Nat) (gs:List (List Int)) (cur:List Int),j + gk=al.length∧p=.int .i64 (j:Nat)∧sv=.int .i64 (ln enc gs.flatten:Nat)∧ev=.int .i64 ((ln enc gs.flatten:Nat) + (ln enc cur:Nat):Int)∧Hid (CtI enc al j gs cur)∧Hid (OwnR wr w0.heap.size 97 pv (mks enc b o 0 gs))∧Hid (Blk 94 wr w.heap.size (spn enc cur))∧Hid (Below w.heap.size w wr)∧w0.heap.size≤wr.heap.size)
  case atStart=>exact ⟨0,[],[],by omega,rfl,rfl,rfl,⟨rfl,(fun g hg=>by cases hg),.inl ⟨rfl,rfl⟩⟩,OwnR.nil _ _ _,K0.out,HB0.out,Nat.le_refl _⟩
  case round =>
   obtain ⟨j,gs,cur,hj,rfl,rfl,rfl,HC,HOW,HBL,HBW,hw0r⟩:=hrel
   by_cases hi':j < al.length
   case neg =>
    have hi2:¬ (j:Int) < (al.length:Int):=by omega
    obtain rfl:j=al.length:=by omega
    go_wp2_with fail
    go_meet
    case rel=>exact ⟨gs,cur,rfl,rfl,HC,HOW,HBL,HBW⟩
   have hi2:(j:Int) < (al.length:Int):=by omega
   have hne:al≠[]:=by intro e;subst e;simp at hi'
   obtain rfl:pb=some ⟨b,o,none⟩:=hP hne
   obtain ⟨ba,oa,rfl,c0⟩:=HAT.out wr HBW.out j hi'
   obtain ⟨a,haj⟩:∃ a,al[j]?=some a:=⟨_,List.getElem?_eq_getElem hi'⟩
   rw [haj,Option.getD_some] at c0
   have hfa:Cx.fits enc a=true:=HFIT.out a (List.mem_of_getElem? haj)
   obtain ⟨p1,p2⟩:=Cx.put_len enc a
   have hsz:Cx.size enc a=((Cx.put enc a).length:Nat):=size_fit enc a hfa
   have hll:=HC.out.len
   have hsum:ln enc gs.flatten + ln enc cur + (Cx.put enc a).length≤ln enc al:=by
    have e1:=HC.out.all
    have e2:al.take (j + 1)=al.take j ++ [a]:=by rw [List.take_add_one,haj];rfl
    have e3:=congrArg (ln enc) e2
    rw [← e1,ln_app,ln_app,ln_one] at e3
    have e4:=ln_app enc (al.take (j + 1)) (al.drop (j + 1))
    rw [List.take_append_drop] at e4
    omega
   have hmid:((Cx.encB enc al).drop (ln enc gs.flatten)).take (ln enc cur + (Cx.put enc a).length)=Cx.encB enc (cur ++ [a]):=by
    have e1:=HC.out.all
    have e2:al=gs.flatten ++ ((cur ++ [a]) ++ al.drop (j + 1)):=by
     rw [← List.append_assoc,← List.append_assoc,e1]
     have:al.take (j + 1)=al.take j ++ [a]:=by rw [List.take_add_one,haj];rfl
     rw [← this,List.take_append_drop]
    rw [e2,Cx.encB_app,Cx.encB_app enc (cur ++ [a]),List.drop_left' (show (Cx.encB enc gs.flatten).length=ln enc gs.flatten from rfl),List.take_left' (by show ln enc (cur ++ [a])=_;rw [ln_app,ln_one])]
   have SZ:=zh (Go.Proofs.YtdhciadajendnaaGreat.Size_any enc a wr)
   rw [hsz] at SZ
   have EW:Hid (∀ w1,Below wr.heap.size wr w1→Calls Tryz.prog 76 #[.int .i64 enc,.slice (some ⟨b,o + ln enc gs.flatten,none⟩) (ln enc gs.flatten + ln enc cur + (Cx.put enc a).length - ln enc gs.flatten) (cb - ln enc gs.flatten),.int .i64 a] w1 fun e w'=>e=.returned (.bool (decide ((Cx.lst enc (Cx.encB enc (cur ++ [a]))).1=a)))∧Below w1.heap.size w1 w'):=fun w1 hb=>by
    have h1:=Rd.mid (HRD.out w1 (zxt HBW.out hb) hne) (ln enc gs.flatten) (ln enc cur + (Cx.put enc a).length) (by rw [eL];omega)
    rw [hmid] at h1
    rw [show ln enc gs.flatten + ln enc cur + (Cx.put enc a).length - ln enc gs.flatten=ln enc cur + (Cx.put enc a).length by omega]
    refine endsWith_any enc HEN.out _ _ a w1 h1 (encB_byt enc _ (fun x hx=>?_)) ?_
    ·rcases List.mem_append.1 hx with h | h
     ·rcases HC.out.cu with ⟨e,_⟩ | g
      ·subst e;cases h
      ·exact g.fit x h
     ·rw [List.mem_singleton] at h;subst h;exact hfa
    ·show 0 < ln enc (cur ++ [a]);rw [ln_app,ln_one];omega
   generalize hq:decide ((Cx.lst enc (Cx.encB enc (cur ++ [a]))).1=a)=qb at EW
   have HQB:=zh hq
   have HLN:=zh (show ln enc (cur ++ [a])=ln enc cur + (Cx.put enc a).length by rw [ln_app,ln_one])
   clear hq hmid hsz
   generalize hszz:(Cx.put enc a).length=sz at *
   generalize hstt:ln enc gs.flatten=st at *
   generalize hcuu:ln enc cur=cu at *
   have HSZ:=zh hszz
   have HST:=zh hstt
   have HCU:=zh hcuu
   clear hszz hstt hcuu
   go_upto_region 8 with (go_at_call 75;refine SZ.out.mono ?_;clear c0;rintro e w1 ⟨rfl,hb1⟩;have HB1:=zh hb1;clear hb1)
   go_cut [40] from 23 to 40 (fun c wF=>∃ cx:Bool,c=.bool cx∧Hid ((cx=true→Gr enc cur)∧(cx=false→CtI enc al (j + 1) gs (cur ++ [a])))∧Hid (Below wr.heap.size wr wF))
   case first =>
    have hgm:cur=[]→cu≤0∧qb=true:=fun e=>by
     subst e
     refine ⟨by rw [← HCU.out];exact Nat.le_refl _,?_⟩
     rw [← HQB.out]
     have:=Cx.lst_put enc a HEN.out hfa
     simp only [List.nil_append,show Cx.encB enc [a]=Cx.put enc a by simp [Cx.encB]]
     exact decide_eq_true this
    have HG:=zh hgm
    have STAY:Hid (qb=true→CtI enc al (j + 1) gs (cur ++ [a])):=fun h=>⟨by rw [List.take_add_one,haj,Option.toList_some,← HC.out.all];simp,HC.out.gr,.inr (by
     rw [← HQB.out,decide_eq_true_eq] at h
     rcases HC.out.cu with ⟨e,_⟩ | g
     ·subst e;exact Gr.one HEN.out hfa
     ·exact g.snoc HEN.out hfa h)⟩
    clear hgm
    by_cases hbig:(64:Int) < (st:Int) + cu + sz - st
    case pos =>
     have HGR:=zh (show Gr enc cur from (HC.out.cu).elim (fun h=>by have:=HG.out h.1;omega) id)
     go_wp2_with fail
     go_meet
     case rel=>exact ⟨true,rfl,⟨fun _=>HGR.out,fun h=>by cases h⟩,HB1.out⟩
    case neg =>
     cases qb
     case false =>
      go_wp2_with (go_at_call 76;refine (EW.out w1 HB1.out).mono ?_;rintro e w2 ⟨rfl,hb2⟩;have HB2:=zh (zxt HB1.out hb2);clear hb2)
      go_meet
      case rel=>exact ⟨true,rfl,⟨fun _=>(HC.out.cu).elim (fun h=>by have:=(HG.out h.1).2;cases this) id,fun h=>by cases h⟩,HB2.out⟩
     case true =>
      go_wp2_with (go_at_call 76;refine (EW.out w1 HB1.out).mono ?_;rintro e w2 ⟨rfl,hb2⟩;have HB2:=zh (zxt HB1.out hb2);clear hb2)
      go_meet
      case rel=>exact ⟨false,rfl,⟨(fun h=>by cases h),fun _=>STAY.out (by first | trivial | rfl)⟩,HB2.out⟩
   obtain ⟨cx,rfl,HX,HBc⟩:=hcut
   generalize hwc:wc=wr2 at *
   clear hwc EW SZ
   have HOW2:=zh (HOW.out.ext HBc.out)
   have HBL2:=zh (HBL.out.ext HBc.out)
   have HBW2:=zh (zxt HBW.out HBc.out)
   have hw02:=Nat.le_trans hw0r HBc.out.size
   have SG:Hid (∀ w',Calls Tryz.prog 78 #[.int .i64 a,.int .i64 sz] w' fun e w''=>e=.returned (.agg #[.int .i64 (sg a sz).a,.int .i64 (sg a sz).s,.int .i64 (sg a sz).b,.bool (sg a sz).lf,.bool (sg a sz).cr])∧Below w'.heap.size w' w''):=fun w'=>single_any a sz w'
   have ADD:Hid (∀ c',(∀ x ∈ c',Cx.fits enc x=true)→ln enc c'≤ln enc al→∀ w',Calls Tryz.prog 77 #[.agg #[.int .i64 (spn enc c').a,.int .i64 (spn enc c').s,.int .i64 (spn enc c').b,.bool (spn enc c').lf,.bool (spn enc c').cr],.agg #[.int .i64 (sg a sz).a,.int .i64 (sg a sz).s,.int .i64 (sg a sz).b,.bool (sg a sz).lf,.bool (sg a sz).cr]] w' fun e w''=>∃ r,Hid (r=spn enc (c' ++ [a]))∧e=.returned (.agg #[.int .i64 r.a,.int .i64 r.s,.int .i64 r.b,.bool r.lf,.bool r.cr])∧Below w'.heap.size w' w''):=fun c' hfc hlc w'=>by
    have k1:=spn_ok enc c'
    have k2:=sg_ok a sz (by omega)
    have k3:=spn_a enc c' hfc
    have k4:=ln_ge enc c'
    have k6:(spn enc c').b≤c'.length:=spn_b enc _
    have k7:(sg a sz).a=1:=rfl
    have k8:(sg a sz).s=sz:=rfl
    have k9:(sg a sz).b≤1:=by unfold sg;simp only;split <;> omega
    refine (Add_any _ _ w' k1.a0 k2.a0 k1.s0 k2.s0 k1.b0 k2.b0 (by omega) (by omega) (by omega)).mono fun e w'' ⟨r,h1,h2,h3⟩=>⟨r,?_,h2,h3⟩
    unfold Hid
    rw [h1.out,spn_snoc,size_fit enc a hfa,HSZ.out]
   clear HOW HBL HBW hw0r
   cases cx
   case false =>
    have HC':=zh (HX.out.2 rfl)
    have HL':=zh (show ln enc gs.flatten=st∧ln enc cur=cu from ⟨HST.out,HCU.out⟩)
    have AD:=zh (ADD.out cur (fun x hx=>by
     rcases HC.out.cu with ⟨e,_⟩ | g
     ·subst e;cases hx
     ·exact g.fit x hx) (by rw [HCU.out];omega))
    clear ADD HX
    have HP:Hid (∀ w',Below wr2.heap.size wr2 w'→(w'.cell? ⟨w.heap.size,0,none⟩=some (.int .i64 (spn enc cur).a)∧w'.cell? ⟨w.heap.size,1,none⟩=some (.int .i64 (spn enc cur).s)∧w'.cell? ⟨w.heap.size,2,none⟩=some (.int .i64 (spn enc cur).b)∧w'.cell? ⟨w.heap.size,3,none⟩=some (.bool (spn enc cur).lf)∧w'.cell? ⟨w.heap.size,4,none⟩=some (.bool (spn enc cur).cr))∧∀ i,w'.frozen? ⟨w.heap.size,i,none⟩=false):=fun w' hb=>⟨(HBL2.out.ext hb).cells.1,(HBL2.out.ext hb).cells.2.2.2.2⟩
    have hzx:w.heap.size < wr2.heap.size:=HBL2.out.lt
    have FIN:Hid (∀ w' r,Below wr2.heap.size wr2 w'→r=spn enc (cur ++ [a])→OwnR (((((w'.setCell ⟨w.heap.size,0,none⟩ (.int .i64 r.a)).setCell ⟨w.heap.size,1,none⟩ (.int .i64 r.s)).setCell ⟨w.heap.size,2,none⟩ (.int .i64 r.b)).setCell ⟨w.heap.size,3,none⟩ (.bool r.lf)).setCell ⟨w.heap.size,4,none⟩ (.bool r.cr)) w0.heap.size 97 u7 (mks enc b o 0 gs)∧Blk 94 (((((w'.setCell ⟨w.heap.size,0,none⟩ (.int .i64 r.a)).setCell ⟨w.heap.size,1,none⟩ (.int .i64 r.s)).setCell ⟨w.heap.size,2,none⟩ (.int .i64 r.b)).setCell ⟨w.heap.size,3,none⟩ (.bool r.lf)).setCell ⟨w.heap.size,4,none⟩ (.bool r.cr)) w.heap.size (spn enc (cur ++ [a]))∧Below w.heap.size w (((((w'.setCell ⟨w.heap.size,0,none⟩ (.int .i64 r.a)).setCell ⟨w.heap.size,1,none⟩ (.int .i64 r.s)).setCell ⟨w.heap.size,2,none⟩ (.int .i64 r.b)).setCell ⟨w.heap.size,3,none⟩ (.bool r.lf)).setCell ⟨w.heap.size,4,none⟩ (.bool r.cr))∧w0.heap.size≤(((((w'.setCell ⟨w.heap.size,0,none⟩ (.int .i64 r.a)).setCell ⟨w.heap.size,1,none⟩ (.int .i64 r.s)).setCell ⟨w.heap.size,2,none⟩ (.int .i64 r.b)).setCell ⟨w.heap.size,3,none⟩ (.bool r.lf)).setCell ⟨w.heap.size,4,none⟩ (.bool r.cr)).heap.size):=fun w' r hb hr=>by
     subst hr
     obtain ⟨p1,p2⟩:=(HBL2.out.ext hb).put (spn enc (cur ++ [a]))
     exact ⟨(HOW2.out.ext hb).other p2 (by omega),p1,zbp (zxt HBW2.out hb) (zxt HBW2.out hb).size p2 (Nat.le_refl _),Nat.le_trans hw02 (Nat.le_trans hb.size p2.size)⟩
    obtain ⟨z0,zf⟩:=HP.out wr2 (Below.refl _ _)
    generalize spn enc cur=sd at AD HP z0
    go_upto_region 12 with fail
    refine wp_region_held_drew (S:=fun _=>True) (by kernel_rfl) (trivial) (fun _=>?_)
    refine tkH 1 rfl ?_
    refine tkH 2 rfl ?_
    refine wpAnyH_ready (rs:=[0,3]) (by kernel_rfl) (by simp) ?_
    refine (AllReadyH.cons (o:=_) rfl (fun K hK=>?_) (AllReadyH.cons (o:=_) rfl (fun K hK=>?_) AllReadyH.nil))
    ·skip
     go_simp
     refine hK.out _ _ ?_ (fun _=>?_)
     ·trivial
     clear hK K
     try simp only [Act.put,tS]
     refine rdH 3 rfl fun K hK=>?_
     go_simp
     refine (SG.out _).mono ?_;clear z0;rintro e w4 ⟨rfl,hb⟩;have HB4:Hid (Below wr2.heap.size wr2 w4):=zxt (by repeat (first | exact HB5.out | exact HB4.out | exact Below.refl _ _ | apply Below.drew | refine zxa ?_ _)) hb;obtain ⟨z0,zf⟩:=HP.out w4 HB4.out;clear hb;try go_wp2_with fail
     refine hK.out _ _ ?_ (fun _=>?_)
     ·trivial
     clear hK K
     try simp only [Act.put,tS]
     refine rdH 4 rfl fun K hK=>?_
     go_simp
     refine (AD.out _).mono ?_;clear z0;rintro e w5 ⟨q5,HQ5,rfl,hb⟩;have HB5:Hid (Below wr2.heap.size wr2 w5):=zxt (by repeat (first | exact HB5.out | exact HB4.out | exact Below.refl _ _ | apply Below.drew | refine zxa ?_ _)) hb;obtain ⟨z0,zf⟩:=HP.out w5 HB5.out;have hz5:w.heap.size < w5.heap.size:=Nat.lt_of_lt_of_le hzx HB5.out.size;clear hb;try go_wp2_with fail
     refine hK.out _ _ ?_ (fun _=>?_)
     ·trivial
     clear hK K
     try simp only [Act.put,tS]
     refine rdH 5 rfl fun K hK=>?_
     go_simp
     refine hK.out _ _ ?_ (fun _=>?_)
     ·trivial
     clear hK K
     try simp only [Act.put,tS]
     refine dnH ?_
     go_wp2_with fail
     go_roundg (al.length - (j + 1))
     case rel=>exact ⟨j + 1,gs,cur ++ [a],by omega,by go_num,vi (by have h1:=HL'.out.1;first | omega | (have:=HEN2.out;omega)),vi (by have h1:=HL'.out.1;have h2:=HL'.out.2;have h3:=ln_app enc cur [a];have h4:=ln_one enc a;have h5:=HSZ.out;first | omega | (have:=HEN2.out;omega)),HC',(FIN.out _ _ HB5.out HQ5.out).1,(FIN.out _ _ HB5.out HQ5.out).2.1,(FIN.out _ _ HB5.out HQ5.out).2.2.1,(FIN.out _ _ HB5.out HQ5.out).2.2.2⟩
     case measure=>omega
    ·skip
     go_simp
     refine (SG.out _).mono ?_;clear z0;rintro e w4 ⟨rfl,hb⟩;have HB4:Hid (Below wr2.heap.size wr2 w4):=zxt (by repeat (first | exact HB5.out | exact HB4.out | exact Below.refl _ _ | apply Below.drew | refine zxa ?_ _)) hb;obtain ⟨z0,zf⟩:=HP.out w4 HB4.out;clear hb;try go_wp2_with fail
     refine hK.out _ _ ?_ (fun _=>?_)
     ·trivial
     clear hK K
     try simp only [Act.put,tS]
     refine rdH 0 rfl fun K hK=>?_
     go_simp
     refine hK.out _ _ ?_ (fun _=>?_)
     ·trivial
     clear hK K
     try simp only [Act.put,tS]
     refine rdH 4 rfl fun K hK=>?_
     go_simp
     refine (AD.out _).mono ?_;clear z0;rintro e w5 ⟨q5,HQ5,rfl,hb⟩;have HB5:Hid (Below wr2.heap.size wr2 w5):=zxt (by repeat (first | exact HB5.out | exact HB4.out | exact Below.refl _ _ | apply Below.drew | refine zxa ?_ _)) hb;obtain ⟨z0,zf⟩:=HP.out w5 HB5.out;have hz5:w.heap.size < w5.heap.size:=Nat.lt_of_lt_of_le hzx HB5.out.size;clear hb;try go_wp2_with fail
     refine hK.out _ _ ?_ (fun _=>?_)
     ·trivial
     clear hK K
     try simp only [Act.put,tS]
     refine rdH 5 rfl fun K hK=>?_
     go_simp
     refine hK.out _ _ ?_ (fun _=>?_)
     ·trivial
     clear hK K
     try simp only [Act.put,tS]
     refine dnH ?_
     go_wp2_with fail
     go_roundg (al.length - (j + 1))
     case rel=>exact ⟨j + 1,gs,cur ++ [a],by omega,by go_num,vi (by have h1:=HL'.out.1;first | omega | (have:=HEN2.out;omega)),vi (by have h1:=HL'.out.1;have h2:=HL'.out.2;have h3:=ln_app enc cur [a];have h4:=ln_one enc a;have h5:=HSZ.out;first | omega | (have:=HEN2.out;omega)),HC',(FIN.out _ _ HB5.out HQ5.out).1,(FIN.out _ _ HB5.out HQ5.out).2.1,(FIN.out _ _ HB5.out HQ5.out).2.2.1,(FIN.out _ _ HB5.out HQ5.out).2.2.2⟩
     case measure=>omega
   case true =>
    have HGR:=zh (HX.out.1 rfl)
    have HC':Hid (CtI enc al (j + 1) (gs ++ [cur]) ([] ++ [a])):=⟨by rw [List.take_add_one,haj,Option.toList_some,← HC.out.all];simp,fun x hx=>(List.mem_append.1 hx).elim (HC.out.gr x) (fun h=>by rw [List.mem_singleton] at h;subst h;exact HGR.out),.inr (Gr.one HEN.out hfa)⟩
    have HL':=zh (show ln enc (gs ++ [cur]).flatten=st + cu∧ln enc ([]:List Int)=0 from ⟨by rw [List.flatten_append,ln_app,HST.out];simp [HCU.out],rfl⟩)
    have AD:=zh (ADD.out [] (fun x hx=>by cases hx) (by rw [ln_nil];omega))
    obtain ⟨en,hen⟩:∃ en:Nat,(en:Int)=(st:Int) + cu:=⟨st + cu,by omega⟩
    have hes:¬ en=st:=by have:=HGR.out.lpos;rw [HCU.out] at this;omega
    have hse:st≤en:=by omega
    have hec:en≤cb:=by omega
    have hen4:en + sz≤ln enc al:=by omega
    obtain ⟨su,oks,hPX,hsu⟩:∃ (su:Rs) (ok:Rs.Ok su),mkx enc b o st cur=⟨some ⟨b,o + st,none⟩,en - st,en - st,(st:Int),su,ok⟩∧spn enc cur=su:=⟨_,spn_ok enc cur,by rw [mkx,show en - st=cu by omega,HCU.out],rfl⟩
    have HKS:=zh oks
    have HMS:=zh (show mks enc b o 0 (gs ++ [cur])=mks enc b o 0 gs ++ [⟨some ⟨b,o + st,none⟩,en - st,en - st,(st:Int),su,oks⟩] by rw [mks_snoc,Nat.zero_add,HST.out,hPX])
    have HEN2:=zh hen
    rw [← hen]
    clear hen
    rw [hsu] at HBL2
    have z0:=HBL2.out.cells.1
    have HML:=zh (show (mks enc b o 0 gs).length + 1≤1099511627776 by rw [mks_len];have:=hll.1;omega)
    clear hPX hsu ADD HX
    go_upto_region 9 with fail
    go_cut [7] from 41 to 51 (fun pv' wF=>Hid (OwnR wF w0.heap.size 97 pv' (mks enc b o 0 (gs ++ [cur])))∧Hid (Blk 94 wF w.heap.size su)∧Hid (Below w.heap.size w wF)∧w0.heap.size≤wF.heap.size)
    case first =>
     refine wp_region_held_drew (S:=fun w''=>(w''.cell? ⟨w.heap.size,0,none⟩=some (.int .i64 su.a)∧w''.cell? ⟨w.heap.size,1,none⟩=some (.int .i64 su.s)∧w''.cell? ⟨w.heap.size,2,none⟩=some (.int .i64 su.b)∧w''.cell? ⟨w.heap.size,3,none⟩=some (.bool su.lf)∧w''.cell? ⟨w.heap.size,4,none⟩=some (.bool su.cr))) (by kernel_rfl) (by first | exact z0 | (dsimp only;go_keep)) (fun _=>?_)
     refine tkH 0 rfl ?_
     refine tkH 1 rfl ?_
     refine tkH 2 rfl ?_
     refine tkH 3 rfl ?_
     refine tkH 4 rfl ?_
     refine tkH 5 rfl ?_
     refine tkH 6 rfl ?_
     refine tkH 7 rfl ?_
     refine tkH 8 rfl ?_
     refine rdH 9 rfl fun K hK=>?_
     go_simp
     refine hK.out _ _ ?_ (fun _=>?_)
     ·first | exact z0 | exact z9 | ((try dsimp only);go_keep)
     clear hK K
     try simp only [Act.put,tS]
     refine rdH 10 rfl fun K hK=>?_
     rw [if_pos (by rfl)]
     refine wp_append_piece _ _ 112 (by rfl) w0.heap.size 97 Tryz.info_piece Tryz.underlying112 u7 (mks enc b o 0 gs) (by rfl) (HOW2.out.ext (new_drew _ _)) ⟨some ⟨b,o + st,none⟩,en - st,en - st,(st:Int),su,oks⟩ wr2.heap.size (by rfl) (lit7 wr2 97 ⟨some ⟨b,o + st,none⟩,en - st,en - st,(st:Int),su,oks⟩) HML.out (Nat.le_trans hw02 (new_drew _ _).size) ?_;intro v' w9 hown' hg';have HB9:=zh (below_append HOW2.out HBW2.out (by omega) HBW2.out.size (new_drew _ _) hg');have HBL9:=zh (blk_append HOW2.out HBL2.out (by omega) (new_drew _ _) hg');have HOW9:=zh hown';have hs9:=Nat.le_trans hw02 (Nat.le_trans (new_drew _ _).size hg'.size);have z9:=HBL9.out.cells.1;clear hown' hg';change K (Act.put _ (some 51) v') w9
     refine hK.out _ _ ?_ (fun _=>?_)
     ·first | exact z0 | exact z9 | ((try dsimp only);go_keep)
     clear hK K
     try simp only [Act.put,tS]
     refine rdH 11 rfl fun K hK=>?_
     go_simp
     refine hK.out _ _ ?_ (fun _=>?_)
     ·first | exact z0 | exact z9 | ((try dsimp only);go_keep)
     clear hK K
     try simp only [Act.put,tS]
     refine dnH ?_
     go_wp2_with fail
     go_meet
     case rel=>exact ⟨by rw [HMS.out];exact HOW9,HBL9,HB9,hs9⟩
    obtain ⟨HOW3,HBL3,HBW3,hw03⟩:=hcut
    generalize hwc:wc=w9 at *
    clear hwc z0
    have z9:=HBL3.out.cells
    have lz9:=HBL3.out.lt
    obtain ⟨p1,p2⟩:=HBL3.out.put Rs.zero
    have HBL4:=zh p1
    have HOW4:=zh (HOW3.out.other p2 (by omega))
    have HBW4:=zh (zbp HBW3.out HBW3.out.size p2 (Nat.le_refl _))
    have hw04:=Nat.le_trans hw03 p2.size
    clear p1 p2
    obtain ⟨z91,_,_,_,zf9⟩:=z9
    obtain ⟨wz,hwz⟩:∃ wz,wz=(((((w9.setCell ⟨w.heap.size,0,none⟩ (.int .i64 Rs.zero.a)).setCell ⟨w.heap.size,1,none⟩ (.int .i64 Rs.zero.s)).setCell ⟨w.heap.size,2,none⟩ (.int .i64 Rs.zero.b)).setCell ⟨w.heap.size,3,none⟩ (.bool Rs.zero.lf)).setCell ⟨w.heap.size,4,none⟩ (.bool Rs.zero.cr)):=⟨_,rfl⟩
    rw [← hwz] at HBL4 HOW4 HBW4 hw04
    go_upto_region 11 with fail
    change Code.wp _ _ _ _ (((((w9.setCell ⟨w.heap.size,0,none⟩ (.int .i64 Rs.zero.a)).setCell ⟨w.heap.size,1,none⟩ (.int .i64 Rs.zero.s)).setCell ⟨w.heap.size,2,none⟩ (.int .i64 Rs.zero.b)).setCell ⟨w.heap.size,3,none⟩ (.bool Rs.zero.lf)).setCell ⟨w.heap.size,4,none⟩ (.bool Rs.zero.cr))
    rw [← hwz]
    clear hwz z91 zf9 lz9
    have HP:Hid (∀ w',Below wz.heap.size wz w'→(w'.cell? ⟨w.heap.size,0,none⟩=some (.int .i64 (spn enc []).a)∧w'.cell? ⟨w.heap.size,1,none⟩=some (.int .i64 (spn enc []).s)∧w'.cell? ⟨w.heap.size,2,none⟩=some (.int .i64 (spn enc []).b)∧w'.cell? ⟨w.heap.size,3,none⟩=some (.bool (spn enc []).lf)∧w'.cell? ⟨w.heap.size,4,none⟩=some (.bool (spn enc []).cr))∧∀ i,w'.frozen? ⟨w.heap.size,i,none⟩=false):=fun w' hb=>⟨(HBL4.out.ext hb).cells.1,(HBL4.out.ext hb).cells.2.2.2.2⟩
    have hzx:w.heap.size < wz.heap.size:=HBL4.out.lt
    have FIN:Hid (∀ w' r,Below wz.heap.size wz w'→r=spn enc ([] ++ [a])→OwnR (((((w'.setCell ⟨w.heap.size,0,none⟩ (.int .i64 r.a)).setCell ⟨w.heap.size,1,none⟩ (.int .i64 r.s)).setCell ⟨w.heap.size,2,none⟩ (.int .i64 r.b)).setCell ⟨w.heap.size,3,none⟩ (.bool r.lf)).setCell ⟨w.heap.size,4,none⟩ (.bool r.cr)) w0.heap.size 97 u7 (mks enc b o 0 (gs++[cur]))∧Blk 94 (((((w'.setCell ⟨w.heap.size,0,none⟩ (.int .i64 r.a)).setCell ⟨w.heap.size,1,none⟩ (.int .i64 r.s)).setCell ⟨w.heap.size,2,none⟩ (.int .i64 r.b)).setCell ⟨w.heap.size,3,none⟩ (.bool r.lf)).setCell ⟨w.heap.size,4,none⟩ (.bool r.cr)) w.heap.size (spn enc ([] ++ [a]))∧Below w.heap.size w (((((w'.setCell ⟨w.heap.size,0,none⟩ (.int .i64 r.a)).setCell ⟨w.heap.size,1,none⟩ (.int .i64 r.s)).setCell ⟨w.heap.size,2,none⟩ (.int .i64 r.b)).setCell ⟨w.heap.size,3,none⟩ (.bool r.lf)).setCell ⟨w.heap.size,4,none⟩ (.bool r.cr))∧w0.heap.size≤(((((w'.setCell ⟨w.heap.size,0,none⟩ (.int .i64 r.a)).setCell ⟨w.heap.size,1,none⟩ (.int .i64 r.s)).setCell ⟨w.heap.size,2,none⟩ (.int .i64 r.b)).setCell ⟨w.heap.size,3,none⟩ (.bool r.lf)).setCell ⟨w.heap.size,4,none⟩ (.bool r.cr)).heap.size):=fun w' r hb hr=>by
     subst hr
     obtain ⟨p1,p2⟩:=(HBL4.out.ext hb).put (spn enc ([] ++ [a]))
     exact ⟨(HOW4.out.ext hb).other p2 (by omega),p1,zbp (zxt HBW4.out hb) (zxt HBW4.out hb).size p2 (Nat.le_refl _),Nat.le_trans hw04 (Nat.le_trans hb.size p2.size)⟩
    obtain ⟨z0,zf⟩:=HP.out wz (Below.refl _ _)
    generalize spn enc []=sd at AD HP z0
    go_upto_region 12 with fail
    refine wp_region_held_drew (S:=fun _=>True) (by kernel_rfl) (trivial) (fun _=>?_)
    refine tkH 1 rfl ?_
    refine tkH 2 rfl ?_
    refine wpAnyH_ready (rs:=[0,3]) (by kernel_rfl) (by simp) ?_
    refine (AllReadyH.cons (o:=_) rfl (fun K hK=>?_) (AllReadyH.cons (o:=_) rfl (fun K hK=>?_) AllReadyH.nil))
    ·skip
     go_simp
     refine hK.out _ _ ?_ (fun _=>?_)
     ·trivial
     clear hK K
     try simp only [Act.put,tS]
     refine rdH 3 rfl fun K hK=>?_
     go_simp
     refine (SG.out _).mono ?_;clear z0;rintro e w4 ⟨rfl,hb⟩;have HB4:Hid (Below wz.heap.size wz w4):=zxt (by repeat (first | exact HB5.out | exact HB4.out | exact Below.refl _ _ | apply Below.drew | refine zxa ?_ _)) hb;obtain ⟨z0,zf⟩:=HP.out w4 HB4.out;clear hb;try go_wp2_with fail
     refine hK.out _ _ ?_ (fun _=>?_)
     ·trivial
     clear hK K
     try simp only [Act.put,tS]
     refine rdH 4 rfl fun K hK=>?_
     go_simp
     refine (AD.out _).mono ?_;clear z0;rintro e w5 ⟨q5,HQ5,rfl,hb⟩;have HB5:Hid (Below wz.heap.size wz w5):=zxt (by repeat (first | exact HB5.out | exact HB4.out | exact Below.refl _ _ | apply Below.drew | refine zxa ?_ _)) hb;obtain ⟨z0,zf⟩:=HP.out w5 HB5.out;have hz5:w.heap.size < w5.heap.size:=Nat.lt_of_lt_of_le hzx HB5.out.size;clear hb;try go_wp2_with fail
     refine hK.out _ _ ?_ (fun _=>?_)
     ·trivial
     clear hK K
     try simp only [Act.put,tS]
     refine rdH 5 rfl fun K hK=>?_
     go_simp
     refine hK.out _ _ ?_ (fun _=>?_)
     ·trivial
     clear hK K
     try simp only [Act.put,tS]
     refine dnH ?_
     go_wp2_with fail
     go_roundg (al.length - (j + 1))
     case rel=>exact ⟨j + 1,(gs++[cur]),[] ++ [a],by omega,by go_num,vi (by have h1:=HL'.out.1;first | omega | (have:=HEN2.out;omega)),vi (by have h1:=HL'.out.1;have h2:=HL'.out.2;have h3:=ln_app enc [] [a];have h4:=ln_one enc a;have h5:=HSZ.out;first | omega | (have:=HEN2.out;omega)),HC',(FIN.out _ _ HB5.out HQ5.out).1,(FIN.out _ _ HB5.out HQ5.out).2.1,(FIN.out _ _ HB5.out HQ5.out).2.2.1,(FIN.out _ _ HB5.out HQ5.out).2.2.2⟩
     case measure=>omega
    ·skip
     go_simp
     refine (SG.out _).mono ?_;clear z0;rintro e w4 ⟨rfl,hb⟩;have HB4:Hid (Below wz.heap.size wz w4):=zxt (by repeat (first | exact HB5.out | exact HB4.out | exact Below.refl _ _ | apply Below.drew | refine zxa ?_ _)) hb;obtain ⟨z0,zf⟩:=HP.out w4 HB4.out;clear hb;try go_wp2_with fail
     refine hK.out _ _ ?_ (fun _=>?_)
     ·trivial
     clear hK K
     try simp only [Act.put,tS]
     refine rdH 0 rfl fun K hK=>?_
     go_simp
     refine hK.out _ _ ?_ (fun _=>?_)
     ·trivial
     clear hK K
     try simp only [Act.put,tS]
     refine rdH 4 rfl fun K hK=>?_
     go_simp
     refine (AD.out _).mono ?_;clear z0;rintro e w5 ⟨q5,HQ5,rfl,hb⟩;have HB5:Hid (Below wz.heap.size wz w5):=zxt (by repeat (first | exact HB5.out | exact HB4.out | exact Below.refl _ _ | apply Below.drew | refine zxa ?_ _)) hb;obtain ⟨z0,zf⟩:=HP.out w5 HB5.out;have hz5:w.heap.size < w5.heap.size:=Nat.lt_of_lt_of_le hzx HB5.out.size;clear hb;try go_wp2_with fail
     refine hK.out _ _ ?_ (fun _=>?_)
     ·trivial
     clear hK K
     try simp only [Act.put,tS]
     refine rdH 5 rfl fun K hK=>?_
     go_simp
     refine hK.out _ _ ?_ (fun _=>?_)
     ·trivial
     clear hK K
     try simp only [Act.put,tS]
     refine dnH ?_
     go_wp2_with fail
     go_roundg (al.length - (j + 1))
     case rel=>exact ⟨j + 1,(gs++[cur]),[] ++ [a],by omega,by go_num,vi (by have h1:=HL'.out.1;first | omega | (have:=HEN2.out;omega)),vi (by have h1:=HL'.out.1;have h2:=HL'.out.2;have h3:=ln_app enc [] [a];have h4:=ln_one enc a;have h5:=HSZ.out;first | omega | (have:=HEN2.out;omega)),HC',(FIN.out _ _ HB5.out HQ5.out).1,(FIN.out _ _ HB5.out HQ5.out).2.1,(FIN.out _ _ HB5.out HQ5.out).2.2.1,(FIN.out _ _ HB5.out HQ5.out).2.2.2⟩
     case measure=>omega
 obtain ⟨gs,cur,rfl,rfl,HC,HOW,HBL,HBW⟩:=hcut
 generalize hwc:wc=wl at *
 clear hwc
 have hll:=HC.out.len
 by_cases hcur:cur=[]
 ·have hc0:ln enc cur=0:=by rw [hcur];rfl
  have HFL:=zh (show gs.flatten=al by have e:=HC.out.all;rw [hcur,List.append_nil,List.take_length] at e;exact e)
  have HGS:=zh HC.out.gr
  clear hcur
  rw [hc0]
  generalize ln enc gs.flatten=st at *
  go_wp2_with fail
  go_ret
  exact ⟨_,gs,rfl,⟨HFL.out,HGS.out,HOW.out.le (by omega)⟩,HBW.out⟩
 ·have hGr:Gr enc cur:=HC.out.cu.elim (fun h=>absurd h.1 hcur) id
  have HGR:=zh hGr
  have e0:=HC.out.all
  rw [List.take_length] at e0
  have hne:al≠[]:=fun e=>hcur (by rw [e] at e0;exact (List.append_eq_nil_iff.1 e0).2)
  obtain rfl:pb=some ⟨b,o,none⟩:=hP hne
  have HFL:=zh (show (gs ++ [cur]).flatten=al∧(∀ g ∈ gs ++ [cur],Gr enc g) from ⟨by rw [← e0];simp,fun x hx=>(List.mem_append.1 hx).elim (HC.out.gr x) (fun h=>by rw [List.mem_singleton] at h;subst h;exact HGR.out)⟩)
  have hw02:w0.heap.size≤wl.heap.size:=by have:=HBL.out.lt;omega
  generalize hstt:ln enc gs.flatten=st at *
  generalize hcuu:ln enc cur=cu at *
  have HST:=zh hstt
  have HCU:=zh hcuu
  clear hstt hcuu hGr e0 hP
  obtain ⟨en,hen⟩:∃ en:Nat,(en:Int)=(st:Int) + cu:=⟨st + cu,by omega⟩
  have hes:¬ en=st:=by have:=HGR.out.lpos;rw [HCU.out] at this;omega
  have hes':((st:Int) == (en:Int))=false:=by simp;omega
  have hse:st≤en:=by omega
  have hec:en≤cb:=by omega
  obtain ⟨su,oks,hPX,hsu⟩:∃ (su:Rs) (ok:Rs.Ok su),mkx enc b o st cur=⟨some ⟨b,o + st,none⟩,en - st,en - st,(st:Int),su,ok⟩∧spn enc cur=su:=⟨_,spn_ok enc cur,by rw [mkx,show en - st=cu by omega,HCU.out],rfl⟩
  have HMS:=zh (show mks enc b o 0 (gs ++ [cur])=mks enc b o 0 gs ++ [⟨some ⟨b,o + st,none⟩,en - st,en - st,(st:Int),su,oks⟩] by rw [mks_snoc,Nat.zero_add,HST.out,hPX])
  rw [← hen]
  rw [hsu] at HBL
  have z0:=HBL.out.cells.1
  have HML:=zh (show (mks enc b o 0 gs).length + 1≤1099511627776 by rw [mks_len];have:=hll.1;omega)
  clear hPX hsu hen
  go_upto_region 16 with fail
  refine wp_region_held_drew (S:=fun w''=>(w''.cell? ⟨w.heap.size,0,none⟩=some (.int .i64 su.a)∧w''.cell? ⟨w.heap.size,1,none⟩=some (.int .i64 su.s)∧w''.cell? ⟨w.heap.size,2,none⟩=some (.int .i64 su.b)∧w''.cell? ⟨w.heap.size,3,none⟩=some (.bool su.lf)∧w''.cell? ⟨w.heap.size,4,none⟩=some (.bool su.cr))) (by kernel_rfl) (by first | exact z0 | (dsimp only;go_keep)) (fun _=>?_)
  refine tkH 0 rfl ?_
  refine tkH 1 rfl ?_
  refine tkH 2 rfl ?_
  refine tkH 3 rfl ?_
  refine tkH 4 rfl ?_
  refine tkH 5 rfl ?_
  refine tkH 6 rfl ?_
  refine tkH 7 rfl ?_
  refine tkH 8 rfl ?_
  refine rdH 9 rfl fun K hK=>?_
  go_simp
  refine hK.out _ _ ?_ (fun _=>?_)
  ·first | exact z0 | exact z9 | ((try dsimp only);go_keep)
  clear hK K
  try simp only [Act.put,tS]
  refine rdH 10 rfl fun K hK=>?_
  rw [if_pos (by rfl)]
  refine wp_append_piece _ _ 112 (by rfl) w0.heap.size 97 Tryz.info_piece Tryz.underlying112 u7 (mks enc b o 0 gs) (by rfl) (HOW.out.ext (new_drew _ _)) ⟨some ⟨b,o + st,none⟩,en - st,en - st,(st:Int),su,oks⟩ wl.heap.size (by rfl) (lit7 wl 97 ⟨some ⟨b,o + st,none⟩,en - st,en - st,(st:Int),su,oks⟩) HML.out (Nat.le_trans hw02 (new_drew _ _).size) ?_;intro v' w9 hown' hg';have HB9:=zh (below_append HOW.out HBW.out (by omega) HBW.out.size (new_drew _ _) hg');have HBL9:=zh (blk_append HOW.out HBL.out (by omega) (new_drew _ _) hg');have HOW9:=zh hown';have hs9:=Nat.le_trans hw02 (Nat.le_trans (new_drew _ _).size hg'.size);have z9:=HBL9.out.cells.1;clear hown' hg';change K (Act.put _ (some 77) v') w9
  refine hK.out _ _ ?_ (fun _=>?_)
  ·first | exact z0 | exact z9 | ((try dsimp only);go_keep)
  clear hK K
  try simp only [Act.put,tS]
  refine rdH 11 rfl fun K hK=>?_
  go_simp
  refine hK.out _ _ ?_ (fun _=>?_)
  ·first | exact z0 | exact z9 | ((try dsimp only);go_keep)
  clear hK K
  try simp only [Act.put,tS]
  refine dnH ?_
  go_wp2_with fail
  go_ret
  exact ⟨_,gs ++ [cur],rfl,⟨HFL.out.1,HFL.out.2,by rw [HMS.out];exact HOW9.out.le (by omega)⟩,HB9.out⟩
end Go.Proofs.YtdhciadajendnaaGreat.P
