import Derived.Test.YtgfdfajblidleaaGreatK12
import Derived.OwnWalk
import Derived.Deep.CutRange
import Derived.Laws.CopyOwn
set_option maxRecDepth 100000
namespace Go.Proofs.YtgfdfajblidleaaGreat.P
open Go.RowKit
set_option maxHeartbeats 1000000 in
theorem copyOf_any (v:Value) (zs:List Int) (w:World) (h:Rd .u8 w v zs) (hl:zs.length≤1099511627776) :
  Calls Tryz.prog 51 #[v] w fun e w'=>e=.returned (.slice (some ⟨w.heap.size,0,none⟩) zs.length zs.length)∧w'.heap[w.heap.size]?=some (.cells (zs.map (Value.int .u8)).toArray 5 (0,0))∧Below w.heap.size w w':=by
 obtain ⟨i0,hi,hz0,hz1,hz2⟩:=info_parts Tryz.info_u8
 obtain ⟨ao,cap,rfl,h1,h2,h3⟩:=h
 have H3:=zh h3
 clear h3
 go_enter Tryz.func51,Tryz.ntmps51
 go_upto_region 2 with (refine wpList_make_full w rfl _ _ 22 rfl w.heap.size 5 i0 (.int .u8 0) 1 Tryz.underlying22 hi hz0 hz1 .i64 .i64 _ _ zs.length rfl rfl rfl rfl (by rw [hz2];omega) (by unfold maxLen;omega) (Nat.le_refl _) ?_;intro w1 hO hg;have HO:=zh hO;have HG:=zh hg;clear hO hg)
 obtain ⟨e1,hh⟩:=HO.out
 rcases hh with ⟨hv,_⟩ | ⟨g,cp,cur,hv,_,hcur,hcp1,hcp2,hcs,htk⟩
 ·cases hv
 simp only [Value.slice.injEq,Option.some.injEq,Addr.mk.injEq] at hv
 obtain ⟨⟨hg0,_,_⟩,_,hcp⟩:=hv
 subst hg0
 subst hcp
 have HCUR:=zh (show w1.heap[w.heap.size]?=some (.cells cur.toList.toArray 5 (0,0)) from hcur)
 have hlen:cur.toList.length=zs.length:=by rw [Array.length_toList,hcs,Nat.mul_one]
 have HB1:=zh (Below.grown (Below.refl w.heap.size w) HG.out (Nat.le_refl _) (fun k e=>by cases e))
 clear htk e1 hcur
 have HSRC:Hid (0 < (zs.map (Value.int .u8)).length→(some (⟨w.heap.size,0,none⟩:Addr))=some ⟨w.heap.size,0,none⟩∧∃ ad,ao=some ad∧∀ j u,(zs.map (Value.int .u8))[j]?=some u→w1.cell? (ad.add j)=some u):=fun hp=>by
  rw [List.length_map] at hp
  obtain ⟨b,off,rfl,hb,hc⟩:=H3.out (List.length_pos_iff.1 hp)
  refine ⟨rfl,_,rfl,fun j u hj=>?_⟩
  have hjl:j < zs.length:=by
   have:=(List.getElem?_eq_some_iff.1 hj).1
   rwa [List.length_map] at this
  rw [Addr.add_lit,HB1.out.cell (p:=⟨b,off + j,none⟩) hb,hc j hjl,← hj,List.getElem?_map,List.getElem?_eq_getElem hjl]
  rfl
 go_wp2_with (refine wpList_copy_splice rfl _ _ 22 22 rfl 5 Tryz.underlying22 (by rw [hi];simp [hz1]) _ _ _ _ _ _ rfl rfl w.heap.size 0 cur.toList 5 HCUR.out (zs.map (Value.int .u8)) (by simp) HSRC.out (by simp only [List.length_map];omega) (by simp [Value.oneCell']) w.heap.size w HB1.out (Nat.le_refl _) ?_;intro w2 hE hb2;have HE2:=zh hE.out;have HB2:=zh hb2;clear hE hb2)
 go_ret
 refine ⟨rfl,?_,HB2.out⟩
 have e:=HE2.out
 have es:splice cur.toList 0 (zs.map (Value.int .u8))=zs.map (Value.int .u8):=by
  unfold splice
  rw [List.take_zero,List.nil_append,List.drop_of_length_le (by rw [List.length_map];omega),List.append_nil]
 rw [es] at e
 exact e
open Go.RowKit
end Go.Proofs.YtgfdfajblidleaaGreat.P
