import Derived.Test.YtjomfbegghgbdaaGreatJ00
import Derived.Test.YtjomfbegghgbdaaGreatJ29
import Derived.Test.YtjomfbegghgbdaaGreatJ35
namespace Go.Proofs.YtjomfbegghgbdaaGreat.P
open Go.RowKit
structure Sm (enc:Int) (W:World) (bo t:Nat) (v:Value) (w:World) (A:List Int):Prop where
 bx:w.heap[bo]?=some (.cells #[.pointer (some ⟨t,0,none⟩),v] 29 (0,0))
 tz:Tz enc w t A
 bl:Below W.heap.size W w
 b1:W.heap.size≤bo
 b2:W.heap.size≤t
theorem Sm.ext {enc:Int} {W w w':World} {bo t:Nat} {v:Value} {A:List Int} (h:Sm enc W bo t v w A) (hb:Below w.heap.size w w'):Sm enc W bo t v w' A :=
 ⟨(hb.block bo (Array.getElem?_eq_some_iff.1 h.bx).1).trans h.bx,h.tz.ext hb,h.bl.trans (hb.mono h.bl.size),h.b1,h.b2⟩
theorem Sm.ne {enc:Int} {W w:World} {bo t:Nat} {v:Value} {A:List Int} (h:Sm enc W bo t v w A):bo≠t:=fun e=>by
 have h1:Typ 29 w bo:=⟨_,h.bx⟩
 rw [e] at h1
 exact absurd (Typ.uniq h1 h.tz.typ) (by decide)
theorem Sm.chg {enc:Int} {W w w':World} {bo t:Nat} {v:Value} {A B:List Int} (h:Sm enc W bo t v w A) (ht:Tz enc w' t B) (hk:Kps (fun k=>k=t) w w'):Sm enc W bo t v w' B :=
 ⟨(hk.same bo (Array.getElem?_eq_some_iff.1 h.bx).1 h.ne).trans h.bx,ht,h.bl.trans (hk.below h.bl.size (fun k e=>by rw [e];exact h.b2)),h.b1,h.b2⟩
theorem Sm.cell {enc:Int} {W w:World} {bo t:Nat} {v:Value} {A:List Int} (h:Sm enc W bo t v w A):w.cell? ⟨bo,0,none⟩=some (.pointer (some ⟨t,0,none⟩)):=(cells2 h.bx).2.1
theorem cnt_pos (enc:Int) (A:List Int):¬ cnt enc A < 1:=by
 have:=spn_nn enc A
 rw [cnt_tail]
 split <;> omega
theorem cut_z {enc:Int} {W w:World} {bo t:Nat} {v:Value} {A:List Int} (h:Sm enc W bo t v w A) (f g:Nat) (hf:f≤g) (hg:g≤A.length) (hl:ln enc A≤65536) :
  Calls Tryz.prog 34 #[.pointer (some ⟨t,0,none⟩),.slice (some ⟨w.heap.size,0,none⟩) 1 1] (w.alloc (.cells #[.int .i64 (f:Nat),.int .i64 (g:Nat),.slice none 0 0] 64)) fun e w'=>e=.returned (.int .i64 0)∧Sm enc W bo t v w' (spl A f g [])∧Kps (fun k=>k=t) w w':=by
 have hb:Below w.heap.size w (w.alloc (.cells #[.int .i64 (f:Nat),.int .i64 (g:Nat),.slice none 0 0] 64)):=ext_alloc (Below.refl _ _) _
 have hE:=edr_lit1 w (f:Nat) (g:Nat) (.slice none 0 0) [] ⟨none,0,rfl,by simp,by decide,fun h=>absurd rfl h⟩
 refine (Change_z enc _ t A _ f g [] (h.tz.ext hb) hE hf hg (fun a ha=>by cases ha) (by simpa using hl)).mono ?_
 rintro e w' ⟨rfl,h1,h2⟩
 exact ⟨rfl,(h.ext hb).chg h1 h2,(Kps.of_below _ hb).trans h2 (fun _ _ e=>e)⟩
theorem Sm.oth {enc:Int} {W w w':World} {bo t g:Nat} {v:Value} {A:List Int} (h:Sm enc W bo t v w A) (hk:w.grownBy w' (some g)) (hg:Typ 50 w g) (hge:W.heap.size≤g):Sm enc W bo t v w' A:=by
 have hkk:Kps (fun k=>k=g) w w':=Kps.grown hk (fun j e _=>(Option.some.inj e).symm)
 have h1:bo≠g:=fun e=>by
  have h1:Typ 29 w bo:=⟨_,h.bx⟩
  rw [e] at h1
  exact absurd (Typ.uniq h1 hg) (by decide)
 have h2:g≠t:=fun e=>by
  rw [e] at hg
  exact absurd (Typ.uniq hg h.tz.typ) (by decide)
 exact ⟨(hkk.same bo (Array.getElem?_eq_some_iff.1 h.bx).1 h1).trans h.bx,h.tz.other hkk hg (by decide) (by decide) h2,h.bl.trans (hkk.below h.bl.size (fun k e=>by rw [e];exact hge)),h.b1,h.b2⟩
structure Sl (enc:Int) (W:World) (bo t:Nat) (v:Value) (bl:Nat) (f:Int) (p:Nat) (w:World) (A:List Int):Prop where
 s:Sm enc W bo t v w A
 l:w.heap[bl]?=some (.cells #[.int .i64 f,.int .i64 (p:Nat),.int .i64 ((p:Int) + 2),.int .i64 2] 50 (0,0))
theorem Sl.ext {enc:Int} {W w w':World} {bo t bl p:Nat} {v:Value} {f:Int} {A:List Int} (h:Sl enc W bo t v bl f p w A) (hb:Below w.heap.size w w'):Sl enc W bo t v bl f p w' A :=
 ⟨h.s.ext hb,(hb.block bl (Array.getElem?_eq_some_iff.1 h.l).1).trans h.l⟩
theorem Sl.chg {enc:Int} {W w w':World} {bo t bl p:Nat} {v:Value} {f:Int} {A B:List Int} (h:Sl enc W bo t v bl f p w A) (ht:Tz enc w' t B) (hk:Kps (fun k=>k=t) w w'):Sl enc W bo t v bl f p w' B:=by
 refine ⟨h.s.chg ht hk,(hk.same bl (Array.getElem?_eq_some_iff.1 h.l).1 (fun e=>?_)).trans h.l⟩
 have h1:Typ 50 w bl:=⟨_,h.l⟩
 rw [e] at h1
 exact absurd (Typ.uniq h1 h.s.tz.typ) (by decide)
theorem Sl.cs {enc:Int} {W w:World} {bo t bl p:Nat} {v:Value} {f:Int} {A:List Int} (h:Sl enc W bo t v bl f p w A):w.cell? ⟨bo,0,none⟩=some (.pointer (some ⟨t,0,none⟩))∧w.cell? ⟨bl,1,none⟩=some (.int .i64 (p:Nat))∧w.cell? ⟨bl,2,none⟩=some (.int .i64 ((p:Int) + 2))∧w.cell? ⟨bl,3,none⟩=some (.int .i64 2):=by
 obtain ⟨_,_,c1,c2,c3,_⟩:=cells4 h.l
 exact ⟨h.s.cell,c1,c2,c3⟩
theorem Sl.oth {enc:Int} {W w w':World} {bo t bl p g:Nat} {v:Value} {f:Int} {A:List Int} (h:Sl enc W bo t v bl f p w A) (hk:w.grownBy w' (some g)) (hg:Typ 50 w g) (hge:W.heap.size≤g) (hne:bl≠g):Sl enc W bo t v bl f p w' A :=
 ⟨h.s.oth hk hg hge,(hk.block bl (Array.getElem?_eq_some_iff.1 h.l).1 (fun e=>hne (Option.some.inj e))).trans h.l⟩
end Go.Proofs.YtjomfbegghgbdaaGreat.P
