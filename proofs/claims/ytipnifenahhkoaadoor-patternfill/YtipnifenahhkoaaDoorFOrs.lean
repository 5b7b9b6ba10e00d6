/- orders: a row of orders. -/
import Derived.Test.YtipnifenahhkoaaDoorFOdr
import Derived.Test.YtipnifenahhkoaaDoorAppBlk
namespace Go.Proofs.YtipnifenahhkoaaDoor
open Go.RowKit

/-- An order with the place of what it gives. -/
structure Ox where
  o : Od
  ga : Option Addr
  gc : Nat
/-- Its two cells. -/
def oxC (x : Ox) : List Value := [.slice x.ga x.o.gives.length x.gc, .int .i64 x.o.letter]
def oxs (xs : List Ox) : List Value := xs.flatMap oxC
/-- A row of orders of the call's own. -/
def OwnO (w : World) (base lo : Nat) (v : Value) (xs : List Ox) : Prop := w.ownsRow lo 51 2 v xs.length (oxs xs) ∧ ∀ x ∈ xs, Gv w base x.ga x.gc x.o.gives
theorem info_ord : (Tryd.prog.info? 51).map (fun i => (i.zero, i.size, i.bytes)) = some (some (.agg #[.slice none 0 0, .int .i64 0]), 2, 32) := by kernel_rfl
theorem one2 (a : Option Addr) (n c : Nat) (l : Int) : ∀ u ∈ [Value.slice a n c, Value.int .i64 l], u.oneCell' = true := by
  intro u hu
  simp only [List.mem_cons, List.not_mem_nil, or_false] at hu
  rcases hu with rfl | rfl <;> rfl
theorem cell2_new (w : World) (T : TypeId) (a b : Value) : ∀ (j : Nat) (u : Value), [a, b][j]? = some u → (w.alloc (.cells #[a, b] T)).cell? ((⟨w.heap.size, 0, none⟩ : Addr).add j) = some u := by
  intro j u hj
  have h := heap_alloc_new w (.cells #[a, b] T)
  rcases j with _ | _ | j
  · cases hj; exact (cells2 h).1
  · cases hj; exact (cells2 h).2
  · simp at hj
theorem own_blk {w : World} {base : Nat} {e : TypeId} {size n : Nat} {v : Value} {xs : List Value} (h : w.ownsRow base e size v n xs) {g : Nat} (hg : v.ownBlock = some g) : base ≤ g ∧ ∃ cur, w.heap[g]? = some (.cells cur e (0, 0)) := by
  rcases h.2 with ⟨rfl, _⟩ | ⟨g', cap, cur, rfl, hb, hg', _⟩
  · cases hg
  · have e : g' = g := by simpa [Value.ownBlock] using hg
    subst e
    exact ⟨hb, cur, hg'⟩
theorem own_stay {w w' : World} {base : Nat} {e : TypeId} {size n : Nat} {v : Value} {xs : List Value} (h : w.ownsRow base e size v n xs) (hs : ∀ g, v.ownBlock = some g → w'.heap[g]? = w.heap[g]?) : w'.ownsRow base e size v n xs := by
  obtain ⟨h1, h2⟩ := h
  refine ⟨h1, ?_⟩
  rcases h2 with h2 | ⟨g, cap, cur, rfl, hb, hg, r⟩
  · exact .inl h2
  · exact .inr ⟨g, cap, cur, rfl, hb, (hs g rfl).trans hg, r⟩
theorem own_lt {w : World} {base : Nat} {e : TypeId} {size n : Nat} {v : Value} {xs : List Value} (h : w.ownsRow base e size v n xs) {g : Nat} (hg : v.ownBlock = some g) : g < w.heap.size := by
  obtain ⟨_, cur, hc⟩ := own_blk h hg
  exact (Array.getElem?_eq_some_iff.1 hc).1
theorem own_ne {y : World} {b base : Nat} {e : TypeId} {size n : Nat} {v : Value} {xs : List Value} {cs : Array Value} {T : TypeId} {r : Nat × Nat} (h : y.ownsRow base e size v n xs) (hb : y.heap[b]? = some (.cells cs T r)) (hT : T ≠ e) : v.ownBlock ≠ some b := by
  intro e
  obtain ⟨_, cur, hc⟩ := own_blk h e
  rw [hc] at hb
  cases hb
  exact hT rfl
theorem form_own {w : World} {base : Nat} {e : TypeId} {size n : Nat} {v : Value} {xs : List Value} (h : w.ownsRow base e size v n xs) : ∃ ao c, v = .slice ao n c := by
  rcases h.2 with ⟨rfl, rfl⟩ | ⟨g, cap, cur, rfl, _⟩
  · exact ⟨_, _, rfl⟩
  · exact ⟨_, _, rfl⟩
theorem OwnO.ext {w w' : World} {base lo : Nat} {v : Value} {xs : List Ox} (h : OwnO w base lo v xs) (hb : Below w.heap.size w w') : OwnO w' base lo v xs :=
  ⟨own_stay h.1 (fun g e => hb.block g (own_lt h.1 e)), fun x hx => (h.2 x hx).grown (grown_of hb none) (fun k e => by cases e)⟩
/-- The filler's block has turned. -/
theorem OwnO.fill {w w' : World} {base lo b : Nat} {v : Value} {xs : List Ox} {cs : Array Value} (h : OwnO w base lo v xs) (hb : w.heap[b]? = some (.cells cs 37 (0, 0))) (hbb : base ≤ b) (hg : w.grownBy w' (some b)) : OwnO w' base lo v xs :=
  ⟨own_stay h.1 (fun g e => hg.block g (own_lt h.1 e) (fun e2 => own_ne h.1 hb (by decide) (by rw [e]; exact e2))), fun x hx => (h.2 x hx).grown hg (fun k e => by cases e; exact ⟨hbb, not_int hb (by decide)⟩)⟩
/-- An order more. -/
theorem OwnO.push {w w' : World} {base lo : Nat} {v v' : Value} {xs : List Ox} {x : Ox} (h : OwnO w base lo v xs) (hlo : base ≤ lo) (hx : Gv w base x.ga x.gc x.o.gives) (ho : w'.ownsRow lo 51 2 v' (xs.length + 1) (oxs xs ++ oxC x)) (hg : w.grownBy w' v.ownBlock) : OwnO w' base lo v' (xs ++ [x]) := by
  have key : ∀ k, v.ownBlock = some k → base ≤ k ∧ ∀ cs, w.heap[k]? ≠ some (.cells cs 3 (0, 0)) := fun k e => by
    obtain ⟨h1, cur, h2⟩ := own_blk h.1 e
    exact ⟨Nat.le_trans hlo h1, not_int h2 (by decide)⟩
  refine ⟨?_, fun y hy => ?_⟩
  · rw [List.length_append]
    unfold oxs at ho ⊢
    rw [List.flatMap_append]
    simpa using ho
  · rcases List.mem_append.1 hy with hy | hy
    · exact (h.2 y hy).grown hg key
    · rw [List.mem_singleton.1 hy]
      exact hx.grown hg key
theorem rd_row {w w' : World} {row : Option Nat} {ao : Option Addr} {n c : Nat} {zs : List Int} (h : Rd .i64 w (.slice ao n c) zs) (hg : w.grownBy w' row) (hn : ∀ k o, ao = some ⟨k, o, none⟩ → row ≠ some k) : Rd .i64 w' (.slice ao n c) zs := by
  obtain ⟨ao', cap, e, h1, h2, h3⟩ := h
  cases e
  refine ⟨ao, c, rfl, h1, h2, fun hne => ?_⟩
  obtain ⟨k, o, rfl, hk, hc⟩ := h3 hne
  refine ⟨k, o, rfl, Nat.lt_of_lt_of_le hk hg.size, fun i hi => ?_⟩
  rw [← hc i hi]
  have := hg.block k hk (fun e => hn k o rfl e.symm)
  unfold World.cell?
  simp only [this]
theorem Fl.row {w w' : World} {b base : Nat} {sa : Option Addr} {sc : Nat} {rep : List Int} {p : Nat} {la : Option Addr} {lc : Nat} {line mt : List Int} {row : Option Nat} (h : Fl w b sa sc rep p la lc line mt) (ho : Old base b sa la) (hg : w.grownBy w' row) (hr : ∀ k, row = some k → k ≠ b ∧ base ≤ k) : Fl w' b sa sc rep p la lc line mt :=
  ⟨(hg.block b h.lt (fun e => (hr b e.symm).1 rfl)).trans h.blk, rd_row h.rs hg (fun k o e e2 => by have := ho.s k o e; have := (hr k e2).2; omega), rd_row h.rl hg (fun k o e e2 => by have := ho.l k o e; have := (hr k e2).2; omega), h.ml, h.pl, h.rl2⟩
theorem grown_row {a b c : World} {k : Nat} {row : Option Nat} (h : a.grownBy b (some k)) (h' : b.grownBy c row) (hr : ∀ j, row = some j → a.heap.size ≤ j) : a.grownBy c (some k) :=
  ⟨h'.os.trans h.os, h'.tape.trans h.tape, h'.output.trans h.output, Nat.le_trans h.size h'.size, fun j hj hk => (h'.block j (Nat.lt_of_lt_of_le hj h.size) (fun e => by have := hr j e.symm; omega)).trans (h.block j hj hk)⟩
theorem tak_len (line mt : List Int) (k : Nat) : (tak line mt k).length ≤ line.length := by
  unfold tak
  rw [List.length_drop, List.length_take]
  omega
theorem ste_len {line mt src : List Int} {p : Nat} {o : Od} {q : Nat} (h : ste line mt src p = some (o, q)) : o.gives.length ≤ line.length + 1 := by
  have ht := tak_len line mt
  unfold ste at h
  split at h
  · cases h; have := ht 0; simp only; omega
  split at h
  · unfold bsl at h
    split at h
    · cases h
    split at h
    · cases h; simp
    split at h
    · cases h; simp
    split at h
    · cases hx : sgn src (p + 1) with
      | none => rw [hx] at h; cases h
      | some x => rw [hx] at h; cases h; simp
    split at h
    · cases h
      have := ht ((src[p + 1]?.getD 0) - 48).toNat
      simp only
      omega
    · cases h; simp
  · cases h; simp
theorem siz_snoc (os : List Od) (o : Od) : siz (os ++ [o]) = siz os + o.gives.length := by simp [siz]
/-- What orders leaves. -/
def OrR (w : World) (base b : Nat) (rep line mt : List Int) (e : Ending) (w' : World) : Prop :=
  match par line mt rep 0 with
  | none => e = .panicked gvP ∧ w.grownBy w' (some b)
  | some os => ∃ v xs, e = .returned (.tuple #[v, .int .i64 (siz os)]) ∧ xs.map Ox.o = os ∧ OwnO w' base w.heap.size v xs ∧ xs.length ≤ 256 ∧ siz os ≤ 256 * (line.length + 1) ∧ w.grownBy w' (some b)
set_option maxRecDepth 100000 in
set_option maxHeartbeats 8000000 in
theorem orders_any {w : World} {b : Nat} {sa : Option Addr} {sc : Nat} {rep : List Int} {la : Option Addr} {lc : Nat} {line mt : List Int} {base : Nat} (h : Fl w b sa sc rep 0 la lc line mt) (ho : Old base b sa la) (hi : In64 rep) (hln : line.length ≤ 17592186044416) :
    Calls Tryd.prog 14 #[.pointer (some ⟨b, 0, none⟩)] w fun e w' => OrR w base b rep line mt e w' := by
  have HO := hidIt ho
  have HI := hidIt hi
  have HF0 := hidIt h
  have h256 := h.rl2
  have HBB : Hid (base ≤ w.heap.size) := by have := h.lt; have := ho.b; unfold Hid; omega
  obtain ⟨i0, hii, hz0, hz1, hz2⟩ := info_parts info_ord
  have HR : Hid (∀ e w', OrR w base b rep line mt e w' → OrR w base b rep line mt e w') := fun _ _ h => h
  clear h ho hi
  go_enter Tryd.func14, Tryd.ntmps14
  go_wp2_with fail
  go_loopw [4, 5] (fun l s wr => ∃ (p : Nat) (xs : List Ox), s = .int .i64 (siz (xs.map Ox.o)) ∧ Hid (Fl wr b sa sc rep p la lc line mt) ∧ Hid (OwnO wr base w.heap.size l xs) ∧ Hid (xs.length ≤ p) ∧ Hid (siz (xs.map Ox.o) ≤ xs.length * (line.length + 1)) ∧ Hid (par line mt rep 0 = (par line mt rep p).map ((xs.map Ox.o) ++ ·)) ∧ Hid (w.grownBy wr (some b)) ∧ p ≤ rep.length) (fun _ _ wr => match wr.cell? ⟨b, 1, none⟩ with | some (.int .i64 p) => rep.length - p.toNat | _ => 0)
  case atStart => exact ⟨0, [], rfl, HF0.out, ⟨World.ownsRow_nil _ _ _ _, (fun x hx => by cases hx)⟩, Nat.le_refl _, Nat.zero_le _, (by unfold Hid; cases par line mt rep 0 <;> rfl), grown_of (Below.refl _ _) _, Nat.zero_le _⟩
  case round =>
    obtain ⟨p, xs, rfl, HF, HOW, HXL, HSZ, HPA, HG, hpl⟩ := hrel
    clear HF0
    obtain ⟨c0, c1, _, _⟩ := HF.out.cells
    by_cases hp : p < rep.length
    · have hd1 : decide ((p : Int) < (rep.length : Int)) = true := by simp; omega
      have hws : w.heap.size ≤ wr.heap.size := HG.out.size
      go_wp2_with fail
      go_quiet (fail)
      obtain ⟨y0, hy0, hb0⟩ : ∃ y0, y0 = wr.drewN nq ∧ Below wr.heap.size wr y0 := ⟨_, rfl, below_drewN (Below.refl _ _) _⟩
      rw [← hy0]
      have HC1 : Hid (wr.cell? ⟨b, 1, none⟩ = some (.int .i64 p)) := c1
      clear hy0 c0 c1
      have F0 := hidIt (HF.out.ext hb0)
      have W0 := hidIt (HOW.out.ext hb0)
      have G0 : Hid (w.grownBy y0 (some b)) := grown_trans HG.out (grown_of hb0 _)
      have OAA := hidIt (order_any F0.out HO.out HI.out hp)
      have HST := hidIt (par_step line mt rep p hp)
      have HP := hidIt hp
      clear hp hb0 HF HOW HG
      cases hs : ste line mt rep p with
      | none =>
        rw [hs] at OAA HST
        have hpn : par line mt rep 0 = none := by rw [HPA.out, HST.out]; rfl
        clear hs
        go_wp2_with (go_at_call 20; refine OAA.out.mono ?_; rintro e y1 ⟨rfl, g1⟩; (try dsimp only); have G1 := hidIt g1; clear g1)
        refine ⟨rfl, HR.out _ _ ?_⟩
        unfold OrR
        rw [hpn]
        exact ⟨rfl, grown_trans G0.out G1.out⟩
      | some oq =>
        obtain ⟨o, q⟩ := oq
        have hlq := ste_le hs HP.out
        have hlo := ste_len hs
        rw [hs] at OAA HST
        have HPB : Hid (par line mt rep 0 = (par line mt rep q).map ((xs.map Ox.o ++ [o]) ++ ·)) := by
          unfold Hid
          rw [HPA.out, HST.out]
          show Option.map _ (Option.map _ (par line mt rep q)) = _
          cases par line mt rep q with
          | none => rfl
          | some l => simp
        have HLQ := hidIt hlq
        have HLO := hidIt hlo
        clear hs hlq hlo HST HPA
        obtain ⟨ra, rc, rfl⟩ := form_own W0.out.1
        have hsz1 : siz (xs.map Ox.o) ≤ 256 * 17592186044417 := by
          have h1 := HSZ.out
          have h2 := HXL.out
          have h3 : xs.length * (line.length + 1) ≤ 256 * 17592186044417 := Nat.mul_le_mul (by omega) (by omega)
          omega
        have hol : o.gives.length ≤ 17592186044417 := by have := HLO.out; omega
        generalize hS : siz (xs.map Ox.o) = S at *
        have s1 : IntKind.i64.wrap ((S : Int) + (o.gives.length : Int)) = ((S + o.gives.length : Nat) : Int) := by rw [IntKind.wrap_i64]; omega
        go_upto_region 5 with (go_at_call 20; refine OAA.out.mono ?_; rintro e y1 ⟨v, rfl, ⟨ga, gc, rfl, gv⟩, f1, g1⟩; (try dsimp only); have GV := hidIt gv; have F1 := hidIt f1; have G1 := hidIt g1; clear gv f1 g1)
        have W1 := hidIt (W0.out.fill F0.out.blk HO.out.b G1.out)
        have G01 := hidIt (grown_trans G0.out G1.out)
        clear W0 F0 G0 G1 OAA
        obtain ⟨y2, hy2, k2, b2⟩ : ∃ y2, y2 = y1.alloc (.cells #[.slice ga o.gives.length gc, .int .i64 o.letter] 51) ∧ y2.heap[y1.heap.size]? = some (.cells #[.slice ga o.gives.length gc, .int .i64 o.letter] 51 (0, 0)) ∧ Below y1.heap.size y1 y2 := ⟨_, rfl, heap_alloc_new _ _, ext_alloc (Below.refl _ _) _⟩
        rw [← hy2]
        clear hy2
        obtain ⟨e0, e1⟩ := cells2 k2
        have W2 := hidIt (W1.out.ext b2)
        have HRL : Hid (∀ k, (Value.slice ra xs.length rc).ownBlock = some k → w.heap.size ≤ k ∧ k < y1.heap.size) := fun k e => ⟨(own_blk W1.out.1 e).1, own_lt W1.out.1 e⟩
        have GV2 : Hid (Gv y2 base ga gc o.gives) := GV.out.grown (grown_of b2 none) (fun k e => by cases e)
        have F2 := hidIt (F1.out.ext b2)
        have G02 : Hid (w.grownBy y2 (some b)) := grown_trans G01.out (grown_of b2 _)
        have K2 := hidIt k2
        clear W1 GV F1 G01 b2 k2
        have hwy : w.heap.size ≤ y2.heap.size := G02.out.size
        have PUSH : Hid (∀ y3 v' w', y3 = y2.alloc (.cells #[.slice ga o.gives.length gc, .int .i64 o.letter] 51) → w'.ownsRow w.heap.size 51 2 v' (xs.length + 1) (oxs xs ++ [.slice ga o.gives.length gc, .int .i64 o.letter]) → y3.grownBy w' (Value.slice ra xs.length rc).ownBlock → OwnO w' base w.heap.size v' (xs ++ [Ox.mk o ga gc]) ∧ Fl w' b sa sc rep q la lc line mt ∧ w.grownBy w' (some b) ∧ w'.heap[y1.heap.size]? = some (.cells #[.slice ga o.gives.length gc, .int .i64 o.letter] 51 (0, 0))) := fun y3 v' w' hy3 hown hg => by
          subst hy3
          have b3 : Below y2.heap.size y2 (y2.alloc (.cells #[.slice ga o.gives.length gc, .int .i64 o.letter] 51)) := ext_alloc (Below.refl _ _) _
          have F3 := F2.out.ext b3
          have hbr : ∀ k, (Value.slice ra xs.length rc).ownBlock = some k → k ≠ b ∧ base ≤ k := fun k e => ⟨fun e2 => own_ne (W2.out.ext b3).1 F3.blk (by decide) (by rw [e, e2]), Nat.le_trans HBB.out (HRL.out k e).1⟩
          refine ⟨(W2.out.ext b3).push (x := Ox.mk o ga gc) HBB.out (GV2.out.grown (grown_of b3 none) (fun k e => by cases e)) hown hg, F3.row HO.out hg hbr, grown_row (grown_trans G02.out (grown_of b3 _)) hg (fun j e => (HRL.out j e).1), ?_⟩
          have hl := (Array.getElem?_eq_some_iff.1 K2.out).1
          exact (hg.block _ (Nat.lt_of_lt_of_le hl b3.size) (fun e => by have := (HRL.out _ e.symm).2; omega)).trans ((b3.block _ hl).trans K2.out)
        go_upto_region 6 with (at_builtin; refine wpList_append_blk _ rfl _ _ 38 rfl w.heap.size 51 i0 (.agg #[.slice none 0 0, .int .i64 0]) 2 32 Tryd.underlying38 hii hz0 hz1 hz2 rfl (by decide) (.slice ra xs.length rc) xs.length (oxs xs) rfl (W2.out.ext (ext_alloc (Below.refl _ _) _)).1 ⟨y2.heap.size, 0, none⟩ 1 1 [.slice ga o.gives.length gc, .int .i64 o.letter] rfl rfl (cell2_new _ _ _ _) (one2 _ _ _ _) (by have := HXL.out; unfold maxLen; omega) (by have := HXL.out; omega) (by simp; omega) (by decide) ?_; intro v9 w9 own9 hg9 hv9; obtain ⟨aa9, c9, rfl⟩ := form_own own9; have PU := hidIt (PUSH.out _ _ _ rfl own9 hg9); clear own9 hg9 hv9; (try dsimp only))
        obtain ⟨m0, m1⟩ := cells2 PU.out.2.2.2
        go_wp2_with fail
        go_roundw
        case rel =>
          refine ⟨q, xs ++ [Ox.mk o ga gc], ?_, PU.out.2.1, ?_, ?_, ?_, ?_, PU.out.2.2.1, HLQ.out.2⟩
          · rw [List.map_append]
            show Value.int .i64 _ = .int .i64 ((siz (xs.map Ox.o ++ [o]) : Nat) : Int)
            rw [siz_snoc, hS]
            first | rfl | simp
          · exact PU.out.1
          · have := HXL.out; have := HLQ.out; unfold Hid; rw [List.length_append]; simp; omega
          · have h1 := HSZ.out
            have h2 := HLO.out
            unfold Hid
            rw [List.map_append, List.length_append]
            show siz (xs.map Ox.o ++ [o]) ≤ (xs.length + 1) * (line.length + 1)
            rw [siz_snoc, hS, Nat.add_mul]
            omega
          · unfold Hid
            rw [List.map_append]
            exact HPB.out
        case measure =>
          obtain ⟨_, n1, _, _⟩ := PU.out.2.1.cells
          simp only [HC1.out, n1]
          have := HLQ.out
          have := HP.out
          omega
    · obtain rfl : p = rep.length := by omega
      have hd1 : decide ((rep.length : Int) < (rep.length : Int)) = false := by simp
      have hpe : par line mt rep 0 = some (xs.map Ox.o) := by
        rw [HPA.out, par_end line mt rep rep.length (Nat.le_refl _)]
        simp
      have hsz : siz (xs.map Ox.o) ≤ 256 * (line.length + 1) := Nat.le_trans HSZ.out (Nat.mul_le_mul_right _ (by have := HXL.out; omega))
      have hxl : xs.length ≤ 256 := by have := HXL.out; omega
      have HX := hidIt hpe
      have HSB := hidIt hsz
      have HXB := hidIt hxl
      generalize hS : siz (xs.map Ox.o) = S at *
      have HS := hidIt hS
      clear hpe hsz hxl hS
      go_wp2_with fail
      go_quiet (fail)
      go_wp2_with fail
      go_ret2
      refine HR.out _ _ ?_
      unfold OrR
      rw [HX.out]
      exact ⟨_, xs, by rw [HS.out]; rfl, rfl, HOW.out.ext (below_drewN (Below.refl _ _) _), HXB.out, by rw [HS.out]; exact HSB.out, grown_trans HG.out (grown_of (below_drewN (Below.refl _ _) _) _)⟩
end Go.Proofs.YtipnifenahhkoaaDoor
