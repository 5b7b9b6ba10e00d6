import Derived.Test.YtfdceljdhgbkcaaGreatDoorJ24
import Derived.Test.YtfdceljdhgbkcaaGreatDoorJ40
/- The document's Spell, pure: it tells what the code's tells. -/
namespace Go.Proofs.YtfdceljdhgbkcaaGreatDoor
/-- A row's keys with the argument. -/
def dWhl (r : DRw) (a : Int) : List Int := if r.asks = true then r.ks ++ [a] else r.ks
/-- The better one of the best so far and of keys, if they spell the command. -/
def dBtr (sl : Bool) (c : Cm) (best : Option (List Int)) (K : List Int) : Option (List Int) :=
  if 27 ∈ K then best else match best with
    | none => if eqC (dRds sl K).1 c = true ∧ (dRds sl K).2 = 1 then some K else none
    | some b => if bfr K b = true then (if eqC (dRds sl K).1 c = true ∧ (dRds sl K).2 = 1 then some K else some b) else some b
def cnR (c : Cm) (r : DRw) : List (List Int) := if r.v = c.v then [nmK c.r ++ nbK c.c ++ dWhl r c.a, nbK c.c ++ nmK c.r ++ dWhl r c.a] else []
def cnT (c : Cm) (o t : DRw) : List (List Int) := if t.m = c.m ∨ (t.m = 33 ∧ c.m = 18) then [nmK c.r ++ nbK c.c ++ (o.ks ++ dWhl t c.a), nbK c.c ++ nmK c.r ++ (o.ks ++ dWhl t c.a), nmK c.r ++ o.ks ++ (nbK c.c ++ dWhl t c.a)] else []
def cnO (c : Cm) (o : DRw) : List (List Int) := if o.v = c.v then (dTls o).flatMap (cnT c o) else []
/-- All that is tried. -/
def cnd (sl : Bool) (c : Cm) : List (List Int) := (dRws sl).flatMap (cnR c) ++ (dOpl sl).flatMap (cnO c)
def dSpl (sl : Bool) (c : Cm) : Option (List Int) := if c.c < 0 ∨ c.c > 9999 then none else (cnd sl c).foldl (dBtr sl c) none
/-- Keys that spell the command. -/
def Vld (sl : Bool) (c : Cm) (K : List Int) : Prop := 27 ∉ K ∧ dRds sl K = (c, 1)
theorem vld_if {sl : Bool} {c : Cm} {K : List Int} (h27 : 27 ∉ K) : (eqC (dRds sl K).1 c = true ∧ (dRds sl K).2 = 1) ↔ Vld sl c K := by
  rw [eqC_iff]
  exact ⟨fun h => ⟨h27, Prod.ext h.1 h.2⟩, fun h => by rw [h.2]; exact ⟨rfl, rfl⟩⟩
theorem btr_of {sl : Bool} {c : Cm} {K D : List Int} {o : Option (List Int)} (h : dBtr sl c o K = some D) : o = some D ∨ (D = K ∧ Vld sl c K) := by
  unfold dBtr at h
  split at h
  · exact .inl h
  · rename_i h27
    split at h
    · split at h
      · rename_i hv
        exact .inr ⟨(Option.some.inj h).symm, (vld_if h27).1 hv⟩
      · cases h
    · split at h
      · split at h
        · rename_i hv
          exact .inr ⟨(Option.some.inj h).symm, (vld_if h27).1 hv⟩
        · exact .inl h
      · exact .inl h
theorem btr_o (sl : Bool) (c : Cm) (K : List Int) (b : List Int) : ∃ b', dBtr sl c (some b) K = some b' ∧ leK b' b := by
  unfold dBtr
  split
  · exact ⟨b, rfl, leK.refl _⟩
  · dsimp only
    split
    · rename_i hb
      split
      · exact ⟨K, rfl, bfr_le hb⟩
      · exact ⟨b, rfl, leK.refl _⟩
    · exact ⟨b, rfl, leK.refl _⟩
theorem btr_k {sl : Bool} {c : Cm} {K : List Int} (h : Vld sl c K) (o : Option (List Int)) : ∃ b', dBtr sl c o K = some b' ∧ leK b' K := by
  unfold dBtr
  rw [if_neg h.1]
  cases o with
  | none =>
    dsimp only
    rw [if_pos ((vld_if h.1).2 h)]
    exact ⟨K, rfl, leK.refl _⟩
  | some b =>
    dsimp only
    by_cases hb : bfr K b = true
    · rw [if_pos hb, if_pos ((vld_if h.1).2 h)]
      exact ⟨K, rfl, leK.refl _⟩
    · rw [if_neg hb]
      exact ⟨b, rfl, bfr_ge hb⟩
theorem fld_o (sl : Bool) (c : Cm) : ∀ (L : List (List Int)) (b : List Int), ∃ b', L.foldl (dBtr sl c) (some b) = some b' ∧ leK b' b
  | [], b => ⟨b, rfl, leK.refl _⟩
  | K :: L, b => by
    obtain ⟨b1, e1, l1⟩ := btr_o sl c K b
    obtain ⟨b2, e2, l2⟩ := fld_o sl c L b1
    exact ⟨b2, by rw [List.foldl_cons, e1]; exact e2, l2.trans l1⟩
theorem fld_k {sl : Bool} {c : Cm} {K : List Int} (h : Vld sl c K) : ∀ (L : List (List Int)) (o : Option (List Int)), K ∈ L → ∃ b', L.foldl (dBtr sl c) o = some b' ∧ leK b' K
  | [], _, hm => by cases hm
  | X :: L, o, hm => by
    rw [List.foldl_cons]
    rcases List.mem_cons.1 hm with rfl | hm
    · obtain ⟨b1, e1, l1⟩ := btr_k h o
      obtain ⟨b2, e2, l2⟩ := fld_o sl c L b1
      exact ⟨b2, by rw [e1]; exact e2, l2.trans l1⟩
    · exact fld_k h L _ hm
theorem fld_of {sl : Bool} {c : Cm} : ∀ {L : List (List Int)} {o : Option (List Int)} {D : List Int}, L.foldl (dBtr sl c) o = some D → o = some D ∨ (D ∈ L ∧ Vld sl c D)
  | [], _, _, h => .inl h
  | K :: L, o, D, h => by
    rw [List.foldl_cons] at h
    rcases fld_of h with h | ⟨h1, h2⟩
    · rcases btr_of h with h | ⟨rfl, h⟩
      · exact .inl h
      · exact .inr ⟨List.mem_cons_self, h⟩
    · exact .inr ⟨List.mem_cons_of_mem _ h1, h2⟩
theorem leK.antisymm {a b : List Int} (h : leK a b) (k : leK b a) : a = b := by
  rcases h with h | ⟨h1, h2⟩
  · rcases k with k | ⟨k1, _⟩ <;> omega
  · rcases k with k | ⟨_, k2⟩
    · omega
    · have : ∀ {a b : List Int}, cmpL a b ≤ 0 → cmpL b a ≤ 0 → a = b := by
        intro a
        induction a with
        | nil => intro b h k; cases b with
          | nil => rfl
          | cons y ys => exact absurd k (by show ¬ (1 : Int) ≤ 0; decide)
        | cons x xs ih => intro b h k; cases b with
          | nil => exact absurd h (by show ¬ (1 : Int) ≤ 0; decide)
          | cons y ys =>
            have h : (if x < y then (-1 : Int) else if y < x then 1 else cmpL xs ys) ≤ 0 := h
            have k : (if y < x then (-1 : Int) else if x < y then 1 else cmpL ys xs) ≤ 0 := k
            by_cases a1 : x < y
            · rw [if_neg (by omega), if_pos a1] at k
              exact absurd k (by decide)
            · by_cases a2 : y < x
              · rw [if_neg a1, if_pos a2] at h
                exact absurd h (by decide)
              · rw [if_neg a1, if_neg a2] at h
                rw [if_neg a2, if_neg a1] at k
                rw [ih h k, show x = y by omega]
      exact this h2 k2
theorem ahd_ps (mode : Int) : ahd (ps0 (isl mode)) mode = ps0 (isl mode) := by
  unfold ahd
  rw [if_pos (show isl mode = (ps0 (isl mode)).sl from rfl)]
theorem ahd_pf (mode : Int) : ahd (ps0 false) mode = ps0 (isl mode) := by
  unfold ahd
  split
  · rename_i e
    rw [show isl mode = false from e]
  · rfl
/-- What spells the command is fed as it. -/
theorem vld_fed {mode : Int} {c : Cm} {K : List Int} (hn : K ≠ []) (h : Vld (isl mode) c K) : FedR mode (ps0 false) K c 1 := by
  refine reads_fed K hn (fun k hk e => h.1 (e ▸ hk)) ?_ ?_
  · rw [ahd_pf]; exact DI.init _
  · rw [ahd_pf]; exact h.2
theorem fed_vld {mode : Int} {c : Cm} {K : List Int} (h : FedR mode (ps0 false) K c 1) : Vld (isl mode) c K := by
  have h2 := fed_reads K (by rw [ahd_pf]; exact DI.init _) h
  rw [ahd_pf] at h2
  have h3 := (chain K (by rw [ahd_pf]; exact PI.init _) h).2
  rw [ahd_pf] at h3
  exact ⟨fun e => h3 27 (List.mem_append_right _ e) rfl, h2⟩
/-- Of a table's row: the document's. -/
theorem row_doc {sl : Bool} {K : List Int} {b : Bd} (hm : (K, b) ∈ tbL sl) (ht : b.t ≠ 2) : ∃ r ∈ dRws sl, r.ks = K ∧ rbd r = b := by
  obtain ⟨r, hr, e⟩ := ((tab_sl sl).l K b hm).2 ht
  exact ⟨r, hr, e, ((free_sl sl).two ((tab_sl sl).d r hr) hm (.inl (e ▸ List.prefix_refl _))).2⟩
theorem op_doc {sl : Bool} {K : List Int} {b : Bd} (hm : (K, b) ∈ tbL sl) (ht : b.t = 2) : ∃ o ∈ dOpl sl, o.ks = K ∧ o.v = b.v := by
  obtain ⟨o, ho, e⟩ := ((tab_sl sl).l K b hm).1 ht
  refine ⟨o, ho, e, ?_⟩
  have := ((free_sl sl).two ((tab_sl sl).o o ho) hm (.inl (e ▸ List.prefix_refl _))).2
  rw [← this]
theorem tl_doc {o : DRw} (ho : o ∈ dOps) {K : List Int} {b c : Bd} (hm : (K, b) ∈ fil tTar) (hb : bhd b o.v = some c) : ∃ r ∈ dTls o, r.ks = K ∧ rbd r = c := by
  obtain ⟨r, hr, e⟩ := (tgt_of ho).l K b c hm hb
  obtain ⟨b', hb', e'⟩ := (tgt_of ho).d r hr
  obtain ⟨_, rfl⟩ := free_t.two hb' hm (.inl (e ▸ List.prefix_refl _))
  rw [hb] at e'
  exact ⟨r, hr, e, (Option.some.inj e').symm⟩
theorem whl_of {r : DRw} {K : List Int} {b : Bd} (a : Int) (e1 : r.ks = K) (e2 : rbd r = b) : dWhl r a = if b.t = 1 then K ++ [a] else K := by
  subst e1 e2
  unfold dWhl rbd
  by_cases h : r.asks = true
  · rw [if_pos h, if_pos (by show (if r.asks = true then (1 : Int) else 0) = 1; rw [if_pos h])]
  · rw [if_neg h, if_neg (by show ¬ (if r.asks = true then (1 : Int) else 0) = 1; rw [if_neg h]; decide)]
/-- What Spell tells of a row is a register and a count ahead of its keys, one or the other way. -/
theorem spr_ways {c : Cm} {r : Rw} {l : List Int} (h : spR c r = some l) : cmdB r.b c.r c.c c.a = c ∧ (l = nmK c.r ++ nbK c.c ++ (if r.b.t = 1 then r.ks ++ [c.a] else r.ks) ∨ l = nbK c.c ++ nmK c.r ++ (if r.b.t = 1 then r.ks ++ [c.a] else r.ks)) := by
  unfold spR at h
  split at h
  · rename_i he
    refine ⟨eqC_iff.1 he, ?_⟩
    have hp : pfx (if r.b.t = 1 then r.ks ++ [c.a] else r.ks) c.r c.c = some l := by
      split at h
      · rename_i h1
        rw [if_pos h1]
        split at h
        · cases h
        · exact h
      · rename_i h1
        rw [if_neg h1]
        exact h
    generalize (if r.b.t = 1 then r.ks ++ [c.a] else r.ks) = X at hp ⊢
    unfold pfx at hp
    split at hp
    · exact .inl (Option.some.inj hp).symm
    · split at hp
      · cases hp
      · exact .inr (Option.some.inj hp).symm
  · cases h
theorem spell_cnd {mode : Int} {c : Cm} {l : List Int} (h : spell mode c = some l) : l ∈ cnd (isl mode) c := by
  unfold spell at h
  split at h
  · cases h
  · rcases fold_mem h with h | ⟨r, hr, h⟩
    · cases h
    · obtain ⟨r0, hr0, hr⟩ := List.mem_flatMap.1 hr
      have hm0 : (r0.ks, r0.b) ∈ tbL (isl mode) := by
        unfold tbL
        split at hr0
        · rename_i e
          rw [if_pos e]
          exact mem_fil filS_eq hr0
        · rename_i e
          rw [if_neg e]
          exact mem_fil filN_eq hr0
      unfold exR at hr
      obtain ⟨hc, hw⟩ := spr_ways h
      unfold cnd
      split at hr
      · rename_i hv
        split at hr
        · rename_i ht
          obtain ⟨x, hx, hx2⟩ := List.mem_filterMap.1 hr
          unfold tgF at hx2
          obtain ⟨b2, hb2, rfl⟩ := Option.map_eq_some_iff.1 hx2
          obtain ⟨o, ho, e1, e2⟩ := op_doc hm0 ht
          have hod : o ∈ dOps := by
            unfold dOpl at ho
            split at ho
            · cases ho
            · exact ho
          rw [← e2] at hb2
          obtain ⟨t, ht1, ht2, ht3⟩ := tl_doc hod (mem_fil filT_eq hx) hb2
          have hk : (if b2.t = 1 then (r0.ks ++ x.ks) ++ [c.a] else r0.ks ++ x.ks) = o.ks ++ dWhl t c.a := by
            rw [whl_of c.a ht2 ht3, e1]
            split
            · rw [List.append_assoc]
            · rfl
          have hmv : t.m = c.m ∨ (t.m = 33 ∧ c.m = 18) := by
            have h1 : t.m = b2.m := by rw [← ht3]; rfl
            have h2 := congrArg Cm.m hc
            unfold cmdB at h2
            simp only at h2
            rw [h1]
            split at h2
            · rename_i h3
              exact .inr ⟨h3.1, h2.symm⟩
            · exact .inl h2
          refine List.mem_append_right _ (List.mem_flatMap.2 ⟨o, ho, ?_⟩)
          unfold cnO
          rw [if_pos (by rw [e2]; exact hv)]
          refine List.mem_flatMap.2 ⟨t, ht1, ?_⟩
          unfold cnT
          rw [if_pos hmv]
          simp only at hw
          rw [hk] at hw
          rcases hw with rfl | rfl <;> simp
        · rename_i ht
          rw [List.mem_singleton.1 hr] at h hc hw
          obtain ⟨d, hd, e1, e2⟩ := row_doc hm0 ht
          refine List.mem_append_left _ (List.mem_flatMap.2 ⟨d, hd, ?_⟩)
          unfold cnR
          rw [if_pos (by rw [← hv, ← e2]; rfl)]
          rw [← whl_of c.a e1 e2] at hw
          rcases hw with rfl | rfl <;> simp
      · cases hr
theorem keys_doc {sl : Bool} {r : DRw} (hr : r ∈ dRws sl) : r.ks ≠ [] ∧ ∀ k ∈ r.ks, 0 ≤ k ∧ k ≤ 127 := by
  have := (free_sl sl).ok _ _ ((tab_sl sl).d r hr)
  exact ⟨this.ne, this.byt⟩
theorem keys_opl {sl : Bool} {o : DRw} (ho : o ∈ dOpl sl) : o ∈ dOps ∧ o.ks ≠ [] ∧ ∀ k ∈ o.ks, 0 ≤ k ∧ k ≤ 127 := by
  have := (free_sl sl).ok _ _ ((tab_sl sl).o o ho)
  refine ⟨?_, this.ne, this.byt⟩
  unfold dOpl at ho
  split at ho
  · cases ho
  · exact ho
theorem keys_tls {o r : DRw} (ho : o ∈ dOps) (hr : r ∈ dTls o) : r.ks ≠ [] ∧ ∀ k ∈ r.ks, 0 ≤ k ∧ k ≤ 127 := by
  obtain ⟨b, hb, _⟩ := (tgt_of ho).d r hr
  have := free_t.ok _ _ hb
  exact ⟨this.ne, this.byt⟩
theorem whl_in {r : DRw} {a : Int} (h : r.ks ≠ [] ∧ ∀ k ∈ r.ks, 0 ≤ k ∧ k ≤ 127) (ha : In64 a) : dWhl r a ≠ [] ∧ ∀ k ∈ dWhl r a, In64 k := by
  unfold dWhl
  split
  · refine ⟨by simp, fun k hk => ?_⟩
    rcases List.mem_append.1 hk with hk | hk
    · have := h.2 k hk
      exact In64.of (by omega) (by omega)
    · rw [List.mem_singleton.1 hk]; exact ha
  · exact ⟨h.1, fun k hk => by have := h.2 k hk; exact In64.of (by omega) (by omega)⟩
theorem nmK_in {r : Int} (h : In64 r) : ∀ k ∈ nmK r, In64 k := by
  unfold nmK
  split
  · intro k hk; cases hk
  · intro k hk
    rcases List.mem_cons.1 hk with rfl | hk
    · exact In64.of (by omega) (by omega)
    · rw [List.mem_singleton.1 hk]; exact h
theorem nbK_in (c : Int) : ∀ k ∈ nbK c, In64 k := by
  unfold nbK
  split
  · intro k hk
    have := dg_mem _ _ k hk
    exact In64.of (by omega) (by omega)
  · intro k hk; cases hk
/-- All that is tried is of ints, and not empty. -/
theorem cnd_in {sl : Bool} {c : Cm} (hr : In64 c.r) (ha : In64 c.a) : ∀ K ∈ cnd sl c, K ≠ [] ∧ ∀ k ∈ K, In64 k := by
  have h1 := nmK_in hr
  have h2 := nbK_in c.c
  have app : ∀ {A B : List Int}, (∀ k ∈ A, In64 k) → (∀ k ∈ B, In64 k) → ∀ k ∈ A ++ B, In64 k := fun ha hb k hk => (List.mem_append.1 hk).elim (ha k) (hb k)
  intro K hK
  unfold cnd at hK
  rcases List.mem_append.1 hK with hK | hK
  · obtain ⟨r, hr, hK⟩ := List.mem_flatMap.1 hK
    obtain ⟨k1, k2⟩ := whl_in (keys_doc hr) ha
    unfold cnR at hK
    split at hK
    · simp only [List.mem_cons, List.not_mem_nil, or_false] at hK
      rcases hK with rfl | rfl
      · exact ⟨by simp [k1], app (app h1 h2) k2⟩
      · exact ⟨by simp [k1], app (app h2 h1) k2⟩
    · cases hK
  · obtain ⟨o, ho, hK⟩ := List.mem_flatMap.1 hK
    obtain ⟨o1, o2, o3⟩ := keys_opl ho
    have h3 : ∀ k ∈ o.ks, In64 k := fun k hk => by have := o3 k hk; exact In64.of (by omega) (by omega)
    unfold cnO at hK
    split at hK
    · obtain ⟨t, ht, hK⟩ := List.mem_flatMap.1 hK
      obtain ⟨k1, k2⟩ := whl_in (keys_tls o1 ht) ha
      unfold cnT at hK
      split at hK
      · simp only [List.mem_cons, List.not_mem_nil, or_false] at hK
        rcases hK with rfl | rfl | rfl
        · exact ⟨by simp [k1], app (app h1 h2) (app h3 k2)⟩
        · exact ⟨by simp [k1], app (app h2 h1) (app h3 k2)⟩
        · exact ⟨by simp [k1], app (app h1 h3) (app h2 k2)⟩
      · cases hK
    · cases hK
/-- The document's Spell tells what the code's tells. -/
theorem spell_doc (mode : Int) (c : Cm) (hr : In64 c.r) (ha : In64 c.a) : dSpl (isl mode) c = spell mode c := by
  have hle : ∀ {D : List Int}, (cnd (isl mode) c).foldl (dBtr (isl mode) c) none = some D → ∃ b, spell mode c = some b ∧ leK b D := fun {D} h => by
    rcases fld_of h with h | ⟨h1, h2⟩
    · cases h
    · obtain ⟨k1, k2⟩ := cnd_in hr ha D h1
      obtain ⟨_, _, b, e, l⟩ := spell_least (vld_fed k1 h2) k2
      exact ⟨b, e, l⟩
  unfold dSpl
  split
  · rename_i h
    unfold spell
    rw [if_pos (by rcases h with h | h; exact .inl h; exact .inr (.inl h))]
  · cases hs : spell mode c with
    | none =>
      cases hd : (cnd (isl mode) c).foldl (dBtr (isl mode) c) none with
      | none => rfl
      | some D =>
        obtain ⟨b, e, _⟩ := hle hd
        rw [hs] at e
        cases e
    | some S =>
      obtain ⟨D, e, l⟩ := fld_k (fed_vld (spell_back hs)) (cnd (isl mode) c) none (spell_cnd hs)
      obtain ⟨b, e2, l2⟩ := hle e
      rw [hs] at e2
      obtain rfl := Option.some.inj e2
      rw [e, l.antisymm l2]
end Go.Proofs.YtfdceljdhgbkcaaGreatDoor
