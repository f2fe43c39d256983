/-
  The machine of plain values: what a function's run gives, the program's call gives.
-/
import Derived.Test.YtdeigmjbcbjgeaaGreatDoorYaMJ
namespace Go.Proofs.YtdeigmjbcbjgeaaGreatDoor
open Go.RowKit

section
variable {P : Program} {E : Env} {A : Nat → Prop} {w0 : Fr} {a : Act} {w : World}

theorem resOf_ok (hT : ∀ t i, E.T t = some i → tiOf P t = some i) {st : St} {m : Map} {F : Nat → Prop} (S : SR A w0 st.tmps.length m F st.slot st.blk a w) (hn : ∀ b k l, b % 8 ≠ 7 → st.blk b = some k → m b = some (some l) → ¬ w0.L l.g) {fn : Func} {r : LRes} (h : resOf E st fn.results.toList = some r) :
    ∃ v us, (results fn a.tmps).run P w = .ok v w ∧ optMap (resVar E st) fn.results.toList = some us ∧ ResOk (FP F (hideB (lids st ++ us.filterMap (ownedB st.blk)) st.blk) m) w0.w.heap.size w r v := by
  unfold resOf at h
  split at h
  · cases h
  rename_i us hus
  split at h
  case isFalse => cases h
  rename_i hap
  split at h
  · cases h
  rename_i cs hcs
  cases h
  obtain ⟨u1, u2⟩ := optMap_spec hus
  obtain ⟨c1, c2⟩ := optMap_spec hcs
  -- the values
  obtain ⟨vs, v1, v2⟩ := pick (β := Value) (p := fun i (r : ResultVar) v => (match r with | .tmp t => pure (a.tmps.getD t undef) | .cell p t => do loadVar t (← asAddr (a.tmps.getD p undef)) : Sem Value).run P w = .ok v w ∧ ∀ u, us[i]? = some u → Rep F w m u v) fn.results.toList (fun i r hr => by
    have hi : i < us.length := by rw [u1]; exact lt_of_get hr
    obtain ⟨r', hr', hv⟩ := u2 i us[i] (List.getElem?_eq_getElem hi)
    rw [hr] at hr'
    cases hr'
    obtain ⟨v, h1, h2⟩ := resVar_ok hT S hv
    exact ⟨v, h1, fun u hu => by rw [List.getElem?_eq_getElem hi] at hu; cases hu; exact h2⟩)
  have hrun : (fn.results.mapM fun | .tmp t => pure (a.tmps.getD t undef) | .cell p t => do loadVar t (← asAddr (a.tmps.getD p undef)) : Sem (Array Value)).run P w = .ok vs.toArray w := by
    rw [Array.mapM_eq_mapM_toList]
    rw [Sem.run_map]
    rw [run_mapM _ vs v1.symm (fun i r hr => by
      have hi : i < vs.length := by rw [v1]; exact lt_of_get hr
      have := (v2 i r vs[i] hr (List.getElem?_eq_getElem hi)).1
      rw [List.getD_eq_getElem?_getD, List.getElem?_eq_getElem hi]
      exact this)]
    rfl
  have hbs : ∀ (i : Nat) (u : LV) (b : Nat), us[i]? = some u → ownedB st.blk u = some b → b ∈ lids st ++ us.filterMap (ownedB st.blk) := fun i u b hu hb => List.mem_append.2 (.inr (List.mem_filterMap.2 ⟨u, List.mem_of_getElem? hu, hb⟩))
  have hone : ∀ (i : Nat) (c : RC), cs[i]? = some c → ∃ u, us[i]? = some u ∧ ∃ gb, RCok (FP F (hideB (lids st ++ us.filterMap (ownedB st.blk)) st.blk) m) w0.w.heap.size w c (vs.toArray.getD i undef) gb ∧ ∀ l, gb = some l → ∃ b, ownedB st.blk u = some b ∧ m b = some (some l) := by
    intro i c hc
    obtain ⟨u, hu, hs⟩ := c2 i c hc
    have hr : i < fn.results.toList.length := by rw [← u1]; exact lt_of_get hu
    have hi : i < vs.length := by rw [v1]; exact hr
    have hv := (v2 i _ vs[i] (List.getElem?_eq_getElem hr) (List.getElem?_eq_getElem hi)).2 u hu
    refine ⟨u, hu, ?_⟩
    have e : vs.toArray.getD i undef = vs[i] := by simp [hi]
    rw [e]
    exact resSlot_ok S hv (fun b hb => hbs i u b hu hb) hn hs
  obtain ⟨gbs, g1, g2⟩ := pick (β := Option Loc) (p := fun i (c : RC) gb => ∃ u, us[i]? = some u ∧ RCok (FP F (hideB (lids st ++ us.filterMap (ownedB st.blk)) st.blk) m) w0.w.heap.size w c (vs.toArray.getD i undef) gb ∧ ∀ l, gb = some l → ∃ b, ownedB st.blk u = some b ∧ m b = some (some l)) cs (fun i c hc => by
    obtain ⟨u, hu, gb, h1, h2⟩ := hone i c hc
    exact ⟨gb, u, hu, h1, h2⟩)
  refine ⟨if h : vs.toArray.size = 1 then vs.toArray[0] else .tuple vs.toArray, us, ?_, hus, ?_⟩
  · unfold results
    rw [Sem.run_bind]
    erw [hrun]
    rfl
  · have hsz : cs.length = vs.length := by rw [c1, u1, v1]
    have hmany : ResOk (FP F (hideB (lids st ++ us.filterMap (ownedB st.blk)) st.blk) m) w0.w.heap.size w (.many cs) (.tuple vs.toArray) := by
      refine ⟨vs.toArray, fun i => (gbs[i]?).bind id, rfl, by simp [hsz], fun i c hc => ?_, fun i j l l' hne hi hj => ?_⟩
      · have hi : i < gbs.length := by rw [g1]; exact lt_of_get hc
        obtain ⟨u, _, h1, _⟩ := g2 i c gbs[i] hc (List.getElem?_eq_getElem hi)
        show RCok _ _ _ c _ ((gbs[i]?).bind id)
        rw [List.getElem?_eq_getElem hi]
        exact h1
      · have get : ∀ (i : Nat) (l : Loc), (gbs[i]?).bind id = some l → ∃ u b, us[i]? = some u ∧ ownedB st.blk u = some b ∧ m b = some (some l) := by
          intro i l hi
          rcases hq : gbs[i]? with _ | gb
          · rw [hq] at hi; cases hi
          · rw [hq] at hi
            have hil : i < cs.length := by rw [← g1]; exact lt_of_get hq
            obtain ⟨u, hu, _, h2⟩ := g2 i cs[i] gb (List.getElem?_eq_getElem hil) hq
            obtain ⟨b, hb, hm⟩ := h2 l hi
            exact ⟨u, b, hu, hb, hm⟩
        obtain ⟨u, b, hu, hb, hm⟩ := get i l hi
        obtain ⟨u', b', hu', hb', hm'⟩ := get j l' hj
        obtain ⟨_, k, hk, _⟩ := ownedB_of hb
        obtain ⟨_, k', hk', _⟩ := ownedB_of hb'
        refine S.sep b b' k k' _ _ hk hk' (fun e => ?_) hm hm'
        subst e
        unfold apartR at hap
        simp only [List.all_eq_true, List.mem_range] at hap
        have := hap i (lt_of_get hu) j (lt_of_get hu')
        rw [hu, hu'] at this
        simp [hne, hb, hb'] at this
    unfold packR
    split
    · rename_i c
      have h1 : vs.toArray.size = 1 := by simpa using hsz.symm
      rw [dif_pos h1]
      obtain ⟨u, _, gb, h2, _⟩ := hone 0 c rfl
      refine ⟨gb, ?_⟩
      have e : vs.toArray.getD 0 undef = vs.toArray[0] := by simp [Array.getD, h1]
      rw [← e]
      exact h2
    · rename_i hne
      have h1 : vs.toArray.size ≠ 1 := by
        intro h1
        have : cs.length = 1 := by rw [hsz]; simpa using h1
        obtain ⟨c, hc⟩ := List.length_eq_one_iff.1 this
        exact hne c hc
      rw [dif_neg h1]
      exact hmany

/-- What stays behind a return. -/
theorem SR.after {st : St} {m : Map} {F : Nat → Prop} (S : SR A w0 st.tmps.length m F st.slot st.blk a w) (os : List Nat) : (∀ g, A g → FP F (hideB os st.blk) m g) ∧ ∀ g, FP F (hideB os st.blk) m g → g < w.heap.size ∧ (A g ∨ w0.own g) := by
  refine ⟨fun g hg => .inl (S.sup g hg), ?_⟩
  rintro g (hg | ⟨b, k, l, hb, hm, rfl⟩)
  · exact ⟨S.flt g hg, S.sub g hg⟩
  · obtain ⟨o1, _, o3⟩ := S.old (hideB_of hb).2 hm
    exact ⟨o1, .inr o3⟩
theorem frame_own {w : World} {g : Nat} (h : (frame w).own g) : w.heap.size ≤ g := by
  rcases h with h | ⟨b, l, hb, _⟩
  · exact h
  · cases hb
theorem frame_L {w : World} {g : Nat} : ¬ (frame w).L g := fun ⟨_, _, hb, _⟩ => by cases hb
theorem resOf_frame (hT : ∀ t i, E.T t = some i → tiOf P t = some i) {st : St} {w0 : World} (S : SRs A (frame w0) st a w) {fn : Func} {r : LRes} (h : resOf E st fn.results.toList = some r) :
    ∃ v F', (results fn a.tmps).run P w = .ok v w ∧ (∀ g, A g → F' g) ∧ (∀ g, F' g → g < w.heap.size ∧ (A g ∨ w0.heap.size ≤ g)) ∧ ResOk F' w0.heap.size w r v := by
  obtain ⟨m, F, S⟩ := S
  obtain ⟨v, us, h1, _, h2⟩ := resOf_ok hT S (fun _ _ _ _ _ _ => frame_L) h
  obtain ⟨h3, h4⟩ := S.after (lids st ++ us.filterMap (ownedB st.blk))
  exact ⟨v, _, h1, h3, fun g hg => ⟨(h4 g hg).1, (h4 g hg).2.imp id frame_own⟩, h2⟩

theorem runF_ok (hm : P.follows .mixedOrders = true) (hE : EnvOk P E) {f : Nat} {fn : Func} (hf : P.funcs[f]? = some fn) {fuel : Nat} {ds : List LV} {r : LRes} (h : runF E fuel fn ds = some r) : CallOk P f ds r := by
  intro w A args hsz hA hrep hG
  unfold runF at h
  split at h
  case h_2 => cases h
  rename_i c hb
  rw [St.allK_eq] at h
  have S0 : SRs A (frame w) (enterL fn ds) { tmps := args ++ Array.replicate (fn.ntmps - args.size) undef, defers := [] } w := by
    refine ⟨noMap, A, by simp [enterL, hsz], fun t => ?_, fun b k hk => by simp [enterL, St.blk, findB] at hk, fun b b' k k' l l' hk => by simp [enterL, St.blk, findB] at hk, rfl, Keeps.refl _ _, hA, fun g hg => .inl hg, fun g hg => hg, fun b _ => rfl, fun b g k hl => (by cases hl), ⟨fun g hg => ⟨hA g hg, frame_L⟩, hG⟩⟩
    show Rep A w noMap ((ds ++ List.replicate (fn.ntmps - ds.length) noVal).getD t .poison) ((args ++ Array.replicate (fn.ntmps - args.size) undef).getD t undef)
    rw [List.getD_eq_getElem?_getD, Array.getD_eq_getD_getElem?]
    by_cases ht : t < ds.length
    · rw [List.getElem?_append_left ht, Array.getElem?_append_left (by omega)]
      obtain ⟨u, hu⟩ := getL_of ht
      have := hrep t u hu
      rw [Array.getD_eq_getD_getElem?] at this
      rw [hu]
      exact this
    · rw [List.getElem?_append_right (by omega), Array.getElem?_append_right (by omega), List.getElem?_replicate, Array.getElem?_replicate, hsz]
      split
      · exact undef_rep
      · exact .poison _ _
  have fin : ∀ (st' : St) (a' : Act) (w' : World), SRs A (frame w) st' a' w' → resOf E st' fn.results.toList = some r → a'.defers = [] ∧ ∃ v, (results fn a'.tmps).run P w' = .ok v w' ∧ ∃ v' F', (Ending.returned v) = .returned v' ∧ Keeps (fun _ => False) w w' ∧ (∀ g, A g → F' g) ∧ (∀ g, F' g → g < w'.heap.size ∧ (A g ∨ w.heap.size ≤ g)) ∧ ResOk F' w.heap.size w' r v' := by
    intro st' a' w' S hr
    obtain ⟨v, F', h1, h2, h3, h4⟩ := resOf_frame hE.T S hr
    obtain ⟨m, F, S⟩ := S
    exact ⟨S.dfr, v, h1, v, F', rfl, S.keeps.mono (fun _ _ h => absurd h frame_L), h2, h3, h4⟩
  refine calls_of_wp hf hb ?_
  split at h
  · rename_i st' hst
    refine Code.wp_mono ?_ (runC_ok hm hE fuel c _ _ _ _ _ S0 hst)
    rintro e a' w' ⟨rfl, S⟩
    exact fin st' a' w' S h
  · rename_i st' hst
    refine Code.wp_mono ?_ (runC_ok hm hE fuel c _ _ _ _ _ S0 hst)
    rintro e a' w' ⟨rfl, S⟩
    exact fin st' a' w' S h
  · cases h

/-- What a specification of a function's calls must give. -/
def Known (P : Program) (o : Nat → List LV → Option LRes) : Prop := ∀ f ds r, o f ds = some r → ((∃ fn, P.funcs[f]? = some fn ∧ fn.name ≠ "runtime.NumGoroutine" ∧ fn.body.isSome = true) ∧ CallOk P f ds r) ∨ Ext P f ds r
def Types (P : Program) (T : Nat → Option TI) : Prop := ∀ t i, T t = some i → tiOf P t = some i
theorem CallOk.val {f : Nat} {ds : List LV} {u : LV} (h : CallOk P f ds (.one (.val u))) (w : World) (args : Array Value) (hsz : args.size = ds.length) (A : Nat → Prop) (hA : ∀ g, A g → g < w.heap.size) (hG : GlobOk A w)
    (hrep : ∀ (i : Nat) (u : LV), ds[i]? = some u → Rep A w noMap u (args.getD i undef)) : Calls P f args w fun e w' => ∃ v F', e = .returned v ∧ Keeps (fun _ => False) w w' ∧ Rep F' w' noMap u v :=
  (h w A args hsz hA hrep hG).mono fun _ _ ⟨v, F', h1, h2, _, _, _, h4, _⟩ => ⟨v, F', h1, h2, h4⟩
theorem CallOk.plain {f : Nat} {ds : List LV} {x : Value} (h : CallOk P f ds (.one (.val (.v x)))) (w : World) (args : Array Value) (hsz : args.size = ds.length) (A : Nat → Prop) (hA : ∀ g, A g → g < w.heap.size) (hG : GlobOk A w)
    (hrep : ∀ (i : Nat) (u : LV), ds[i]? = some u → Rep A w noMap u (args.getD i undef)) : Calls P f args w fun e w' => e = .returned x ∧ Keeps (fun _ => False) w w' :=
  (h.val w args hsz A hA hG hrep).mono fun _ _ ⟨v, F', h1, h2, h3⟩ => by cases h3; exact ⟨h1, h2⟩
end
end Go.Proofs.YtdeigmjbcbjgeaaGreatDoor
