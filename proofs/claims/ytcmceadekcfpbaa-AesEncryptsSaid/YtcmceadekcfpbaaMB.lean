/-
  The machine of plain values: each operation that writes nothing, in the program's walk.
-/
import Derived.Test.YtcmceadekcfpbaaMA
namespace Go.Proofs.Ytcmceadekcfpbaa
open Go.RowKit

section
variable {P : Program} {E : Env} {A : Nat → Prop} {w0 : World} {n : Nat} {m : Map} {F : Nat → Prop} {ρ : Nat → LV} {β : Nat → Option Blk} {a : Act} {w : World}

/-- What is known behind an operation. -/
def VPost (A : Nat → Prop) (w0 : World) (n : Nat) (ρ : Nat → LV) (β : Nat → Option Blk) (o : Oper) (u : LV) (bs : List (Nat × Blk)) (a' : Act) (w' : World) : Prop :=
  ∃ m' F', SR A w0 n m' F' (updR n ρ o.dst u) (updBO o.dst β bs) a' w'

theorem wp_value {o : Oper} {v : Value} {w' : World} {K : Act → World → Prop} {Q : Exit → Act → World → Prop} (h : (execOp a.eval o).run P w = .ok (.value v) w') (hK : K (a.put o.dst v) w') : o.wp P a w K Q := by
  unfold Oper.wp
  rw [h]
  exact hK
theorem run_v {s : Sem Value} {v : Value} {w' : World} (h : s.run P w = .ok v w') : (do pure (Next.value (← s)) : Sem Next).run P w = .ok (.value v) w' := by
  simp [h]
theorem fin_val (S : SR A w0 n m F ρ β a w) {o : Oper} {u : LV} {v : Value} {bs : List (Nat × Blk)} {Q : Exit → Act → World → Prop} (hbs : bs = []) (h : (execOp a.eval o).run P w = .ok (.value v) w) (hr : Rep F w m u v) :
    o.wp P a w (VPost A w0 n ρ β o u bs) Q := by
  subst hbs
  refine wp_value h ⟨m, F, ?_⟩
  have : updBO o.dst β [] = β := by unfold updBO; split <;> rfl
  rw [this]
  exact S.put o.dst hr
theorem keeps_alloc (w : World) (o : Obj) : Keeps (fun _ => False) w (w.alloc o) := (Keeps.refl _ w).alloc o
theorem fin_new (S : SR A w0 n m F ρ β a w) {o : Oper} {u : LV} {v : Value} {bs : List (Nat × Blk)} {Q : Exit → Act → World → Prop} {x : Cont} {cs : Array Value} {e : Nat} (hm : makes o.op = true)
    (hfree : makes o.op = true → ∀ d, o.dst = some d → ∀ k, k < 8 → β (8 * d + k) = none) (hbs : bs = [(8 * o.dst.getD 0, ⟨x, e, false⟩)]) (h : (execOp a.eval o).run P w = .ok (.value v) (w.alloc (.cells cs e)))
    (hx : RepC F w m x cs) (hv : ∀ m' : Map, m' (8 * o.dst.getD 0) = some (some ⟨w.heap.size, cs.size⟩) → Rep F (w.alloc (.cells cs e)) m' u v) : o.wp P a w (VPost A w0 n ρ β o u bs) Q := by
  subst hbs
  refine wp_value h ?_
  rcases hd : o.dst with _ | d
  · refine ⟨m, F, ?_⟩
    rw [hd]
    exact S.world (keeps_alloc _ _)
  · have h0 : m (8 * d) = none := S.dom _ (by have := hfree hm d hd 0 (by omega); simpa using this)
    have hext := Map.add_ext (l := some ⟨w.heap.size, cs.size⟩) h0
    refine ⟨m.add (8 * d) (some ⟨w.heap.size, cs.size⟩), F, ?_⟩
    · have hS := S.add (m' := m.add (8 * d) (some ⟨w.heap.size, cs.size⟩)) (F' := F) (w' := w.alloc (.cells cs e)) (bs := [(8 * d, ⟨x, e, false⟩)]) hext (keeps_alloc _ _) (fun _ h => h) (fun _ h => .inl h)
        (fun g hg => by have := S.flt g hg; rw [World.size_alloc]; omega) (fun p hp => by
          simp at hp
          subst hp
          refine ⟨.inr ⟨w.heap.size, cs.size, cs, Map.add_same _ _ _, fun hf => by have := S.flt _ hf; omega, S.keeps.size, heap_alloc_new w _, rfl, fun _ => hx.1.symm, Nat.le_of_eq hx.1.symm, fun i u hu => ?_⟩, fun l hl => ?_⟩
          · exact (hx.2 i u hu).mono (fun _ h => h) (fun g hg => (keeps_alloc w _).heap (S.flt g hg)) _ hext
          · simp only [Map.add_same, Option.some.injEq] at hl
            subst hl
            exact fun b k l' hb hl' e => by have := (S.old hb hl').1; rw [e] at this; simp only at this; omega) (fun p hp q hq hne => by simp at hp hq; subst hp; subst hq; exact absurd rfl hne) (fun b hb => ⟨_, List.mem_singleton.2 rfl, by
          rcases Classical.em (b = 8 * d) with e | e
          · exact e.symm
          · exact absurd (by simp [Map.add, e]) hb⟩)
      rw [hd] at hv
      have := hS.put o.dst (hv _ (Map.add_same _ _ _))
      rw [hd] at this ⊢
      exact this

theorem opers_rep (hs : ∀ t, Rep F w m (ρ t) (a.tmps.getD t undef)) {l : List Operand} {xs : List LV} (h : optMap (evalO ρ) l = some xs) : xs.length = l.length ∧ ∀ (i : Nat) (u : LV) (p : Operand), xs[i]? = some u → l[i]? = some p → Rep F w m u (a.eval p) := by
  obtain ⟨h1, h2⟩ := optMap_spec h
  refine ⟨h1, fun i u p hu hp => ?_⟩
  obtain ⟨q, hq, he⟩ := h2 i u hu
  rw [hp] at hq
  cases hq
  exact evalO_ok hs he

theorem with1_of {xs : List LV} {f : LV → Out} {r : LV × List (Nat × Blk)} (h : with1 xs f = some r) : ∃ x, xs = [x] ∧ f x = some r := by
  unfold with1 at h
  split at h
  · exact ⟨_, rfl, h⟩
  · cases h
theorem with2_of {xs : List LV} {f : LV → LV → Out} {r : LV × List (Nat × Blk)} (h : with2 xs f = some r) : ∃ x y, xs = [x, y] ∧ f x y = some r := by
  unfold with2 at h
  split at h
  · exact ⟨_, _, rfl, h⟩
  · cases h

theorem vopX_ok (hE : EnvOk P E) (S : SR A w0 n m F ρ β a w) {o : Oper} {u : LV} {bs : List (Nat × Blk)} {Q : Exit → Act → World → Prop}
    (hfree : makes o.op = true → ∀ d, o.dst = some d → ∀ k, k < 8 → β (8 * d + k) = none) {xs : List LV} (hxs : optMap (evalO ρ) (opers o.op) = some xs) (h : vopX E β (o.dst.getD 0) o.op xs = some (u, bs)) :
    o.wp P a w (VPost A w0 n ρ β o u bs) Q := by
  obtain ⟨hl, hr⟩ := opers_rep S.slots hxs
  have hB := S.blks
  cases hop : o.op with
  | move x =>
    rw [hop] at h hr
    obtain ⟨x', rfl, he⟩ := with1_of h
    cases he
    exact fin_val S rfl (v := a.eval x) (by simp [execOp, hop]) (hr 0 _ x rfl rfl)
  | assign x =>
    rw [hop] at h hr
    obtain ⟨x', rfl, he⟩ := with1_of h
    cases he
    exact fin_val S rfl (v := a.eval x) (by simp [execOp, hop]) (hr 0 _ x rfl rfl)
  | alloc e =>
    rw [hop] at h
    obtain ⟨x, cs, rfl, rfl, hx, hrun⟩ := opAlloc_ok hE.T (F := F) (w := w) (m := m) h
    exact fin_new S (by rw [hop]; rfl) hfree rfl (by simp only [execOp, hop]; exact run_v hrun) hx (fun m' hm' => .ptr _ _ _ _ _ hm')
  | box e x =>
    rw [hop] at h hr
    obtain ⟨x', rfl, he⟩ := with1_of h
    obtain ⟨y, cs, rfl, rfl, hx, hrun⟩ := opBox_ok (P := P) (hr 0 _ x rfl rfl) he
    exact fin_new S (by rw [hop]; rfl) hfree rfl (by simp only [execOp, hop]; exact run_v hrun) hx (fun m' hm' => .ptr _ _ _ _ _ hm')
  | build t ps =>
    rw [hop] at h hr hl
    obtain ⟨hb, v', hrun, hv⟩ := opBuild_ok hE.T (a := a) (ps := ps) (by simpa [opers] using hl) (fun i u p hu hp => hr i u p.2 hu (by simp [opers, hp])) h
    exact fin_val S hb (by simp only [execOp, hop]; exact run_v hrun) hv
  | buildSlice t len ps =>
    rw [hop] at h hr hl
    obtain ⟨x, cs, e, s, rfl, rfl, hlx, hx, hrun⟩ := opBuildSlice_ok hE.T (a := a) (ps := ps) (by simpa [opers] using hl) (fun i u p hu hp => hr i u p.2 hu (by simp [opers, hp])) h
    exact fin_new S (by rw [hop]; rfl) hfree rfl (by simp only [execOp, hop]; exact run_v hrun) hx (fun m' hm' => .sl _ _ _ _ _ _ _ _ _ _ hm' (.inl rfl) (Nat.le_refl _) (fun k hk => by cases hk; rfl) (fun hc => by cases hc) hlx)
  | load t x =>
    rw [hop] at h hr
    obtain ⟨x', rfl, he⟩ := with1_of h
    obtain ⟨hb, v', hrun, hv⟩ := opLoad_ok hE.T hB (hr 0 _ x rfl rfl) he
    exact fin_val S hb (by simp only [execOp, hop]; exact run_v hrun) hv
  | nilCheck x =>
    rw [hop] at h hr
    obtain ⟨x', rfl, he⟩ := with1_of h
    obtain ⟨hb, ⟨ad, hv⟩, hrep⟩ := opNil_ok (hr 0 _ x rfl rfl) he
    exact fin_val S hb (v := a.eval x) (by simp only [execOp, hop, hv]; rfl) hrep
  | sliceToArrayPointer t x =>
    rw [hop] at h hr
    obtain ⟨x', rfl, he⟩ := with1_of h
    obtain ⟨hb, v', hrun, hv⟩ := opToArr_ok hE.T (hr 0 _ x rfl rfl) he
    exact fin_val S hb (by simp only [execOp, hop]; exact run_v hrun) hv
  | binOp op t x y ty =>
    rw [hop] at h hr
    obtain ⟨x', y', rfl, he⟩ := with2_of h
    obtain ⟨hb, v', hrun, hv⟩ := opBin_ok hE.T (x := x) (y := y) (hr 0 _ x rfl rfl) (hr 1 _ y rfl rfl) he
    exact fin_val S hb (by simp only [execOp, hop]; exact run_v hrun) hv
  | unOp op t x =>
    rw [hop] at h hr
    obtain ⟨x', rfl, he⟩ := with1_of h
    obtain ⟨he, hb⟩ := just_ok he
    obtain ⟨v', hrun, hv⟩ := unV_ok (P := P) (hr 0 _ x rfl rfl) he
    exact fin_val S hb (by simp only [execOp, hop]; exact run_v hrun) hv
  | convert src dst x =>
    rw [hop] at h hr
    obtain ⟨x', rfl, he⟩ := with1_of h
    obtain ⟨he, hb⟩ := just_ok he
    obtain ⟨v', hrun, hv⟩ := convV_ok hE.T hB (hr 0 _ x rfl rfl) he
    exact fin_val S hb (by simp only [execOp, hop]; exact run_v hrun) hv
  | makeSlice t l c =>
    rw [hop] at h hr
    obtain ⟨x', y', rfl, he⟩ := with2_of h
    obtain ⟨x, cs, e, s, k, q, rfl, rfl, hkq, hqx, hx, hrun⟩ := opMakeSlice_ok hE.T (hr 0 _ l rfl rfl) (hr 1 _ c rfl rfl) he
    exact fin_new S (by rw [hop]; rfl) hfree rfl (by simp only [execOp, hop]; exact run_v hrun) hx (fun m' hm' => .sl _ _ _ _ _ _ _ _ _ _ hm' (.inl rfl) hkq (fun k hk => by cases hk; rfl) (fun hc => by cases hc) hqx)
  | slice t x lo hi mx =>
    rw [hop] at h hr hl
    simp only [vopX] at h
    split at h
    · rename_i x' is
      obtain ⟨hb, v', hrun, hv⟩ := opSlice_ok hE.T (a := a) (lo := lo) (hi := hi) (mx := mx) (hr 0 _ x rfl rfl) (by simpa [opers] using hl) (fun i u p hu hp => hr (i + 1) u p (by simpa using hu) (by simpa [opers] using hp)) h
      exact fin_val S hb (by simp only [execOp, hop]; exact run_v hrun) hv
    · cases h
  | fieldAddr s x f =>
    rw [hop] at h hr
    obtain ⟨x', rfl, he⟩ := with1_of h
    obtain ⟨hb, v', hrun, hv⟩ := opFieldAddr_ok hE.T (hr 0 _ x rfl rfl) he
    exact fin_val S hb (by simp only [execOp, hop]; exact run_v hrun) hv
  | field s x f =>
    rw [hop] at h hr
    obtain ⟨x', rfl, he⟩ := with1_of h
    obtain ⟨hb, v', hrun, hv⟩ := opField_ok hE.T (hr 0 _ x rfl rfl) he
    exact fin_val S hb (by simp only [execOp, hop]; exact run_v hrun) hv
  | indexAddr t x i =>
    rw [hop] at h hr
    obtain ⟨x', y', rfl, he⟩ := with2_of h
    obtain ⟨hb, v', hrun, hv⟩ := opIndexAddr_ok hE.T (hr 0 _ x rfl rfl) (hr 1 _ i rfl rfl) he
    exact fin_val S hb (by simp only [execOp, hop]; exact run_v hrun) hv
  | index t x i =>
    rw [hop] at h hr
    obtain ⟨x', y', rfl, he⟩ := with2_of h
    obtain ⟨hb, v', hrun, hv⟩ := opIndex_ok hE.T (hr 0 _ x rfl rfl) (hr 1 _ i rfl rfl) he
    exact fin_val S hb (by simp only [execOp, hop]; exact run_v hrun) hv
  | extract x i =>
    rw [hop] at h hr
    obtain ⟨x', rfl, he⟩ := with1_of h
    obtain ⟨hb, v', hrun, hv⟩ := opExtract_ok (P := P) (hr 0 _ x rfl rfl) he
    exact fin_val S hb (by simp only [execOp, hop]; exact run_v hrun) hv
  | call c =>
    rw [hop] at h hr hl
    obtain ⟨callee, args, ts⟩ := c
    simp only [vopX, callX] at h
    split at h
    · rename_i f
      have hop' : o.op = .call { callee := .value (.func f), args := args, argTypes := ts } := hop
      have hl' : xs.tail.length = args.size := by simp [opers] at hl; simp [hl]
      have hargs : ∀ (i : Nat) (u : LV), xs.tail[i]? = some u → Rep F w m u ((args.map a.eval).getD i undef) := by
        intro i u hu
        have hi : i < args.size := by rw [← hl']; exact lt_of_get hu
        have := hr (i + 1) u args[i] (by simpa [List.getElem?_tail] using hu) (by simp [opers, hi])
        simpa [Array.getD_eq_getD_getElem?, hi] using this
      obtain ⟨ds, r, hds, hor, hc, hout⟩ := opCall_of h
      obtain ⟨⟨fn, q1, q2, q3⟩, _⟩ := hE.orc f ds r hor
      have hrun : (execOp a.eval o).run P w = .ok (.enter f (args.map a.eval)) w := by
        have hbn : ¬ fn.body = none := fun hb => by simp [hb] at q3
        simp [execOp, hop', resolve, Act.eval, Deferred.ofValue, invoke, callFunc, q1, q2, hbn]
      unfold Oper.wp
      rw [hrun, Oper.upon_enter]
      rcases hd : o.dst with _ | d
      · refine (opCall_pre hE S (by simp [hl']) hargs hds hor hc).mono ?_
        rintro e w' ⟨v, F', rfl, hk, _⟩
        refine ⟨m, F, ?_⟩
        rw [hd]
        exact S.world hk
      · rw [hd] at h
        refine (opCall_ok hE S (d := d) (by simp [hl']) hargs (hfree (by rw [hop']; rfl) d hd) h).mono ?_
        rintro e w' ⟨v, m', F', rfl, h1, h2⟩
        refine ⟨m', F', ?_⟩
        have := h1.put o.dst h2
        rw [hd] at this ⊢
        exact this
    · rename_i hop2
      split at h
      · rename_i x t hts
        have hts' : ts = #[t] := by rw [← Array.toArray_toList (xs := ts), hts]
        subst hts'
        have hop' : o.op = .call { callee := .builtin .len, args := args, argTypes := #[t] } := hop
        have hl1 : args.size = 1 := by simpa [opers] using hl.symm
        have hr0 := hr 0 x args[0] rfl (by simp [opers, hl1])
        obtain ⟨hb, v', hrun, hv⟩ := opLen_ok hE.T (P := P) (ty := o.type) hr0 h
        refine fin_val S hb ?_ hv
        have hargs : args.map a.eval = #[a.eval args[0]] := by
          apply Array.ext
          · simp [hl1]
          · intro i h1 h2
            have : i = 0 := by simp at h2; exact h2
            subst this
            simp
        simp only [execOp, hop', resolve, invoke, builtin, hargs, Sem.run_bind, Sem.run_pure, Result.andThen_ok, hrun]
      · cases h
    · cases h
  | _ => rw [hop] at h; simp [vopX] at h

theorem vop_ok (hE : EnvOk P E) (S : SR A w0 n m F ρ β a w) {o : Oper} {u : LV} {bs : List (Nat × Blk)} {Q : Exit → Act → World → Prop}
    (hfree : makes o.op = true → ∀ d, o.dst = some d → ∀ k, k < 8 → β (8 * d + k) = none) (h : vop E ρ β (o.dst.getD 0) o.op = some (u, bs)) : o.wp P a w (VPost A w0 n ρ β o u bs) Q := by
  unfold vop at h
  split at h
  · rename_i c x y hop
    split at h
    · rename_i hc
      rcases hq : evalO ρ x with _ | u'
      · rw [hq] at h; cases h
      · rw [hq] at h
        cases h
        have hcv := evalO_ok S.slots hc
        refine fin_val S rfl (v := a.eval x) ?_ (evalO_ok S.slots hq)
        generalize hce : a.eval c = vc at hcv
        cases hcv
        simp [execOp, hop, hce, asBool]
    · rename_i hc
      rcases hq : evalO ρ y with _ | u'
      · rw [hq] at h; cases h
      · rw [hq] at h
        cases h
        have hcv := evalO_ok S.slots hc
        refine fin_val S rfl (v := a.eval y) ?_ (evalO_ok S.slots hq)
        generalize hce : a.eval c = vc at hcv
        cases hcv
        simp [execOp, hop, hce, asBool]
    · cases h
  · split at h
    · rename_i xs hxs
      exact vopX_ok hE S hfree hxs h
    · cases h
end
end Go.Proofs.Ytcmceadekcfpbaa
