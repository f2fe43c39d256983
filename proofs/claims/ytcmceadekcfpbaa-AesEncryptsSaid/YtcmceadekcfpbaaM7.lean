/-
  The machine of plain values: slices, arithmetic, conversions.
-/
import Derived.Test.YtcmceadekcfpbaaM6
namespace Go.Proofs.Ytcmceadekcfpbaa
open Go.RowKit

section
variable {P : Program} {E : Env} (hT : ∀ t i, E.T t = some i → tiOf P t = some i) {F : Nat → Prop} {w : World} {m : Map} {bs : List (Nat × Blk)} {u' : LV}

theorem run_bounds {is : List Int} {vl vh vm : Option Value} {n c l h mx : Nat} (b : Bool) (hb : bounds is vl.isSome vh.isSome vm.isSome n c = some (l, h, mx))
    (hl : ∀ v, vl = some v → ∃ k, v = .int k (is.getD 0 0))
    (hh : ∀ v, vh = some v → ∃ k, v = .int k ((if vl.isSome then is.drop 1 else is).getD 0 0))
    (hm : ∀ v, vm = some v → ∃ k, v = .int k ((if vl.isSome then is.drop 1 else is).getD 1 0)) :
    (Instr.sliceBounds b n c vl vh vm).run P w = .ok (l, h, mx) w ∧ l ≤ h ∧ h ≤ mx ∧ mx ≤ c ∧ (vm = none → mx = c) := by
  unfold bounds at hb
  split at hb
  · rename_i hc
    obtain ⟨c1, c2, c3, c4, c5⟩ := hc
    cases hb
    simp only [lowI, highI, maxI, restI] at *
    rcases vm with _ | vm
    · rcases vh with _ | vh
      · rcases vl with _ | vl
        · simp at c1 c2 c3 c4 ⊢
          simp [Instr.sliceBounds]
          omega
        · obtain ⟨k1, rfl⟩ := hl _ rfl
          simp only [Option.isSome_some, Option.isSome_none, if_true, if_false, Bool.false_eq_true] at c1 c2 c3 c4 ⊢
          refine ⟨?_, by omega, by omega, by omega, fun _ => by omega⟩
          simp only [Instr.sliceBounds, Instr.sliceBound, asIntOf, Sem.run_bind, Sem.run_pure, Result.andThen_ok]
          rw [if_pos (by omega)]
          simp
      · obtain ⟨k2, rfl⟩ := hh _ rfl
        rcases vl with _ | vl
        · simp only [Option.isSome_some, Option.isSome_none, if_true, if_false, Bool.false_eq_true] at c1 c2 c3 c4 ⊢
          refine ⟨?_, by omega, by omega, by omega, fun _ => by omega⟩
          simp only [Instr.sliceBounds, Instr.sliceBound, asIntOf, Sem.run_bind, Sem.run_pure, Result.andThen_ok]
          rw [if_pos (by omega)]
          simp
        · obtain ⟨k1, rfl⟩ := hl _ rfl
          simp only [Option.isSome_some, Option.isSome_none, if_true, if_false, Bool.false_eq_true] at c1 c2 c3 c4 ⊢
          refine ⟨?_, by omega, by omega, by omega, fun _ => by omega⟩
          simp only [Instr.sliceBounds, Instr.sliceBound, asIntOf, Sem.run_bind, Sem.run_pure, Result.andThen_ok]
          rw [if_pos (by omega)]
          simp only [Sem.run_pure, Result.andThen_ok]
          rw [if_pos (by omega)]
          simp
    · obtain ⟨k3, rfl⟩ := hm _ rfl
      rcases vh with _ | vh
      · simp at c5
      · obtain ⟨k2, rfl⟩ := hh _ rfl
        rcases vl with _ | vl
        · simp only [Option.isSome_some, Option.isSome_none, if_true, if_false, Bool.false_eq_true] at c1 c2 c3 c4 ⊢
          refine ⟨?_, by omega, by omega, by omega, fun h => by cases h⟩
          simp only [Instr.sliceBounds, Instr.sliceBound, asIntOf, Sem.run_bind, Sem.run_pure, Result.andThen_ok]
          rw [if_pos (by omega)]
          simp only [Sem.run_pure, Result.andThen_ok]
          rw [if_pos (by omega)]
          simp
        · obtain ⟨k1, rfl⟩ := hl _ rfl
          simp only [Option.isSome_some, if_true] at c1 c2 c3 c4 ⊢
          refine ⟨?_, by omega, by omega, by omega, fun h => by cases h⟩
          simp only [Instr.sliceBounds, Instr.sliceBound, asIntOf, Sem.run_bind, Sem.run_pure, Result.andThen_ok]
          rw [if_pos (by omega)]
          simp only [Sem.run_pure, Result.andThen_ok]
          rw [if_pos (by omega)]
          simp only [Sem.run_pure, Result.andThen_ok]
          rw [if_pos (by omega)]
          simp
  · cases hb

include hT
theorem opSlice_ok {a : Act} {t : Nat} {lo hi mx : Option Operand} {u : LV} {v : Value} {is : List LV} (hr : Rep F w m u v)
    (hlen : is.length = (lo.toList ++ hi.toList ++ mx.toList).length) (hi_ : ∀ (i : Nat) (u : LV) (p : Operand), is[i]? = some u → (lo.toList ++ hi.toList ++ mx.toList)[i]? = some p → Rep F w m u (a.eval p))
    (h : opSlice E t lo.isSome hi.isSome mx.isSome u is = some (u', bs)) : bs = [] ∧ ∃ v', (Instr.sliceAt t v (lo.map a.eval) (hi.map a.eval) (mx.map a.eval)).run P w = .ok v' w ∧ Rep F w m u' v' := by
  unfold opSlice at h
  rcases hq : optMap pickInt is with _ | js
  · rw [hq] at h
    split at h <;> first | cases h | (rename_i h1; cases h1)
  rw [hq] at h
  obtain ⟨q1, q2⟩ := optMap_spec hq
  have hint : ∀ (i : Nat) (p : Operand), (lo.toList ++ hi.toList ++ mx.toList)[i]? = some p → ∃ k, a.eval p = .int k (js.getD i 0) := by
    intro i p hp
    have hlt : i < js.length := by rw [q1, hlen]; exact lt_of_get hp
    have hj : js[i]? = some (js.getD i 0) := by rw [List.getD_eq_getElem?_getD, List.getElem?_eq_getElem hlt]; rfl
    obtain ⟨u, hu, hpu⟩ := q2 i _ hj
    exact pickInt_rep (hi_ i u p hu hp) hpu
  have hl : ∀ v, lo.map a.eval = some v → ∃ k, v = .int k (js.getD 0 0) := by
    intro v hv
    rcases lo with _ | lo
    · cases hv
    · cases hv; exact hint 0 lo (by simp)
  have hh : ∀ v, hi.map a.eval = some v → ∃ k, v = .int k ((if (lo.map a.eval).isSome then js.drop 1 else js).getD 0 0) := by
    intro v hv
    rcases hi with _ | hi
    · cases hv
    · cases hv
      rcases lo with _ | lo
      · simpa using hint 0 hi (by simp)
      · have := hint 1 hi (by simp)
        simpa [List.getD_eq_getElem?_getD] using this
  have hm : hi.isSome → ∀ v, mx.map a.eval = some v → ∃ k, v = .int k ((if (lo.map a.eval).isSome then js.drop 1 else js).getD 1 0) := by
    intro hs v hv
    rcases mx with _ | mx
    · cases hv
    · cases hv
      rcases hi with _ | hi
      · cases hs
      · rcases lo with _ | lo
        · simpa using hint 1 mx (by simp)
        · have := hint 2 mx (by simp)
          simpa [List.getD_eq_getElem?_getD] using this
  have key : ∀ {n c l hh_ mm : Nat} (b : Bool), bounds js lo.isSome hi.isSome mx.isSome n c = some (l, hh_, mm) →
      (Instr.sliceBounds b n c (lo.map a.eval) (hi.map a.eval) (mx.map a.eval)).run P w = .ok (l, hh_, mm) w ∧ l ≤ hh_ ∧ hh_ ≤ mm ∧ mm ≤ c ∧ (mx = none → mm = c) := by
    intro n c l hh_ mm b hb
    have hs : mx.isSome → hi.isSome := by
      unfold bounds at hb
      split at hb
      · rename_i hc; exact hc.2.2.2.2
      · cases hb
    have := run_bounds (P := P) (w := w) (vl := lo.map a.eval) (vh := hi.map a.eval) (vm := mx.map a.eval) b (by simpa using hb) hl hh (fun v hv => hm (hs (by rcases mx with _ | mx; cases hv; rfl)) v hv)
    refine ⟨this.1, this.2.1, this.2.2.1, this.2.2.2.1, fun h0 => this.2.2.2.2 (by rw [h0]; rfl)⟩
  clear hl hh hm hint q1 q2 hq hlen hi_
  split at h
  · rename_i n e z _ _ _ _ js' hti hjs
    cases hjs
    obtain ⟨ii, d', hii, hd, htd, _, _, _, _⟩ := tiOf_spec (hT _ _ hti)
    obtain ⟨rfl, j, hj, hjs⟩ := td_arr htd
    split at h
    · rename_i l hh_ mm b off hb
      split at h
      case isFalse => cases h
      rename_i hnx
      cases h
      obtain ⟨k1, k2, k3, k4, _⟩ := key false hb
      cases hr with
      | ptr _ _ _ g s hm =>
        refine ⟨rfl, _, by simp [Instr.sliceAt, run_underlying hd, Instr.sureAddr, k1, run_sizeOfI hj, hjs]; rfl, ?_⟩
        refine .sl _ _ _ _ _ _ g s _ _ hm ?_ (by omega) (fun k hk => by cases hk; rfl) (fun hc => by cases hc) (by omega)
        split
        · by_cases hz : l * z = 0
          · left; rw [hz]; rfl
          · right; omega
        · left; rw [add_block_none]
    · cases h
  · rename_i e z _ _ _ _ js' hti hjs
    cases hjs
    obtain ⟨ii, d', hii, hd, htd, _, _, _, _⟩ := tiOf_spec (hT _ _ hti)
    obtain ⟨rfl, j, hj, hjs⟩ := td_slice htd
    split at h
    · rename_i z' b off n c
      split at h
      · rename_i hz
        subst hz
        split at h
        · rename_i l hh_ mm hb
          cases h
          cases hr with
          | sl _ _ _ _ _ _ g s ad c' hm ha hn hk hs hx =>
            have hcap : c.getD n ≤ c' := by
              rcases c with _ | c
              · exact hn
              · exact Nat.le_of_eq (hk c rfl).symm
            have hb' : ∃ mm', bounds js lo.isSome hi.isSome mx.isSome n c' = some (l, hh_, mm') ∧ (mx.isSome ∨ c.isSome → mm' = mm) ∧ mm ≤ mm' ∧ (mx = none → mm' = c') := by
              obtain ⟨_, b1, b2, b3, b4⟩ := key true hb
              unfold bounds at hb ⊢
              split at hb
              · rename_i hcond
                obtain ⟨d1, d2, d3, d4, d5⟩ := hcond
                simp only [Option.some.injEq, Prod.mk.injEq] at hb
                obtain ⟨e1, e2, e3⟩ := hb
                rcases mx with _ | mx
                · simp only [maxI, Option.isSome_none, Bool.false_eq_true, if_false] at d3 d4 e3 ⊢
                  rw [if_pos ⟨d1, d2, by omega, by omega, by simp⟩]
                  refine ⟨c', by simp [e1, e2], fun hcs => ?_, by omega, fun _ => rfl⟩
                  rcases c with _ | c
                  · simp at hcs
                  · have := hk c rfl; simp at e3; omega
                · simp only [maxI, Option.isSome_some, if_true] at d3 d4 e3 ⊢
                  rw [if_pos ⟨d1, d2, d3, by omega, fun _ => d5 rfl⟩]
                  exact ⟨mm, by rw [e1, e2, e3], fun _ => rfl, Nat.le_refl _, fun h => by cases h⟩
              · cases hb
            obtain ⟨mm', hb1, hb2, hb3, hb4⟩ := hb'
            obtain ⟨k1, k2, k3, k4, k5⟩ := key true hb1
            refine ⟨rfl, .slice (some (if mm' = l then ad else ad.add (l * z))) (hh_ - l) (mm' - l), ?_, ?_⟩
            · have : (if mm' = l then some ad else Option.map (fun x : Addr => x.add (l * z)) (some ad)) = some (if mm' = l then ad else ad.add (l * z)) := by split <;> rfl
              simp only [Instr.sliceAt, Sem.run_bind, run_underlying hd, Result.andThen_ok, Instr.slice, k1, run_sizeOfI hj, hjs]
              rw [this]; rfl
            · refine .sl _ _ _ _ _ _ g s _ _ hm ?_ (by omega) (fun k hk' => ?_) (fun hc => ?_) (by omega)
              · rcases ha with rfl | ⟨rfl, h0, rfl⟩
                · split
                  · by_cases hz : l * z = 0
                    · left; rw [hz]; rfl
                    · right; omega
                  · left; rw [add_block_none]
                · right; omega
              · split at hk'
                · rename_i hcond
                  cases hk'
                  rw [hb2 (by simpa using hcond)]
                · cases hk'
              · have hmx : mx = none ∧ c = none := by
                  rcases mx with _ | mx <;> rcases c with _ | c <;> simp at hc ⊢
                have h1 := hs hmx.2
                rw [hb4 hmx.1, Nat.add_assoc, ← Nat.add_mul]
                rw [show l + (c' - l) = c' by omega]
                exact h1
          | slNil _ _ _ _ hm hk =>
            have hcap : c.getD 0 = 0 := by
              rcases c with _ | c
              · rfl
              · exact hk c rfl
            rw [hcap] at hb
            obtain ⟨k1, k2, k3, k4, k5⟩ := key true hb
            have e1 : l = 0 := by omega
            have e2 : hh_ = 0 := by omega
            have e3 : mm = 0 := by omega
            subst e1; subst e2; subst e3
            refine ⟨rfl, .slice none 0 0, ?_, ?_⟩
            · simp only [Instr.sliceAt, Sem.run_bind, run_underlying hd, Result.andThen_ok, Instr.slice, k1, run_sizeOfI hj]
              rfl
            · have := Rep.slNil (F := F) (w := w) m z b (if mx.isSome || c.isSome then some (0 - 0) else none) hm (fun k hk' => by split at hk' <;> cases hk'; rfl)
              simpa using this
        · cases h
      · cases h
    · rename_i z' n c x
      split at h
      · rename_i hz
        subst hz
        split at h
        · rename_i l hh_ mm hb
          split at h
          · rename_i hn'
            split at h
            · rename_i y hy
              cases h
              cases hr with
              | im _ _ _ _ _ ad c' f hl' hn hk ha hm hrr =>
                have hcap : c.getD n ≤ c' := by
                  rcases c with _ | c
                  · exact hn
                  · exact Nat.le_of_eq (hk c rfl).symm
                have hb' : ∃ mm', bounds js lo.isSome hi.isSome mx.isSome n c' = some (l, hh_, mm') ∧ (mx.isSome ∨ c.isSome → mm' = mm) ∧ mm ≤ mm' := by
                  unfold bounds at hb ⊢
                  split at hb
                  · rename_i hcond
                    obtain ⟨d1, d2, d3, d4, d5⟩ := hcond
                    simp only [Option.some.injEq, Prod.mk.injEq] at hb
                    obtain ⟨e1, e2, e3⟩ := hb
                    rcases mx with _ | mx
                    · simp only [maxI, Option.isSome_none, Bool.false_eq_true, if_false] at d3 d4 e3 ⊢
                      rw [if_pos ⟨d1, d2, by omega, by omega, by simp⟩]
                      refine ⟨c', by simp [e1, e2], fun hcs => ?_, by omega⟩
                      rcases c with _ | c
                      · simp at hcs
                      · have := hk c rfl; simp at e3; omega
                    · simp only [maxI, Option.isSome_some, if_true] at d3 d4 e3 ⊢
                      rw [if_pos ⟨d1, d2, d3, by omega, fun _ => d5 rfl⟩]
                      exact ⟨mm, by rw [e1, e2, e3], fun _ => rfl, Nat.le_refl _⟩
                  · cases hb
                obtain ⟨mm', hb1, hb2, hb3⟩ := hb'
                obtain ⟨k1, k2, k3, k4, k5⟩ := key true hb1
                obtain ⟨y1, y2⟩ := Cont.cut_vals hy
                have ylen : y.vals.length = (hh_ - l) * z := by rw [y2]; simp; omega
                refine ⟨rfl, .slice (if mm' = l then ad else ad.map (·.add (l * z))) (hh_ - l) (mm' - l), ?_, ?_⟩
                · simp only [Instr.sliceAt, Sem.run_bind, run_underlying hd, Result.andThen_ok, Instr.slice, k1, run_sizeOfI hj, hjs]
                  rfl
                · refine .im _ _ _ _ _ _ _ (fun i => f (l * z + i)) ylen (by omega) (fun k hk' => ?_) (fun h0 => ?_) ?_ (fun i u hu => ?_)
                  · split at hk'
                    · rename_i hcond
                      cases hk'
                      rw [hb2 (by simpa using hcond)]
                    · cases hk'
                  · have : ad = none := by
                      split at h0
                      · exact h0
                      · simpa using h0
                    have := ha this
                    omega
                  · by_cases hv : y.vals = []
                    · exact .inl hv
                    · right
                      have hne : x.vals ≠ [] := fun h0 => hv (by rw [y2, h0]; simp)
                      obtain ⟨g, o, rfl, hF, hc⟩ := hm.resolve_left hne
                      have hpos : 0 < (hh_ - l) * z := by
                        rw [← ylen]; exact List.length_pos_iff.2 hv
                      have hlt : 0 < hh_ - l := Nat.pos_of_mul_pos_right hpos
                      refine ⟨g, o + l * z, ?_, hF, fun i hi => ?_⟩
                      · rw [if_neg (by omega)]
                        simp [add_block_none]
                      · rw [Nat.add_assoc]; exact hc (l * z + i) (by omega)
                  · rw [y2, List.getElem?_take] at hu
                    split at hu
                    · rw [List.getElem?_drop] at hu; exact hrr _ _ hu
                    · cases hu
            · cases h
          · cases h
        · cases h
      · cases h
    · split at h
      · rename_i r hb
        obtain ⟨l, hh_, mm⟩ := r
        cases h
        cases hr with
        | v _ _ hp =>
          obtain ⟨k1, k2, k3, k4, k5⟩ := key true hb
          have e1 : l = 0 := by omega
          have e2 : hh_ = 0 := by omega
          have e3 : mm = 0 := by omega
          subst e1; subst e2; subst e3
          refine ⟨rfl, .slice none 0 0, ?_, .v _ _ rfl⟩
          simp only [Instr.sliceAt, Sem.run_bind, run_underlying hd, Result.andThen_ok, Instr.slice, k1, run_sizeOfI hj]
          rfl
      · cases h
    · cases h
  · cases h

theorem opLen_ok {t ty : Nat} {u : LV} {v : Value} (hr : Rep F w m u v) (h : opLen E t u = some (u', bs)) : bs = [] ∧ ∃ v', (Builtin.len_ #[t] ty #[v]).run P w = .ok v' w ∧ Rep F w m u' v' := by
  unfold opLen at h
  split at h
  · rename_i e z _ _ _ _ hti
    obtain ⟨ii, d', hii, hd, htd, _, _, _, _⟩ := tiOf_spec (hT _ _ hti)
    obtain ⟨rfl, j, hj, hjs⟩ := td_slice htd
    split at h
    · cases h; cases hr
      exact ⟨rfl, _, by simp [Builtin.len_, run_underlying hd]; rfl, .v _ _ rfl⟩
    · cases h
      cases hr <;> exact ⟨rfl, _, by simp [Builtin.len_, run_underlying hd]; rfl, .v _ _ rfl⟩
    · cases h; cases hr
      exact ⟨rfl, _, by simp [Builtin.len_, run_underlying hd]; rfl, .v _ _ rfl⟩
    · cases h
  · rename_i _ _ _ _ hti
    obtain ⟨ii, d', hii, hd, htd, _, _, _, _⟩ := tiOf_spec (hT _ _ hti)
    have := td_str htd
    subst this
    split at h
    · cases h; cases hr
      exact ⟨rfl, _, by simp [Builtin.len_, run_underlying hd, strOfNums_size]; rfl, .v _ _ rfl⟩
    · cases h
  · cases h
end
end Go.Proofs.Ytcmceadekcfpbaa
