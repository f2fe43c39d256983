/-
  The machine of plain values: literals, fields, elements, slices, arithmetic.
-/
import Derived.Test.YtcmceadekcfpbaaM4
namespace Go.Proofs.Ytcmceadekcfpbaa
open Go.RowKit

section
variable {P : Program}

/-- The value x stands for an array of cells. -/
def RepC (F : Nat → Prop) (w : World) (m : Map) (x : Cont) (cs : Array Value) : Prop :=
  cs.size = x.vals.length ∧ ∀ (i : Nat) (u : LV), x.vals[i]? = some u → Rep F w m u (cs.getD i undef)

theorem foldl_lay (off : Nat) : ∀ (l : List Value) (k : Nat) (cs : Array Value), ((l.zipIdx k).foldl (fun cs p => cs.setIfInBounds (off + p.2) p.1) cs).size = cs.size ∧
    ∀ i, i < cs.size → ((l.zipIdx k).foldl (fun cs p => cs.setIfInBounds (off + p.2) p.1) cs).getD i undef = if off + k ≤ i ∧ i < off + k + l.length then l.getD (i - (off + k)) undef else cs.getD i undef
  | [], k, cs => by
    refine ⟨rfl, fun i hi => ?_⟩
    simp
    intro h1 h2
    omega
  | v :: l, k, cs => by
    obtain ⟨h1, h2⟩ := foldl_lay off l (k + 1) (cs.setIfInBounds (off + k) v)
    simp only [List.zipIdx_cons, List.foldl_cons]
    refine ⟨by rw [h1]; simp, fun i hi => ?_⟩
    rw [h2 i (by simpa using hi)]
    by_cases hk : i = off + k
    · subst hk
      rw [if_neg (by omega), if_pos (by simp)]
      simp [hi]
    · by_cases hin : off + (k + 1) ≤ i ∧ i < off + (k + 1) + l.length
      · rw [if_pos hin, if_pos (by simp; omega)]
        obtain ⟨j, hj⟩ : ∃ j, i - (off + k) = j + 1 := ⟨i - (off + k) - 1, by omega⟩
        rw [hj, show i - (off + (k + 1)) = j by omega]
        simp
      · rw [if_neg hin, if_neg (by simp; omega)]
        simp only [Array.getD_eq_getD_getElem?]
        rw [Array.getElem?_setIfInBounds_ne (by omega)]

theorem lay_step {F : Nat → Prop} {w : World} {m : Map} {x y z : Cont} {cs vs : Array Value} {off : Nat} (hx : RepC F w m x cs) (hy : RepC F w m y vs) (hz : off + y.vals.length ≤ x.vals.length ∧ z.vals = x.vals.take off ++ y.vals ++ x.vals.drop (off + y.vals.length)) :
    RepC F w m z (vs.zipIdx.foldl (fun cs p => cs.setIfInBounds (off + p.2) p.1) cs) := by
  obtain ⟨hl, hz⟩ := hz
  have e : vs.zipIdx.foldl (fun cs p => cs.setIfInBounds (off + p.2) p.1) cs = (vs.toList.zipIdx 0).foldl (fun cs p => cs.setIfInBounds (off + p.2) p.1) cs := by
    rw [← Array.foldl_toList, Array.toList_zipIdx]
  rw [e]
  obtain ⟨h1, h2⟩ := foldl_lay off vs.toList 0 cs
  have hlen : z.vals.length = x.vals.length := by rw [hz]; simp; omega
  refine ⟨by rw [h1, hx.1, hlen], fun i u hu => ?_⟩
  have hi : i < cs.size := by rw [hx.1, ← hlen]; exact lt_of_get hu
  rw [h2 i hi, Nat.add_zero, Array.length_toList, hy.1]
  rw [hz] at hu
  by_cases hin : off ≤ i ∧ i < off + y.vals.length
  · rw [if_pos hin]
    rw [List.append_assoc, List.getElem?_append_right (by simp; omega), List.getElem?_append_left (by simp; omega)] at hu
    have hm : min off x.vals.length = off := by omega
    simp only [List.length_take, hm] at hu
    have := hy.2 _ _ hu
    simpa [Array.getD_eq_getD_getElem?, List.getD_eq_getElem?_getD] using this
  · rw [if_neg hin]
    refine hx.2 i u ?_
    by_cases hlt : i < off
    · rw [List.append_assoc, List.getElem?_append_left (by simp; omega), List.getElem?_take, if_pos hlt] at hu
      exact hu
    · rw [List.getElem?_append_right (by simp; omega)] at hu
      have hm : min off x.vals.length = off := by omega
      simp only [List.length_append, List.length_take, hm, List.getElem?_drop] at hu
      rwa [show off + y.vals.length + (i - (off + y.vals.length)) = i by omega] at hu

theorem layAll_ok {F : Nat → Prop} {w : World} {m : Map} {place : Nat → Option (Nat × Nat)} : ∀ (ps : List (Nat × LV)) (qs : List (Nat × Value)) (x z : Cont) (cs : Array Value), RepC F w m x cs →
    ps.length = qs.length → (∀ (i : Nat) (p : Nat × LV) (q : Nat × Value), ps[i]? = some p → qs[i]? = some q → p.1 = q.1 ∧ Rep F w m p.2 q.2) → layAll place x ps = some z →
    ∃ cs', Instr.fill place cs qs = some cs' ∧ RepC F w m z cs'
  | [], [], x, z, cs, hx, _, _, h => by simp [layAll] at h; subst h; exact ⟨cs, rfl, hx⟩
  | [], _ :: _, _, _, _, _, h, _, _ => by simp at h
  | _ :: _, [], _, _, _, _, h, _, _ => by simp at h
  | (i, u) :: ps, (j, v) :: qs, x, z, cs, hx, hlen, hps, h => by
    obtain ⟨hij, huv⟩ := hps 0 (i, u) (j, v) rfl rfl
    simp only at hij huv
    subst hij
    simp only [layAll] at h
    split at h
    · rename_i off size y hp hy
      split at h
      · rename_i hys
        split at h
        · rename_i x' hx'
          obtain ⟨c1, c2, _⟩ := cells_rep huv hy
          have hlay : off + y.vals.length ≤ x.vals.length ∧ x'.vals = x.vals.take off ++ y.vals ++ x.vals.drop (off + y.vals.length) := layOne_vals (x := x) (y := y) (o := off) hx'
          have hst := lay_step (off := off) hx ⟨c1, c2⟩ hlay
          obtain ⟨cs', h1, h2⟩ := layAll_ok ps qs x' z _ hst (by simpa using hlen) (fun n p q hp hq => hps (n + 1) p q (by simpa using hp) (by simpa using hq)) h
          refine ⟨cs', ?_, h2⟩
          have hsz : v.cells.size = size := by rw [c1, ← Cont.len_vals, hys]
          have hle : ¬ (off + v.cells.size > cs.size) := by rw [c1, hx.1]; omega
          unfold Instr.fill
          rw [hp]
          simp only [hsz]
          rw [hsz] at hle
          rw [if_neg (by simpa using hle)]
          exact h1
        · cases h
      · cases h
    · cases h

theorem zero_rep {F : Nat → Prop} {w : World} {m : Map} {zv : Value} {z : Cont} (h : zeroCont zv = some z) : RepC F w m z zv.cells := by
  unfold zeroCont at h
  rcases hq : optMap lvOf zv.cells.toList with _ | l
  · rw [hq] at h; cases h
  · rw [hq] at h
    cases h
    obtain ⟨h1, h2⟩ := optMap_spec hq
    refine ⟨by rw [mkCont_vals, h1]; simp, fun i u hu => ?_⟩
    rw [mkCont_vals] at hu
    obtain ⟨v, hv, hl⟩ := h2 i u hu
    have : zv.cells.getD i undef = v := by
      rw [Array.getD_eq_getD_getElem?]
      rw [Array.getElem?_toList] at hv
      rw [hv]; rfl
    rw [this]
    exact lvOf_rep hl

theorem zip_parts {F : Nat → Prop} {w : World} {m : Map} {a : Act} {ps : Array (Nat × Operand)} {xs : List LV} (hxs : xs.length = ps.size) (hr : ∀ (i : Nat) (u : LV) (p : Nat × Operand), xs[i]? = some u → ps[i]? = some p → Rep F w m u (a.eval p.2)) :
    ((ps.toList.map (·.1)).zip xs).length = (ps.map fun (i, x) => (i, a.eval x)).toList.length ∧ ∀ (i : Nat) (p : Nat × LV) (q : Nat × Value), ((ps.toList.map (·.1)).zip xs)[i]? = some p → (ps.map fun (i, x) => (i, a.eval x)).toList[i]? = some q → p.1 = q.1 ∧ Rep F w m p.2 q.2 := by
  refine ⟨by simp [hxs], fun i p q hp hq => ?_⟩
  simp only [Array.toList_map, List.getElem?_map, Array.getElem?_toList] at hq
  rcases hz : ps[i]? with _ | c
  · rw [hz] at hq; cases hq
  · rw [hz] at hq
    cases hq
    have := List.getElem?_zip_eq_some.1 hp
    obtain ⟨h1, h2⟩ := this
    simp only [List.getElem?_map, Array.getElem?_toList, hz, Option.map_some, Option.some.injEq] at h1
    exact ⟨h1.symm, hr i _ c h2 hz⟩

theorem opBuild_ok {E : Env} (hT : ∀ t i, E.T t = some i → tiOf P t = some i) {F : Nat → Prop} {w : World} {m : Map} {a : Act} {t : Nat} {ps : Array (Nat × Operand)} {xs : List LV} {u' : LV} {bs : List (Nat × Blk)}
    (hxs : xs.length = ps.size) (hr : ∀ (i : Nat) (u : LV) (p : Nat × Operand), xs[i]? = some u → ps[i]? = some p → Rep F w m u (a.eval p.2))
    (h : opBuild E t (ps.toList.map (·.1)) xs = some (u', bs)) : bs = [] ∧ ∃ v', (Instr.build t (ps.map fun (i, x) => (i, a.eval x))).run P w = .ok v' w ∧ Rep F w m u' v' := by
  obtain ⟨hl, hp⟩ := zip_parts hxs hr
  unfold opBuild at h
  split at h
  · rename_i fs _ _ _ z hti
    obtain ⟨i, d, hi, hd, htd, hs, _, hg, hz⟩ := tiOf_spec (hT _ _ hti)
    obtain ⟨zv, hz1, hz2⟩ := hz z rfl
    obtain ⟨gs, rfl, hfl, hfs⟩ := td_struct htd
    split at h
    · rename_i x hx
      cases h
      have hzr : RepC F w m z.loose zv.cells := by
        have := zero_rep (F := F) (w := w) (m := m) hz2
        exact ⟨by rw [Cont.loose_vals]; exact this.1, by rw [Cont.loose_vals]; exact this.2⟩
      obtain ⟨cs, h1, h2⟩ := layAll_ok _ _ _ _ _ hzr hl hp hx
      refine ⟨rfl, .agg cs, ?_, .agg _ _ _ (by rw [Cont.tight_vals]; exact h2.1) (by rw [Cont.tight_vals]; exact h2.2)⟩
      have hplaces : ∃ pl : Array (Nat × Nat), (gs.mapM fun f : Field => (do pure (f.offset, ← sizeOf f.type) : Sem (Nat × Nat))).run P w = .ok pl w ∧ ∀ i, pl[i]? = placeS fs i := by
        have key : ∀ (l : List Field) (k : Nat), (∀ j, l[j]? = gs[k + j]?) → ∀ acc : List (Nat × Nat), ∃ pl : List (Nat × Nat), (l.mapM fun f : Field => Prod.mk f.offset <$> sizeOf f.type).run P w = .ok pl w ∧ pl.length = l.length ∧ ∀ i, i < l.length → pl[i]? = placeS fs (k + i) := by
          intro l
          induction l with
          | nil => exact fun k _ _ => ⟨[], by simp, rfl, fun i hi => by simp at hi⟩
          | cons f l ih =>
            intro k hk acc
            have h0 := hk 0
            simp only [List.getElem?_cons_zero, Nat.add_zero] at h0
            have hlt : k < fs.length := by rw [hfl]; exact (Array.getElem?_eq_some_iff.1 h0.symm).1
            obtain ⟨⟨o, z', g⟩, hq⟩ : ∃ q, fs[k]? = some q := ⟨fs[k], List.getElem?_eq_getElem hlt⟩
            obtain ⟨f', j, d', e1, e2, e3, e4, e5, e6⟩ := hfs k o z' g hq
            rw [← h0] at e1
            cases e1
            obtain ⟨pl, p1, p2, p3⟩ := ih (k + 1) (fun j => by have := hk (j + 1); simp only [List.getElem?_cons_succ] at this; rw [this]; congr 1; omega) []
            refine ⟨(o, z') :: pl, ?_, by simp [p2], fun i hi => ?_⟩
            · simp [List.mapM_cons, run_sizeOfI e2, p1, e4, e5]
            · cases i with
              | zero => simp [placeS, hq]
              | succ i =>
                simp only [List.getElem?_cons_succ]
                rw [p3 i (by simpa using hi), show k + 1 + i = k + (i + 1) by omega]
        obtain ⟨pl, p1, p2, p3⟩ := key gs.toList 0 (fun j => by simp) []
        refine ⟨pl.toArray, ?_, fun i => ?_⟩
        · rw [Array.mapM_eq_mapM_toList]
          simp [p1]
        · by_cases hi : i < gs.size
          · simpa using p3 i (by simpa using hi)
          · have hn : fs[i]? = none := by simp; omega
            have hp2 : pl.length = gs.size := by simpa using p2
            simp [placeS, hn]
            omega
      obtain ⟨pl, p1, p2⟩ := hplaces
      have hfun : (fun i => pl[i]?) = placeS fs := funext p2
      simp only [Instr.build, Sem.run_bind, run_zeroI hi hz1, Result.andThen_ok, run_underlying hd, p1]
      rw [hfun, h1]
      rfl
    · cases h
  · rename_i n e s _ _ _ z hti
    obtain ⟨i, d, hi, hd, htd, hs, _, hg, hz⟩ := tiOf_spec (hT _ _ hti)
    obtain ⟨zv, hz1, hz2⟩ := hz z rfl
    obtain ⟨rfl, j, hj, hjs⟩ := td_arr htd
    unfold justA at h
    split at h
    · rename_i x hx
      cases h
      obtain ⟨cs, h1, h2⟩ := layAll_ok _ _ _ _ _ (zero_rep (F := F) (w := w) (m := m) hz2) hl hp hx
      refine ⟨rfl, .agg cs, ?_, .agg _ _ _ h2.1 h2.2⟩
      simp only [Instr.build, Sem.run_bind, run_zeroI hi hz1, Result.andThen_ok, run_underlying hd, run_sizeOfI hj, hjs, h1]
      rfl
    · cases h
  · cases h

theorem flatten_replicate_get {α : Type} (l : List α) : ∀ (n i : Nat), 0 < l.length → i < n * l.length → (List.replicate n l).flatten[i]? = l[i % l.length]?
  | 0, i, _, h => by simp at h
  | n + 1, i, hl, h => by
    rw [List.replicate_succ, List.flatten_cons]
    by_cases hi : i < l.length
    · rw [List.getElem?_append_left hi, Nat.mod_eq_of_lt hi]
    · rw [List.getElem?_append_right (by omega), flatten_replicate_get l n _ hl (by rw [Nat.add_mul] at h; omega), Nat.mod_eq_sub_mod (by omega : i ≥ l.length)]
theorem rep_zero {F : Nat → Prop} {w : World} {m : Map} {z : Cont} {zs : Array Value} (h : RepC F w m z zs) (hz : 0 < zs.size) (n : Nat) : RepC F w m (repCont n z) ((Array.range (n * zs.size)).map (zs[· % zs.size]!)) := by
  refine ⟨?_, fun i u hu => ?_⟩
  · rw [repCont_vals]; simp [h.1]
  · have hi : i < n * z.vals.length := by have := lt_of_get hu; rw [repCont_vals] at this; simpa using this
    rw [repCont_vals, flatten_replicate_get _ _ _ (by rw [← h.1]; exact hz) hi] at hu
    have := h.2 _ _ hu
    have hm : i % zs.size < zs.size := Nat.mod_lt _ hz
    have e : ((Array.range (n * zs.size)).map (zs[· % zs.size]!)).getD i undef = zs.getD (i % z.vals.length) undef := by
      rw [h.1] at hm ⊢
      have hm' : i % z.vals.length < zs.size := by rw [h.1]; exact hm
      simp [Array.getD_eq_getD_getElem?, hi, hm']
    rw [e]
    exact this
end
end Go.Proofs.Ytcmceadekcfpbaa
