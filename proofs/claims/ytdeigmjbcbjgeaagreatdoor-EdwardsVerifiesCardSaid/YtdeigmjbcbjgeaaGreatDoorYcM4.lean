import Derived.Test.YtdeigmjbcbjgeaaGreatDoorYcM1
namespace Go.Proofs.YtdeigmjbcbjgeaaGreatDoor
open Go.RowKit
section
variable {P : Program}
theorem tiOf_spec {t : Nat} {ti : TI} (h : tiOf P t = some ti) : ∃ i u, P.info? t = some i ∧ P.underlying t = some u ∧ tdOf P u = some ti.d ∧ ti.size = i.size ∧ ti.bytes = i.bytes ∧ ti.agg = isAggD u ∧
  (∀ z, ti.zero = some z → ∃ zv, i.zero = some zv ∧ zeroCont zv = some z) := by
 unfold tiOf at h
 split at h
 ·rename_i i u hi hu
  rcases hd : tdOf P u with _ | d
  ·rw [hd] at h; cases h
  ·rw [hd] at h
   cases h
   refine ⟨i, u, hi, hu, hd, rfl, rfl, rfl, fun z hz => ?_⟩
   simp only at hz
   rcases hq : i.zero with _ | zv
   ·rw [hq] at hz; cases hz
   ·rw [hq] at hz; exact ⟨zv, rfl, hz⟩
 ·cases h
theorem td_slice {u : TypeDesc} {e z : Nat} (h : tdOf P u = some (.slice e z)) : u = .slice e ∧ ∃ i, P.info? e = some i ∧ i.size = z := by
 cases u <;> simp [tdOf] at h
 ·obtain ⟨i, hi, h1, h2⟩ := h; subst h1; exact ⟨rfl, i, hi, h2⟩
theorem td_arr {u : TypeDesc} {n e z : Nat} (h : tdOf P u = some (.arr n e z)) : u = .array n e ∧ ∃ i, P.info? e = some i ∧ i.size = z := by
 cases u <;> simp [tdOf] at h
 ·obtain ⟨i, hi, h0, h1, h2⟩ := h; subst h0; subst h1; exact ⟨rfl, i, hi, h2⟩
theorem td_int {u : TypeDesc} {k : IntKind} (h : tdOf P u = some (.int k)) : u = .int k := by
 cases u <;> simp [tdOf] at h
 ·subst h; rfl
theorem td_str {u : TypeDesc} (h : tdOf P u = some .str) : u = .string := by
 cases u <;> simp [tdOf] at h
 ·rfl
theorem td_struct {u : TypeDesc} {fs : List (Nat × Nat × Bool)} (h : tdOf P u = some (.struct fs)) : ∃ gs, u = .struct gs ∧ fs.length = gs.size ∧ ∀ (i o z : Nat) (g : Bool), fs[i]? = some (o, z, g) →
  ∃ f j d, gs[i]? = some f ∧ P.info? f.type = some j ∧ P.underlying f.type = some d ∧ f.offset = o ∧ j.size = z ∧ isAggD d = g := by
 cases u <;> simp [tdOf] at h
 ·rename_i gs
  obtain ⟨h1, h2⟩ := optMap_spec h
  refine ⟨gs, rfl, by simpa using h1, fun i o z g hi => ?_⟩
  obtain ⟨f, hf, hx⟩ := h2 i _ hi
  split at hx
  ·rename_i j d h3 h4
   cases hx
   exact ⟨f, j, d, by simpa using hf, h3, h4, rfl, rfl, rfl⟩
  ·cases hx
theorem run_isAggD {t : Nat} {u : TypeDesc} (h : P.underlying t = some u) (w : World) : (isAgg t).run P w = .ok (isAggD u) w := by
 unfold isAgg
 rw [Sem.run_bind, run_underlying h w]
 cases u <;> rfl
theorem run_sizeOfI {t : Nat} {i : TypeInfo} (h : P.info? t = some i) (w : World) : (sizeOf t).run P w = .ok i.size w := by simp [sizeOf, typeInfo, h]
theorem run_zeroI {t : Nat} {i : TypeInfo} {z : Value} (h : P.info? t = some i) (hz : i.zero = some z) (w : World) : (zeroValue t).run P w = .ok z w := by simp [zeroValue, typeInfo, h, hz]
def BlkOk (F : Nat → Prop) (base : Nat → Prop) (w : World) (m : Map) (b : Nat) (k : Blk) : Prop :=
 (m b = some none ∧ k.x.vals = [] ∧ k.spare = true) ∨
 ∃ g s cs, m b = some (some ⟨g, s⟩) ∧ ¬ F g ∧ base g ∧ w.heap[g]? = some (.cells cs k.e (0, 0)) ∧ cs.size = s ∧ (k.spare = false → k.x.vals.length = s) ∧ k.x.vals.length ≤ s ∧
  (∀ (i : Nat) (u : LV), k.x.vals[i]? = some u → Rep F w m u (cs.getD i undef))
theorem getD_of {cs : Array Value} {i : Nat} (h : i < cs.size) : cs[i]? = some (cs.getD i undef) := by
 rw [Array.getD_eq_getD_getElem?, Array.getElem?_eq_getElem h]; rfl
theorem getL_of {l : List LV} {i : Nat} (h : i < l.length) : ∃ u, l[i]? = some u := ⟨l[i], List.getElem?_eq_getElem h⟩
theorem lt_of_get {α : Type} {l : List α} {i : Nat} {u : α} (h : l[i]? = some u) : i < l.length := (List.getElem?_eq_some_iff.1 h).1
def Cells (F : Nat → Prop) (w : World) (m : Map) (x : Cont) (g o : Nat) (f : Nat → Value) : Prop :=
 (∀ i, i < x.vals.length → w.cell? ⟨g, o + i, none⟩ = some (f i)) ∧ ∀ (i : Nat) (u : LV), x.vals[i]? = some u → Rep F w m u (f i)
theorem Rep.noMap_up {F : Nat → Prop} {w : World} {u : LV} {v : Value} (h : Rep F w noMap u v) (m : Map) : Rep F w m u v :=
 h.mono (fun _ h => h) (fun _ _ => rfl) m (fun b l hb => by simp [noMap] at hb)
theorem run_loadVar_cells {F : Nat → Prop} {w : World} {m : Map} {x : Cont} {g o : Nat} {f : Nat → Value} (hc : Cells F w m x g o f) {t : Nat} {i : TypeInfo} {d : TypeDesc} (hi : P.info? t = some i) (hd : P.underlying t = some d)
  {off : Nat} {u : LV} {bs : List (Nat × Blk)} (h : loadC x off i.size (isAggD d) = some (u, bs)) : bs = [] ∧ ∃ v, (loadVar t ⟨g, o + off, none⟩).run P w = .ok v w ∧ Rep F w m u v := by
 unfold loadC at h
 split at h
 ·rename_i ha
  rcases hq : x.cut off i.size with _ | y
  ·rw [hq] at h; cases h
  ·rw [hq] at h
   cases h
   obtain ⟨h1, h2⟩ := Cont.cut_vals hq
   refine ⟨rfl, .agg ((List.range i.size).map fun j => f (off + j)).toArray, ?_, ?_⟩
   ·have hl := run_loadCells (P := P) w ⟨g, o + off, none⟩ i.size (fun j => f (off + j)) (fun j hj => by
     rw [add_block_none, Nat.add_assoc]; exact hc.1 (off + j) (by omega))
    simp [loadVar, run_isAggD hd, ha, run_sizeOfI hi, hl]
   ·refine .agg _ _ _ (by simp [h2]; omega) (fun j u hu => ?_)
    rw [h2, List.getElem?_take] at hu
    split at hu
    ·rename_i hj
     rw [List.getElem?_drop] at hu
     have := hc.2 _ _ hu
     simpa [hj] using this
    ·cases hu
 ·rename_i ha
  rcases hq : x.at? off with _ | y
  ·rw [hq] at h; cases h
  ·rw [hq] at h
   cases h
   have h1 := Cont.at_vals hq
   refine ⟨rfl, f off, ?_, hc.2 _ _ h1⟩
   have hcell := hc.1 off (lt_of_get h1)
   simp [loadVar, run_isAggD hd, ha, hcell]
theorem blk_cells {F : Nat → Prop} {base : Nat → Prop} {w : World} {m : Map} {b g s : Nat} {k : Blk} (h : BlkOk F base w m b k) (hm : m b = some (some ⟨g, s⟩)) :
  ∃ cs, w.heap[g]? = some (.cells cs k.e (0, 0)) ∧ cs.size = s ∧ k.x.vals.length ≤ s ∧ Cells F w m k.x g 0 (fun i => cs.getD i undef) := by
 rcases h with ⟨h1, _⟩ | ⟨g', s', cs, h1, _, _, h2, h3, _, h4, h5⟩
 ·rw [hm] at h1; cases h1
 ·rw [hm] at h1
  cases h1
  refine ⟨cs, h2, h3, h4, fun i hi => ?_, h5⟩
  rw [Nat.zero_add, cell_of_row w g i cs k.e (0, 0) h2]
  exact getD_of (by omega)
theorem opLoad_ok {E : Env} (hT : ∀ t i, E.T t = some i → tiOf P t = some i) {F : Nat → Prop} {base : Nat → Prop} {w : World} {m : Map} {β : Nat → Option Blk} (hB : ∀ b k, β b = some k → BlkOk F base w m b k)
  {t : Nat} {u u' : LV} {v : Value} {bs : List (Nat × Blk)} (hr : Rep F w m u v) (h : opLoad E β t u = some (u', bs)) : bs = [] ∧ ∃ v', (Instr.loadAt t v).run P w = .ok v' w ∧ Rep F w m u' v' := by
 unfold opLoad at h
 split at h
 ·rename_i ti hti
  obtain ⟨i, d, hi, hd, _, hs, _, hg, _⟩ := tiOf_spec (hT _ _ hti)
  rw [hs, hg] at h
  split at h
  ·rename_i b off
   split at h
   ·rename_i k hk
    cases hr with
    | ptr _ _ _ g s hm =>
     obtain ⟨cs, _, _, _, hc⟩ := blk_cells (hB _ _ hk) hm
     obtain ⟨h1, v', h2, h3⟩ := run_loadVar_cells hc hi hd h
     rw [Nat.zero_add] at h2
     exact ⟨h1, v', by simpa [Instr.loadAt, Instr.sureAddr] using h2, h3⟩
   ·cases h
  ·rename_i x
   cases hr with
   | imp _ _ g o f hF hc hrr =>
    obtain ⟨h1, v', h2, h3⟩ := run_loadVar_cells (F := F) (m := m) (g := g) (o := o) (f := f) ⟨hc, fun i u hu => (hrr i u hu).noMap_up m⟩ hi hd h
    rw [Nat.add_zero] at h2
    exact ⟨h1, v', by simpa [Instr.loadAt, Instr.sureAddr] using h2, h3⟩
  ·cases h
 ·cases h
end
end Go.Proofs.YtdeigmjbcbjgeaaGreatDoor
namespace Go.Proofs.YtdeigmjbcbjgeaaGreatDoor
open Go.RowKit
section
variable {P : Program}
def RepC (F : Nat → Prop) (w : World) (m : Map) (x : Cont) (cs : Array Value) : Prop :=
 cs.size = x.vals.length ∧ ∀ (i : Nat) (u : LV), x.vals[i]? = some u → Rep F w m u (cs.getD i undef)
theorem foldl_lay (off : Nat) : ∀ (l : List Value) (k : Nat) (cs : Array Value), ((l.zipIdx k).foldl (fun cs p => cs.setIfInBounds (off + p.2) p.1) cs).size = cs.size ∧
  ∀ i, i < cs.size → ((l.zipIdx k).foldl (fun cs p => cs.setIfInBounds (off + p.2) p.1) cs).getD i undef = if off + k ≤ i ∧ i < off + k + l.length then l.getD (i - (off + k)) undef else cs.getD i undef
 | [], k, cs => by
  refine ⟨rfl, fun i hi => ?_⟩
  simp
  intro h1 h2
  omega
 | v :: l, k, cs => by
  obtain ⟨h1, h2⟩ := foldl_lay off l (k + 1) (cs.setIfInBounds (off + k) v)
  simp only [List.zipIdx_cons, List.foldl_cons]
  refine ⟨by rw [h1]; simp, fun i hi => ?_⟩
  rw [h2 i (by simpa using hi)]
  by_cases hk : i = off + k
  ·subst hk
   rw [if_neg (by omega), if_pos (by simp)]
   simp [hi]
  ·by_cases hin : off + (k + 1) ≤ i ∧ i < off + (k + 1) + l.length
   ·rw [if_pos hin, if_pos (by simp; omega)]
    obtain ⟨j, hj⟩ : ∃ j, i - (off + k) = j + 1 := ⟨i - (off + k) - 1, by omega⟩
    rw [hj, show i - (off + (k + 1)) = j by omega]
    simp
   ·rw [if_neg hin, if_neg (by simp; omega)]
    simp only [Array.getD_eq_getD_getElem?]
    rw [Array.getElem?_setIfInBounds_ne (by omega)]
theorem lay_step {F : Nat → Prop} {w : World} {m : Map} {x y z : Cont} {cs vs : Array Value} {off : Nat} (hx : RepC F w m x cs) (hy : RepC F w m y vs) (hz : off + y.vals.length ≤ x.vals.length ∧ z.vals = x.vals.take off ++ y.vals ++ x.vals.drop (off + y.vals.length)) :
  RepC F w m z (vs.zipIdx.foldl (fun cs p => cs.setIfInBounds (off + p.2) p.1) cs) := by
 obtain ⟨hl, hz⟩ := hz
 have e : vs.zipIdx.foldl (fun cs p => cs.setIfInBounds (off + p.2) p.1) cs = (vs.toList.zipIdx 0).foldl (fun cs p => cs.setIfInBounds (off + p.2) p.1) cs := by
  rw [← Array.foldl_toList, Array.toList_zipIdx]
 rw [e]
 obtain ⟨h1, h2⟩ := foldl_lay off vs.toList 0 cs
 have hlen : z.vals.length = x.vals.length := by rw [hz]; simp; omega
 refine ⟨by rw [h1, hx.1, hlen], fun i u hu => ?_⟩
 have hi : i < cs.size := by rw [hx.1, ← hlen]; exact lt_of_get hu
 rw [h2 i hi, Nat.add_zero, Array.length_toList, hy.1]
 rw [hz] at hu
 by_cases hin : off ≤ i ∧ i < off + y.vals.length
 ·rw [if_pos hin]
  rw [List.append_assoc, List.getElem?_append_right (by simp; omega), List.getElem?_append_left (by simp; omega)] at hu
  have hm : min off x.vals.length = off := by omega
  simp only [List.length_take, hm] at hu
  have := hy.2 _ _ hu
  simpa [Array.getD_eq_getD_getElem?, List.getD_eq_getElem?_getD] using this
 ·rw [if_neg hin]
  refine hx.2 i u ?_
  by_cases hlt : i < off
  ·rw [List.append_assoc, List.getElem?_append_left (by simp; omega), List.getElem?_take, if_pos hlt] at hu
   exact hu
  ·rw [List.getElem?_append_right (by simp; omega)] at hu
   have hm : min off x.vals.length = off := by omega
   simp only [List.length_append, List.length_take, hm, List.getElem?_drop] at hu
   rwa [show off + y.vals.length + (i - (off + y.vals.length)) = i by omega] at hu
theorem layAll_ok {F : Nat → Prop} {w : World} {m : Map} {place : Nat → Option (Nat × Nat)} : ∀ (ps : List (Nat × LV)) (qs : List (Nat × Value)) (x z : Cont) (cs : Array Value), RepC F w m x cs →
  ps.length = qs.length → (∀ (i : Nat) (p : Nat × LV) (q : Nat × Value), ps[i]? = some p → qs[i]? = some q → p.1 = q.1 ∧ Rep F w m p.2 q.2) → layAll place x ps = some z →
  ∃ cs', Instr.fill place cs qs = some cs' ∧ RepC F w m z cs'
 | [], [], x, z, cs, hx, _, _, h => by simp [layAll] at h; subst h; exact ⟨cs, rfl, hx⟩
 | [], _ :: _, _, _, _, _, h, _, _ => by simp at h
 | _ :: _, [], _, _, _, _, h, _, _ => by simp at h
 | (i, u) :: ps, (j, v) :: qs, x, z, cs, hx, hlen, hps, h => by
  obtain ⟨hij, huv⟩ := hps 0 (i, u) (j, v) rfl rfl
  simp only at hij huv
  subst hij
  simp only [layAll] at h
  split at h
  ·rename_i off size y hp hy
   split at h
   ·rename_i hys
    split at h
    ·rename_i x' hx'
     obtain ⟨c1, c2, _⟩ := cells_rep huv hy
     have hlay : off + y.vals.length ≤ x.vals.length ∧ x'.vals = x.vals.take off ++ y.vals ++ x.vals.drop (off + y.vals.length) := layOne_vals (x := x) (y := y) (o := off) hx'
     have hst := lay_step (off := off) hx ⟨c1, c2⟩ hlay
     obtain ⟨cs', h1, h2⟩ := layAll_ok ps qs x' z _ hst (by simpa using hlen) (fun n p q hp hq => hps (n + 1) p q (by simpa using hp) (by simpa using hq)) h
     refine ⟨cs', ?_, h2⟩
     have hsz : v.cells.size = size := by rw [c1, ← Cont.len_vals, hys]
     have hle : ¬ (off + v.cells.size > cs.size) := by rw [c1, hx.1]; omega
     unfold Instr.fill
     rw [hp]
     simp only [hsz]
     rw [hsz] at hle
     rw [if_neg (by simpa using hle)]
     exact h1
    ·cases h
   ·cases h
  ·cases h
theorem zero_rep {F : Nat → Prop} {w : World} {m : Map} {zv : Value} {z : Cont} (h : zeroCont zv = some z) : RepC F w m z zv.cells := by
 unfold zeroCont at h
 rcases hq : optMap lvOf zv.cells.toList with _ | l
 ·rw [hq] at h; cases h
 ·rw [hq] at h
  cases h
  obtain ⟨h1, h2⟩ := optMap_spec hq
  refine ⟨by rw [mkCont_vals, h1]; simp, fun i u hu => ?_⟩
  rw [mkCont_vals] at hu
  obtain ⟨v, hv, hl⟩ := h2 i u hu
  have : zv.cells.getD i undef = v := by
   rw [Array.getD_eq_getD_getElem?]
   rw [Array.getElem?_toList] at hv
   rw [hv]; rfl
  rw [this]
  exact lvOf_rep hl
theorem zip_parts {F : Nat → Prop} {w : World} {m : Map} {a : Act} {ps : Array (Nat × Operand)} {xs : List LV} (hxs : xs.length = ps.size) (hr : ∀ (i : Nat) (u : LV) (p : Nat × Operand), xs[i]? = some u → ps[i]? = some p → Rep F w m u (a.eval p.2)) :
  ((ps.toList.map (·.1)).zip xs).length = (ps.map fun (i, x) => (i, a.eval x)).toList.length ∧ ∀ (i : Nat) (p : Nat × LV) (q : Nat × Value), ((ps.toList.map (·.1)).zip xs)[i]? = some p → (ps.map fun (i, x) => (i, a.eval x)).toList[i]? = some q → p.1 = q.1 ∧ Rep F w m p.2 q.2 := by
 refine ⟨by simp [hxs], fun i p q hp hq => ?_⟩
 simp only [Array.toList_map, List.getElem?_map, Array.getElem?_toList] at hq
 rcases hz : ps[i]? with _ | c
 ·rw [hz] at hq; cases hq
 ·rw [hz] at hq
  cases hq
  have := List.getElem?_zip_eq_some.1 hp
  obtain ⟨h1, h2⟩ := this
  simp only [List.getElem?_map, Array.getElem?_toList, hz, Option.map_some, Option.some.injEq] at h1
  exact ⟨h1.symm, hr i _ c h2 hz⟩
theorem opBuild_ok {E : Env} (hT : ∀ t i, E.T t = some i → tiOf P t = some i) {F : Nat → Prop} {w : World} {m : Map} {a : Act} {t : Nat} {ps : Array (Nat × Operand)} {xs : List LV} {u' : LV} {bs : List (Nat × Blk)}
  (hxs : xs.length = ps.size) (hr : ∀ (i : Nat) (u : LV) (p : Nat × Operand), xs[i]? = some u → ps[i]? = some p → Rep F w m u (a.eval p.2))
  (h : opBuild E t (ps.toList.map (·.1)) xs = some (u', bs)) : bs = [] ∧ ∃ v', (Instr.build t (ps.map fun (i, x) => (i, a.eval x))).run P w = .ok v' w ∧ Rep F w m u' v' := by
 obtain ⟨hl, hp⟩ := zip_parts hxs hr
 unfold opBuild at h
 split at h
 ·rename_i fs _ _ _ z hti
  obtain ⟨i, d, hi, hd, htd, hs, _, hg, hz⟩ := tiOf_spec (hT _ _ hti)
  obtain ⟨zv, hz1, hz2⟩ := hz z rfl
  obtain ⟨gs, rfl, hfl, hfs⟩ := td_struct htd
  split at h
  ·rename_i x hx
   cases h
   have hzr : RepC F w m z.loose zv.cells := by
    have := zero_rep (F := F) (w := w) (m := m) hz2
    exact ⟨by rw [Cont.loose_vals]; exact this.1, by rw [Cont.loose_vals]; exact this.2⟩
   obtain ⟨cs, h1, h2⟩ := layAll_ok _ _ _ _ _ hzr hl hp hx
   refine ⟨rfl, .agg cs, ?_, .agg _ _ _ (by rw [Cont.tight_vals]; exact h2.1) (by rw [Cont.tight_vals]; exact h2.2)⟩
   have hplaces : ∃ pl : Array (Nat × Nat), (gs.mapM fun f : Field => (do pure (f.offset, ← sizeOf f.type) : Sem (Nat × Nat))).run P w = .ok pl w ∧ ∀ i, pl[i]? = placeS fs i := by
    have key : ∀ (l : List Field) (k : Nat), (∀ j, l[j]? = gs[k + j]?) → ∀ acc : List (Nat × Nat), ∃ pl : List (Nat × Nat), (l.mapM fun f : Field => Prod.mk f.offset <$> sizeOf f.type).run P w = .ok pl w ∧ pl.length = l.length ∧ ∀ i, i < l.length → pl[i]? = placeS fs (k + i) := by
     intro l
     induction l with
     | nil => exact fun k _ _ => ⟨[], by simp, rfl, fun i hi => by simp at hi⟩
     | cons f l ih =>
      intro k hk acc
      have h0 := hk 0
      simp only [List.getElem?_cons_zero, Nat.add_zero] at h0
      have hlt : k < fs.length := by rw [hfl]; exact (Array.getElem?_eq_some_iff.1 h0.symm).1
      obtain ⟨⟨o, z', g⟩, hq⟩ : ∃ q, fs[k]? = some q := ⟨fs[k], List.getElem?_eq_getElem hlt⟩
      obtain ⟨f', j, d', e1, e2, e3, e4, e5, e6⟩ := hfs k o z' g hq
      rw [← h0] at e1
      cases e1
      obtain ⟨pl, p1, p2, p3⟩ := ih (k + 1) (fun j => by have := hk (j + 1); simp only [List.getElem?_cons_succ] at this; rw [this]; congr 1; omega) []
      refine ⟨(o, z') :: pl, ?_, by simp [p2], fun i hi => ?_⟩
      ·simp [List.mapM_cons, run_sizeOfI e2, p1, e4, e5]
      ·cases i with
       | zero => simp [placeS, hq]
       | succ i =>
        simp only [List.getElem?_cons_succ]
        rw [p3 i (by simpa using hi), show k + 1 + i = k + (i + 1) by omega]
    obtain ⟨pl, p1, p2, p3⟩ := key gs.toList 0 (fun j => by simp) []
    refine ⟨pl.toArray, ?_, fun i => ?_⟩
    ·rw [Array.mapM_eq_mapM_toList]
     simp [p1]
    ·by_cases hi : i < gs.size
     ·simpa using p3 i (by simpa using hi)
     ·have hn : fs[i]? = none := by simp; omega
      have hp2 : pl.length = gs.size := by simpa using p2
      simp [placeS, hn]
      omega
   obtain ⟨pl, p1, p2⟩ := hplaces
   have hfun : (fun i => pl[i]?) = placeS fs := funext p2
   simp only [Instr.build, Sem.run_bind, run_zeroI hi hz1, Result.andThen_ok, run_underlying hd, p1]
   rw [hfun, h1]
   rfl
  ·cases h
 ·rename_i n e s _ _ _ z hti
  obtain ⟨i, d, hi, hd, htd, hs, _, hg, hz⟩ := tiOf_spec (hT _ _ hti)
  obtain ⟨zv, hz1, hz2⟩ := hz z rfl
  obtain ⟨rfl, j, hj, hjs⟩ := td_arr htd
  unfold justA at h
  split at h
  ·rename_i x hx
   cases h
   obtain ⟨cs, h1, h2⟩ := layAll_ok _ _ _ _ _ (zero_rep (F := F) (w := w) (m := m) hz2) hl hp hx
   refine ⟨rfl, .agg cs, ?_, .agg _ _ _ h2.1 h2.2⟩
   simp only [Instr.build, Sem.run_bind, run_zeroI hi hz1, Result.andThen_ok, run_underlying hd, run_sizeOfI hj, hjs, h1]
   rfl
  ·cases h
 ·cases h
theorem flatten_replicate_get {α : Type} (l : List α) : ∀ (n i : Nat), 0 < l.length → i < n * l.length → (List.replicate n l).flatten[i]? = l[i % l.length]?
 | 0, i, _, h => by simp at h
 | n + 1, i, hl, h => by
  rw [List.replicate_succ, List.flatten_cons]
  by_cases hi : i < l.length
  ·rw [List.getElem?_append_left hi, Nat.mod_eq_of_lt hi]
  ·rw [List.getElem?_append_right (by omega), flatten_replicate_get l n _ hl (by rw [Nat.add_mul] at h; omega), Nat.mod_eq_sub_mod (by omega : i ≥ l.length)]
theorem rep_zero {F : Nat → Prop} {w : World} {m : Map} {z : Cont} {zs : Array Value} (h : RepC F w m z zs) (hz : 0 < zs.size) (n : Nat) : RepC F w m (repCont n z) ((Array.range (n * zs.size)).map (zs[· % zs.size]!)) := by
 refine ⟨?_, fun i u hu => ?_⟩
 ·rw [repCont_vals]; simp [h.1]
 ·have hi : i < n * z.vals.length := by have := lt_of_get hu; rw [repCont_vals] at this; simpa using this
  rw [repCont_vals, flatten_replicate_get _ _ _ (by rw [← h.1]; exact hz) hi] at hu
  have := h.2 _ _ hu
  have hm : i % zs.size < zs.size := Nat.mod_lt _ hz
  have e : ((Array.range (n * zs.size)).map (zs[· % zs.size]!)).getD i undef = zs.getD (i % z.vals.length) undef := by
   rw [h.1] at hm ⊢
   have hm' : i % z.vals.length < zs.size := by rw [h.1]; exact hm
   simp [Array.getD_eq_getD_getElem?, hi, hm']
  rw [e]
  exact this
end
end Go.Proofs.YtdeigmjbcbjgeaaGreatDoor
namespace Go.Proofs.YtdeigmjbcbjgeaaGreatDoor
open Go.RowKit
section
variable {P : Program} {E : Env} (hT : ∀ t i, E.T t = some i → tiOf P t = some i) {F : Nat → Prop} {w : World} {m : Map} {bs : List (Nat × Blk)} {u' : LV}
include hT
theorem opAlloc_ok {d t : Nat} (h : opAlloc E d t = some (u', bs)) : ∃ x cs, bs = [(8 * d, ⟨x, t, false⟩)] ∧ u' = .ptr (8 * d) 0 ∧ RepC F w m x cs ∧
  (Instr.alloc t true (.tuple #[])).run P w = .ok (.pointer (some ⟨w.heap.size, 0, none⟩)) (w.alloc (.cells cs t)) := by
 unfold opAlloc at h
 split at h
 ·rename_i _ _ _ _ z hti
  cases h
  obtain ⟨i, d', hi, hd, _, _, _, _, hz⟩ := tiOf_spec (hT _ _ hti)
  obtain ⟨zv, h1, h2⟩ := hz z rfl
  exact ⟨z, zv.cells, rfl, rfl, zero_rep h2, by simp [Instr.alloc, run_zeroI hi h1, newVar, newRow]⟩
 ·cases h
omit hT in
theorem opBox_ok {d t : Nat} {u : LV} {v : Value} (hr : Rep F w m u v) (h : opBox d t u = some (u', bs)) : ∃ x cs, bs = [(8 * d, ⟨x, t, false⟩)] ∧ u' = .ptr (8 * d) 0 ∧ RepC F w m x cs ∧
  (Instr.box t v).run P w = .ok (.pointer (some ⟨w.heap.size, 0, none⟩)) (w.alloc (.cells cs t)) := by
 unfold opBox at h
 split at h
 ·rename_i x hx
  cases h
  obtain ⟨h1, h2, _⟩ := cells_rep hr hx
  exact ⟨x, v.cells, rfl, rfl, ⟨h1, h2⟩, by simp [Instr.box, newVar, newRow]⟩
 ·cases h
theorem opBuildSlice_ok {a : Act} {d t len : Nat} {ps : Array (Nat × Operand)} {xs : List LV} (hxs : xs.length = ps.size)
  (hr : ∀ (i : Nat) (u : LV) (p : Nat × Operand), xs[i]? = some u → ps[i]? = some p → Rep F w m u (a.eval p.2)) (h : opBuildSlice E d t len (ps.toList.map (·.1)) xs = some (u', bs)) :
  ∃ x cs e s, bs = [(8 * d, ⟨x, e, false⟩)] ∧ u' = .sl s (8 * d) 0 len (some len) ∧ len ≤ 9223372036854775807 ∧ RepC F w m x cs ∧
  (Instr.buildSlice t len (ps.map fun (i, x) => (i, a.eval x))).run P w = .ok (.slice (some ⟨w.heap.size, 0, none⟩) len len) (w.alloc (.cells cs e)) := by
 obtain ⟨hl, hp⟩ := zip_parts hxs hr
 unfold opBuildSlice at h
 split at h
 ·rename_i e s _ _ _ _ hti
  obtain ⟨i, d', hi, hd, htd, _, _, _, _⟩ := tiOf_spec (hT _ _ hti)
  obtain ⟨rfl, j, hj, hjs⟩ := td_slice htd
  split at h
  ·rename_i _ _ _ _ z hte
   obtain ⟨i2, d2, hi2, hd2, htd2, hs2, _, _, hz2⟩ := tiOf_spec (hT _ _ hte)
   obtain ⟨zv, h1, h2⟩ := hz2 z rfl
   rw [hj] at hi2
   cases hi2
   split at h
   ·rename_i hc
    obtain ⟨hc1, hc2, hc3⟩ := hc
    split at h
    ·rename_i x hx
     cases h
     have hzr := zero_rep (F := F) (w := w) (m := m) h2
     have hzs : zv.cells.size = s := by rw [hzr.1, ← Cont.len_vals, hc3]
     have hne : ¬ (16777216 < len * s) := by omega
     have hrz := rep_zero hzr (by omega) len
     rw [hzs] at hrz
     obtain ⟨cs, e1, e2⟩ := layAll_ok _ _ _ _ _ hrz hl hp hx
     refine ⟨x, cs, e, s, rfl, rfl, Nat.le_trans (Nat.le_mul_of_pos_right len hc2) (by omega), e2, ?_⟩
     have hr0 : ∀ f : Nat → Value, (Array.range 0).map f = #[] := fun f => by apply Array.ext'; simp
     simp only [Array.toList_map] at e1
     by_cases h0 : len * s = 0
     ·rw [h0, hr0] at e1
      simp [Instr.buildSlice, run_underlying hd, run_sizeOfI hj, hjs, h0, newRow]
      rw [hr0, e1]
      simp
     ·simp [Instr.buildSlice, run_underlying hd, run_sizeOfI hj, hjs, hne, h0, run_zeroI hj h1, newRow, hzs]
      rw [e1]
      simp
    ·cases h
   ·cases h
  ·cases h
 ·cases h
omit hT in
theorem pickInt_rep {u : LV} {v : Value} {n : Int} (hr : Rep F w m u v) (h : pickInt u = some n) : ∃ k, v = .int k n := by
 unfold pickInt at h
 split at h
 ·cases h; cases hr; exact ⟨_, rfl⟩
 ·cases h
theorem opMakeSlice_ok {d t : Nat} {l c : LV} {vl vc : Value} (hl : Rep F w m l vl) (hc : Rep F w m c vc) (h : opMakeSlice E d t l c = some (u', bs)) :
  ∃ x cs e s n k, bs = [(8 * d, ⟨x, e, false⟩)] ∧ u' = .sl s (8 * d) 0 n (some k) ∧ n ≤ k ∧ k ≤ 9223372036854775807 ∧ RepC F w m x cs ∧
  (Instr.makeSlice t vl vc).run P w = .ok (.slice (some ⟨w.heap.size, 0, none⟩) n k) (w.alloc (.cells cs e)) := by
 unfold opMakeSlice at h
 split at h
 ·rename_i l1 c1 e s _ _ _ _ h1 h2 hti
  obtain ⟨kl, rfl⟩ := pickInt_rep hl h1
  obtain ⟨kc, rfl⟩ := pickInt_rep hc h2
  obtain ⟨i, d', hi, hd, htd, _, _, _, _⟩ := tiOf_spec (hT _ _ hti)
  obtain ⟨rfl, j, hj, hjs⟩ := td_slice htd
  split at h
  ·rename_i _ _ _ _ z hte
   obtain ⟨i2, d2, hi2, hd2, htd2, hs2, hb2, _, hz2⟩ := tiOf_spec (hT _ _ hte)
   obtain ⟨zv, h1, h2⟩ := hz2 z rfl
   rw [hj] at hi2
   cases hi2
   split at h
   ·rename_i hc
    obtain ⟨c0, c1', c2, c3, c4, c5⟩ := hc
    cases h
    simp only at hb2
    have hzr := zero_rep (F := F) (w := w) (m := m) h2
    have hzs : zv.cells.size = s := by rw [hzr.1, ← Cont.len_vals, c5]
    have hrz := rep_zero hzr (by omega) c1.toNat
    rw [hzs] at hrz
    refine ⟨_, _, e, s, l1.toNat, c1.toNat, rfl, rfl, by omega, by omega, hrz, ?_⟩
    have w1 : IntKind.i64.wrap l1 = l1 := by simp [IntKind.wrap, IntKind.bits, IntKind.signed]; omega
    have w2 : IntKind.i64.wrap c1 = c1 := by simp [IntKind.wrap, IntKind.bits, IntKind.signed]; omega
    rw [hb2] at c2
    have hbig : ¬ ((j.bytes : Int) * c1 > 281474976710656) := by
     obtain ⟨q, rfl⟩ := Int.eq_ofNat_of_zero_le (show 0 ≤ c1 by omega)
     have : q * j.bytes ≤ 281474976710656 := by simpa using c2
     rw [Nat.mul_comm] at this
     have h3 : ((j.bytes * q : Nat) : Int) ≤ 281474976710656 := by omega
     rw [Int.natCast_mul] at h3
     omega
    have n1 : ¬ c1 < 0 := by omega
    have n2 : ¬ l1 < 0 := by omega
    have n3 : ¬ l1 > c1 := by omega
    have hr0 : ∀ f : Nat → Value, (Array.range 0).map f = #[] := fun f => by apply Array.ext'; simp
    by_cases h0 : c1.toNat * s = 0
    ·rw [h0, hr0]
     simp [Instr.makeSlice, run_underlying hd, asInt, asIntOf, typeInfo, hj, w1, w2, hbig, n1, n2, n3, run_sizeOfI hj, hjs, h0, newRow]
     rw [hr0]
    ·simp [Instr.makeSlice, run_underlying hd, asInt, asIntOf, typeInfo, hj, w1, w2, hbig, n1, n2, n3, run_sizeOfI hj, hjs, h0, run_zeroI hj h1, newRow, hzs]
   ·cases h
  ·cases h
 ·cases h
omit hT in
theorem opNil_ok {u : LV} {v : Value} (hr : Rep F w m u v) (h : opNil u = some (u', bs)) : bs = [] ∧ (∃ a, v = .pointer (some a)) ∧ Rep F w m u' v := by
 unfold opNil at h
 split at h
 ·cases h; cases hr with
  | ptr _ _ _ g s hm => exact ⟨rfl, ⟨_, rfl⟩, .ptr _ _ _ _ _ hm⟩
 ·cases h; cases hr with
  | imp _ _ g o f h1 h2 h3 => exact ⟨rfl, ⟨_, rfl⟩, .imp _ _ _ _ f h1 h2 h3⟩
 ·cases h
omit hT in
theorem just_ok {u : Option LV} (h : just u = some (u', bs)) : u = some u' ∧ bs = [] := by
 unfold just at h
 split at h
 ·cases h; exact ⟨rfl, rfl⟩
 ·cases h
omit hT in
theorem part_ok {x : Cont} {cs : Array Value} (hx : RepC F w m x cs) {t : Nat} {i : TypeInfo} {d : TypeDesc} (hi : P.info? t = some i) (hd : P.underlying t = some d) {off : Nat}
  (h : loadC x off i.size (isAggD d) = some (u', bs)) : bs = [] ∧ ∃ v, (part t cs off).run P w = .ok v w ∧ Rep F w m u' v := by
 unfold loadC at h
 split at h
 ·rename_i ha
  rcases hq : x.cut off i.size with _ | y
  ·rw [hq] at h; cases h
  ·rw [hq] at h
   cases h
   obtain ⟨h1, h2⟩ := Cont.cut_vals hq
   refine ⟨rfl, .agg (cs.extract off (off + i.size)), ?_, ?_⟩
   ·simp [part, run_isAggD hd, ha, run_sizeOfI hi]
   ·refine .agg _ _ _ (by simp [h2, hx.1]; omega) (fun j u hu => ?_)
    rw [h2, List.getElem?_take] at hu
    split at hu
    ·rename_i hj
     rw [List.getElem?_drop] at hu
     have := hx.2 _ _ hu
     have hlt : off + j < cs.size := by rw [hx.1]; omega
     have e : (cs.extract off (off + i.size)).getD j undef = cs.getD (off + j) undef := by
      rw [Array.getD_eq_getD_getElem?, Array.getD_eq_getD_getElem?, Array.getElem?_extract]
      rw [if_pos (by omega)]
     rw [e]; exact this
    ·cases hu
 ·rename_i ha
  rcases hq : x.at? off with _ | y
  ·rw [hq] at h; cases h
  ·rw [hq] at h
   cases h
   have h1 := Cont.at_vals hq
   refine ⟨rfl, cs.getD off undef, ?_, hx.2 _ _ h1⟩
   have hcell := getD_of (cs := cs) (i := off) (by rw [hx.1]; exact lt_of_get h1)
   simp only [part, Sem.run_bind, run_isAggD hd, Result.andThen_ok, ha]
   rw [hcell]
   rfl
omit hT in
theorem imp_cut {x y : Cont} {g o o' n : Nat} {f : Nat → Value} (hF : F g) (hc : ∀ i, i < x.vals.length → w.cell? ⟨g, o + i, none⟩ = some (f i)) (hr : ∀ (i : Nat) (u : LV), x.vals[i]? = some u → Rep F w noMap u (f i))
  (h : x.cut o' n = some y) : Rep F w m (.imp y) (.pointer (some ⟨g, o + o', none⟩)) := by
 obtain ⟨h1, h2⟩ := Cont.cut_vals h
 have hl : y.vals.length = n := by rw [h2]; simp; omega
 refine .imp _ _ _ _ (fun i => f (o' + i)) hF (fun i hi => ?_) (fun i u hu => ?_)
 ·rw [Nat.add_assoc]; exact hc (o' + i) (by omega)
 ·rw [h2, List.getElem?_take] at hu
  split at hu
  ·rw [List.getElem?_drop] at hu; exact hr _ _ hu
  ·cases hu
theorem opFieldAddr_ok {s f : Nat} {u : LV} {v : Value} (hr : Rep F w m u v) (h : opFieldAddr E s f u = some (u', bs)) : bs = [] ∧ ∃ v', (Instr.fieldAt s v f).run P w = .ok v' w ∧ Rep F w m u' v' := by
 unfold opFieldAddr at h
 split at h
 ·rename_i fs _ _ _ _ hti
  obtain ⟨i, d', hi, hd, htd, _, _, _, _⟩ := tiOf_spec (hT _ _ hti)
  obtain ⟨gs, rfl, hfl, hfs⟩ := td_struct htd
  split at h
  ·rename_i o z g hq
   obtain ⟨fd, j, d2, e1, e2, e3, e4, e5, e6⟩ := hfs _ _ _ _ hq
   split at h
   ·cases h
   ·rename_i hz
    have hne : j.size ≠ 0 := by omega
    split at h
    ·rename_i b off
     cases h
     cases hr with
     | ptr _ _ _ gg ss hm =>
      refine ⟨rfl, .pointer (some ⟨gg, off + o, none⟩), ?_, .ptr _ _ _ _ ss hm⟩
      simp [Instr.fieldAt, run_underlying hd, e1, Instr.sureAddr, fieldPlace, run_sizeOfI e2, hne, add_block_none, e4]
    ·rename_i x
     cases hr with
     | imp _ _ gg oo ff hF hc hrr =>
      unfold justP at h
      split at h
      ·rename_i y hy
       cases h
       refine ⟨rfl, .pointer (some ⟨gg, oo + o, none⟩), ?_, imp_cut hF hc hrr hy⟩
       simp [Instr.fieldAt, run_underlying hd, e1, Instr.sureAddr, fieldPlace, run_sizeOfI e2, hne, add_block_none, e4]
      ·cases h
    ·cases h
  ·cases h
 ·cases h
theorem opField_ok {s f : Nat} {u : LV} {v : Value} (hr : Rep F w m u v) (h : opField E s f u = some (u', bs)) : bs = [] ∧ ∃ v', (Instr.field s v f).run P w = .ok v' w ∧ Rep F w m u' v' := by
 unfold opField at h
 split at h
 ·rename_i fs _ _ _ _ hti
  obtain ⟨i, d', hi, hd, htd, _, _, _, _⟩ := tiOf_spec (hT _ _ hti)
  obtain ⟨gs, rfl, hfl, hfs⟩ := td_struct htd
  split at h
  ·rename_i o z g hq
   obtain ⟨fd, j, d2, e1, e2, e3, e4, e5, e6⟩ := hfs _ _ _ _ hq
   split at h
   ·rename_i x
    cases hr with
    | agg _ _ cs hl hrr =>
     subst e5; subst e6; subst e4
     obtain ⟨h1, v', h2, h3⟩ := part_ok (P := P) ⟨hl, hrr⟩ e2 e3 h
     exact ⟨h1, v', by simp [Instr.field, run_underlying hd, e1, asAgg, h2], h3⟩
   ·cases h
  ·cases h
 ·cases h
omit hT in
theorem inI_iff {i : Int} {n : Nat} (h : inI i n = true) : 0 ≤ i ∧ i < (n : Int) := by simpa [inI] using h
theorem opIndexAddr_ok {t : Nat} {u i : LV} {v vi : Value} (hr : Rep F w m u v) (hri : Rep F w m i vi) (h : opIndexAddr E t u i = some (u', bs)) : bs = [] ∧ ∃ v', (Instr.indexAt t v vi).run P w = .ok v' w ∧ Rep F w m u' v' := by
 unfold opIndexAddr at h
 split at h
 ·rename_i n e z _ _ _ _ i1 hti hi1
  obtain ⟨k, rfl⟩ := pickInt_rep hri hi1
  obtain ⟨ii, d', hii, hd, htd, _, _, _, _⟩ := tiOf_spec (hT _ _ hti)
  obtain ⟨rfl, j, hj, hjs⟩ := td_arr htd
  split at h
  ·rename_i hin
   have hin := inI_iff hin
   split at h
   ·rename_i b off
    cases h
    cases hr with
    | ptr _ _ _ gg ss hm =>
     refine ⟨rfl, .pointer (some ⟨gg, off + i1.toNat * z, none⟩), ?_, .ptr _ _ _ _ ss hm⟩
     simp [Instr.indexAt, asIntOf, run_underlying hd, Instr.sureAddr, hin, run_sizeOfI hj, hjs, add_block_none]
   ·rename_i x
    cases hr with
    | imp _ _ gg oo ff hF hc hrr =>
     unfold justP at h
     split at h
     ·rename_i y hy
      cases h
      refine ⟨rfl, .pointer (some ⟨gg, oo + i1.toNat * z, none⟩), ?_, imp_cut hF hc hrr hy⟩
      simp [Instr.indexAt, asIntOf, run_underlying hd, Instr.sureAddr, hin, run_sizeOfI hj, hjs, add_block_none]
     ·cases h
   ·cases h
  ·cases h
 ·rename_i e z _ _ _ _ i1 hti hi1
  obtain ⟨k, rfl⟩ := pickInt_rep hri hi1
  obtain ⟨ii, d', hii, hd, htd, _, _, _, _⟩ := tiOf_spec (hT _ _ hti)
  obtain ⟨rfl, j, hj, hjs⟩ := td_slice htd
  split at h
  ·rename_i z' b off n c
   split at h
   ·rename_i hzi
    obtain ⟨rfl, hin⟩ := hzi
    have hin := inI_iff hin
    cases h
    cases hr with
    | sl _ _ _ _ _ _ gg ss a c' hm ha hn hk hs hx =>
     have ha : a = ⟨gg, off, none⟩ := by
      rcases ha with h | ⟨h, _⟩
      ·exact h
      ·omega
     subst ha
     refine ⟨rfl, .pointer (some ⟨gg, off + i1.toNat * z, none⟩), ?_, .ptr _ _ _ _ ss hm⟩
     simp [Instr.indexAt, asIntOf, run_underlying hd, hin, run_sizeOfI hj, hjs, add_block_none]
    | slNil => simp at hin; omega
   ·cases h
  ·rename_i z' n c x
   split at h
   ·rename_i hzi
    obtain ⟨rfl, hin, hz0⟩ := hzi
    have hin := inI_iff hin
    cases hr with
    | im _ _ _ _ _ a c' f hl hn hk ha hm hrr =>
     unfold justP at h
     split at h
     ·rename_i y hy
      cases h
      have hx : x.vals ≠ [] := by
       intro h0
       rw [h0] at hl
       have : n * z = 0 := by simpa using hl.symm
       rcases Nat.mul_eq_zero.1 this with h | h <;> omega
      obtain ⟨g, o, rfl, hF, hc⟩ := hm.resolve_left hx
      refine ⟨rfl, .pointer (some ⟨g, o + i1.toNat * z, none⟩), ?_, imp_cut hF hc hrr hy⟩
      simp [Instr.indexAt, asIntOf, run_underlying hd, hin, run_sizeOfI hj, hjs, add_block_none]
     ·cases h
   ·cases h
  ·cases h
 ·cases h
theorem opIndex_ok {t : Nat} {u i : LV} {v vi : Value} (hr : Rep F w m u v) (hri : Rep F w m i vi) (h : opIndex E t u i = some (u', bs)) : bs = [] ∧ ∃ v', (Instr.index t v vi).run P w = .ok v' w ∧ Rep F w m u' v' := by
 unfold opIndex at h
 split at h
 ·rename_i n e z _ _ _ _ i1 hti hi1
  obtain ⟨k, rfl⟩ := pickInt_rep hri hi1
  obtain ⟨ii, d', hii, hd, htd, _, _, _, _⟩ := tiOf_spec (hT _ _ hti)
  obtain ⟨rfl, j, hj, hjs⟩ := td_arr htd
  split at h
  ·rename_i hin
   have hin := inI_iff hin
   split at h
   ·rename_i ti x hte
    obtain ⟨j2, d2, hj2, hd2, _, _, _, hg2, _⟩ := tiOf_spec (hT _ _ hte)
    rw [hj] at hj2
    cases hj2
    cases hr with
    | agg _ _ cs hl hrr =>
     subst hjs
     rw [hg2] at h
     obtain ⟨h1, v', h2, h3⟩ := part_ok (P := P) ⟨hl, hrr⟩ hj hd2 h
     exact ⟨h1, v', by simp [Instr.index, asIntOf, run_underlying hd, hin, run_sizeOfI hj, h2], h3⟩
   ·cases h
  ·cases h
 ·cases h
theorem opToArr_ok {t : Nat} {u : LV} {v : Value} (hr : Rep F w m u v) (h : opToArr E t u = some (u', bs)) : bs = [] ∧ ∃ v', (Instr.arrayAt t v).run P w = .ok v' w ∧ Rep F w m u' v' := by
 unfold opToArr at h
 split at h
 case h_2 => cases h
 rename_i n e z _ _ _ _ hti
 obtain ⟨i, d, hi, hd, htd, _⟩ := tiOf_spec (hT _ _ hti)
 obtain ⟨rfl, _⟩ := td_arr htd
 have hrun : ∀ (ad : Option Addr) (len c : Nat), n ≤ len → (Instr.arrayAt t (.slice ad len c)).run P w = .ok (.pointer ad) w := by
  intro ad len c hl
  have hl' : ¬ len < n := by omega
  simp only [Instr.arrayAt, Sem.run_bind, run_underlying hd, Result.andThen_ok, if_neg hl']
  rfl
 split at h
 ·rename_i z' b off mm c
  split at h
  ·rename_i hc
   obtain ⟨rfl, hm, h0⟩ := hc
   cases h
   cases hr with
   | sl _ _ _ off _ _ g s ad c' hmm ha hn hk hs hx =>
    have ha : ad = ⟨g, off, none⟩ := by rcases ha with h | ⟨h, _⟩; exact h; omega
    subst ha
    exact ⟨rfl, _, hrun _ _ _ hm, .ptr _ _ _ g s hmm⟩
   | slNil => omega
  ·cases h
 ·split at h
  ·rename_i hc
   obtain ⟨rfl, hm, h0, hz⟩ := hc
   cases h
   cases hr with
   | im _ _ _ _ x ad c' f hl hn hk ha hmm hrr =>
    rcases hmm with hmm | ⟨g, o, rfl, hF, hcell⟩
    ·rw [hmm] at hl
     simp at hl
     have := Nat.mul_pos (show 0 < _ from Nat.lt_of_lt_of_le h0 hm) hz
     omega
    ·exact ⟨rfl, _, hrun _ _ _ hm, .imp _ _ g o f hF hcell hrr⟩
  ·cases h
 ·cases h
omit hT in
theorem opExtract_ok {i : Nat} {u : LV} {v : Value} (hr : Rep F w m u v) (h : opExtract i u = some (u', bs)) : bs = [] ∧ ∃ v', (Instr.extract v i).run P w = .ok v' w ∧ Rep F w m u' v' := by
 unfold opExtract at h
 split at h
 ·rename_i l
  obtain ⟨h1, rfl⟩ := just_ok h
  cases hr with
  | tup _ _ vs hl hrr =>
   have := getD_of (cs := vs) (i := i) (by rw [hl]; exact lt_of_get h1)
   exact ⟨rfl, _, by simp only [Instr.extract, this]; rfl, hrr _ _ h1⟩
 ·cases h
end
end Go.Proofs.YtdeigmjbcbjgeaaGreatDoor
namespace Go.Proofs.YtdeigmjbcbjgeaaGreatDoor
open Go.RowKit
section
variable {P : Program} {E : Env} (hT : ∀ t i, E.T t = some i → tiOf P t = some i) {F : Nat → Prop} {w : World} {m : Map} {bs : List (Nat × Blk)} {u' : LV}
theorem run_bounds {is : List Int} {vl vh vm : Option Value} {n c l h mx : Nat} (b : Bool) (hb : bounds is vl.isSome vh.isSome vm.isSome n c = some (l, h, mx))
  (hl : ∀ v, vl = some v → ∃ k, v = .int k (is.getD 0 0))
  (hh : ∀ v, vh = some v → ∃ k, v = .int k ((if vl.isSome then is.drop 1 else is).getD 0 0))
  (hm : ∀ v, vm = some v → ∃ k, v = .int k ((if vl.isSome then is.drop 1 else is).getD 1 0)) :
  (Instr.sliceBounds b n c vl vh vm).run P w = .ok (l, h, mx) w ∧ l ≤ h ∧ h ≤ mx ∧ mx ≤ c ∧ (vm = none → mx = c) := by
 unfold bounds at hb
 split at hb
 ·rename_i hc
  obtain ⟨c1, c2, c3, c4, c5⟩ := hc
  cases hb
  simp only [lowI, highI, maxI, restI] at *
  rcases vm with _ | vm
  ·rcases vh with _ | vh
   ·rcases vl with _ | vl
    ·simp at c1 c2 c3 c4 ⊢
     simp [Instr.sliceBounds]
     omega
    ·obtain ⟨k1, rfl⟩ := hl _ rfl
     simp only [Option.isSome_some, Option.isSome_none, if_true, if_false, Bool.false_eq_true] at c1 c2 c3 c4 ⊢
     refine ⟨?_, by omega, by omega, by omega, fun _ => by omega⟩
     simp only [Instr.sliceBounds, Instr.sliceBound, asIntOf, Sem.run_bind, Sem.run_pure, Result.andThen_ok]
     rw [if_pos (by omega)]
     simp
   ·obtain ⟨k2, rfl⟩ := hh _ rfl
    rcases vl with _ | vl
    ·simp only [Option.isSome_some, Option.isSome_none, if_true, if_false, Bool.false_eq_true] at c1 c2 c3 c4 ⊢
     refine ⟨?_, by omega, by omega, by omega, fun _ => by omega⟩
     simp only [Instr.sliceBounds, Instr.sliceBound, asIntOf, Sem.run_bind, Sem.run_pure, Result.andThen_ok]
     rw [if_pos (by omega)]
     simp
    ·obtain ⟨k1, rfl⟩ := hl _ rfl
     simp only [Option.isSome_some, Option.isSome_none, if_true, if_false, Bool.false_eq_true] at c1 c2 c3 c4 ⊢
     refine ⟨?_, by omega, by omega, by omega, fun _ => by omega⟩
     simp only [Instr.sliceBounds, Instr.sliceBound, asIntOf, Sem.run_bind, Sem.run_pure, Result.andThen_ok]
     rw [if_pos (by omega)]
     simp only [Sem.run_pure, Result.andThen_ok]
     rw [if_pos (by omega)]
     simp
  ·obtain ⟨k3, rfl⟩ := hm _ rfl
   rcases vh with _ | vh
   ·simp at c5
   ·obtain ⟨k2, rfl⟩ := hh _ rfl
    rcases vl with _ | vl
    ·simp only [Option.isSome_some, Option.isSome_none, if_true, if_false, Bool.false_eq_true] at c1 c2 c3 c4 ⊢
     refine ⟨?_, by omega, by omega, by omega, fun h => by cases h⟩
     simp only [Instr.sliceBounds, Instr.sliceBound, asIntOf, Sem.run_bind, Sem.run_pure, Result.andThen_ok]
     rw [if_pos (by omega)]
     simp only [Sem.run_pure, Result.andThen_ok]
     rw [if_pos (by omega)]
     simp
    ·obtain ⟨k1, rfl⟩ := hl _ rfl
     simp only [Option.isSome_some, if_true] at c1 c2 c3 c4 ⊢
     refine ⟨?_, by omega, by omega, by omega, fun h => by cases h⟩
     simp only [Instr.sliceBounds, Instr.sliceBound, asIntOf, Sem.run_bind, Sem.run_pure, Result.andThen_ok]
     rw [if_pos (by omega)]
     simp only [Sem.run_pure, Result.andThen_ok]
     rw [if_pos (by omega)]
     simp only [Sem.run_pure, Result.andThen_ok]
     rw [if_pos (by omega)]
     simp
 ·cases hb
include hT
theorem opSlice_ok {a : Act} {t : Nat} {lo hi mx : Option Operand} {u : LV} {v : Value} {is : List LV} (hr : Rep F w m u v)
  (hlen : is.length = (lo.toList ++ hi.toList ++ mx.toList).length) (hi_ : ∀ (i : Nat) (u : LV) (p : Operand), is[i]? = some u → (lo.toList ++ hi.toList ++ mx.toList)[i]? = some p → Rep F w m u (a.eval p))
  (h : opSlice E t lo.isSome hi.isSome mx.isSome u is = some (u', bs)) : bs = [] ∧ ∃ v', (Instr.sliceAt t v (lo.map a.eval) (hi.map a.eval) (mx.map a.eval)).run P w = .ok v' w ∧ Rep F w m u' v' := by
 unfold opSlice at h
 rcases hq : optMap pickInt is with _ | js
 ·rw [hq] at h
  split at h <;> first | cases h | (rename_i h1; cases h1)
 rw [hq] at h
 obtain ⟨q1, q2⟩ := optMap_spec hq
 have hint : ∀ (i : Nat) (p : Operand), (lo.toList ++ hi.toList ++ mx.toList)[i]? = some p → ∃ k, a.eval p = .int k (js.getD i 0) := by
  intro i p hp
  have hlt : i < js.length := by rw [q1, hlen]; exact lt_of_get hp
  have hj : js[i]? = some (js.getD i 0) := by rw [List.getD_eq_getElem?_getD, List.getElem?_eq_getElem hlt]; rfl
  obtain ⟨u, hu, hpu⟩ := q2 i _ hj
  exact pickInt_rep (hi_ i u p hu hp) hpu
 have hl : ∀ v, lo.map a.eval = some v → ∃ k, v = .int k (js.getD 0 0) := by
  intro v hv
  rcases lo with _ | lo
  ·cases hv
  ·cases hv; exact hint 0 lo (by simp)
 have hh : ∀ v, hi.map a.eval = some v → ∃ k, v = .int k ((if (lo.map a.eval).isSome then js.drop 1 else js).getD 0 0) := by
  intro v hv
  rcases hi with _ | hi
  ·cases hv
  ·cases hv
   rcases lo with _ | lo
   ·simpa using hint 0 hi (by simp)
   ·have := hint 1 hi (by simp)
    simpa [List.getD_eq_getElem?_getD] using this
 have hm : hi.isSome → ∀ v, mx.map a.eval = some v → ∃ k, v = .int k ((if (lo.map a.eval).isSome then js.drop 1 else js).getD 1 0) := by
  intro hs v hv
  rcases mx with _ | mx
  ·cases hv
  ·cases hv
   rcases hi with _ | hi
   ·cases hs
   ·rcases lo with _ | lo
    ·simpa using hint 1 mx (by simp)
    ·have := hint 2 mx (by simp)
     simpa [List.getD_eq_getElem?_getD] using this
 have key : ∀ {n c l hh_ mm : Nat} (b : Bool), bounds js lo.isSome hi.isSome mx.isSome n c = some (l, hh_, mm) →
   (Instr.sliceBounds b n c (lo.map a.eval) (hi.map a.eval) (mx.map a.eval)).run P w = .ok (l, hh_, mm) w ∧ l ≤ hh_ ∧ hh_ ≤ mm ∧ mm ≤ c ∧ (mx = none → mm = c) := by
  intro n c l hh_ mm b hb
  have hs : mx.isSome → hi.isSome := by
   unfold bounds at hb
   split at hb
   ·rename_i hc; exact hc.2.2.2.2
   ·cases hb
  have := run_bounds (P := P) (w := w) (vl := lo.map a.eval) (vh := hi.map a.eval) (vm := mx.map a.eval) b (by simpa using hb) hl hh (fun v hv => hm (hs (by rcases mx with _ | mx; cases hv; rfl)) v hv)
  refine ⟨this.1, this.2.1, this.2.2.1, this.2.2.2.1, fun h0 => this.2.2.2.2 (by rw [h0]; rfl)⟩
 clear hl hh hm hint q1 q2 hq hlen hi_
 split at h
 ·rename_i n e z _ _ _ _ js' hti hjs
  cases hjs
  obtain ⟨ii, d', hii, hd, htd, _, _, _, _⟩ := tiOf_spec (hT _ _ hti)
  obtain ⟨rfl, j, hj, hjs⟩ := td_arr htd
  split at h
  ·rename_i l hh_ mm b off hb
   split at h
   case isFalse => cases h
   rename_i hnx
   cases h
   obtain ⟨k1, k2, k3, k4, _⟩ := key false hb
   cases hr with
   | ptr _ _ _ g s hm =>
    refine ⟨rfl, _, by simp [Instr.sliceAt, run_underlying hd, Instr.sureAddr, k1, run_sizeOfI hj, hjs]; rfl, ?_⟩
    refine .sl _ _ _ _ _ _ g s _ _ hm ?_ (by omega) (fun k hk => by cases hk; rfl) (fun hc => by cases hc) (by omega)
    split
    ·by_cases hz : l * z = 0
     ·left; rw [hz]; rfl
     ·right; omega
    ·left; rw [add_block_none]
  ·cases h
 ·rename_i e z _ _ _ _ js' hti hjs
  cases hjs
  obtain ⟨ii, d', hii, hd, htd, _, _, _, _⟩ := tiOf_spec (hT _ _ hti)
  obtain ⟨rfl, j, hj, hjs⟩ := td_slice htd
  split at h
  ·rename_i z' b off n c
   split at h
   ·rename_i hz
    subst hz
    split at h
    ·rename_i l hh_ mm hb
     cases h
     cases hr with
     | sl _ _ _ _ _ _ g s ad c' hm ha hn hk hs hx =>
      have hcap : c.getD n ≤ c' := by
       rcases c with _ | c
       ·exact hn
       ·exact Nat.le_of_eq (hk c rfl).symm
      have hb' : ∃ mm', bounds js lo.isSome hi.isSome mx.isSome n c' = some (l, hh_, mm') ∧ (mx.isSome ∨ c.isSome → mm' = mm) ∧ mm ≤ mm' ∧ (mx = none → mm' = c') := by
       obtain ⟨_, b1, b2, b3, b4⟩ := key true hb
       unfold bounds at hb ⊢
       split at hb
       ·rename_i hcond
        obtain ⟨d1, d2, d3, d4, d5⟩ := hcond
        simp only [Option.some.injEq, Prod.mk.injEq] at hb
        obtain ⟨e1, e2, e3⟩ := hb
        rcases mx with _ | mx
        ·simp only [maxI, Option.isSome_none, Bool.false_eq_true, if_false] at d3 d4 e3 ⊢
         rw [if_pos ⟨d1, d2, by omega, by omega, by simp⟩]
         refine ⟨c', by simp [e1, e2], fun hcs => ?_, by omega, fun _ => rfl⟩
         rcases c with _ | c
         ·simp at hcs
         ·have := hk c rfl; simp at e3; omega
        ·simp only [maxI, Option.isSome_some, if_true] at d3 d4 e3 ⊢
         rw [if_pos ⟨d1, d2, d3, by omega, fun _ => d5 rfl⟩]
         exact ⟨mm, by rw [e1, e2, e3], fun _ => rfl, Nat.le_refl _, fun h => by cases h⟩
       ·cases hb
      obtain ⟨mm', hb1, hb2, hb3, hb4⟩ := hb'
      obtain ⟨k1, k2, k3, k4, k5⟩ := key true hb1
      refine ⟨rfl, .slice (some (if mm' = l then ad else ad.add (l * z))) (hh_ - l) (mm' - l), ?_, ?_⟩
      ·have : (if mm' = l then some ad else Option.map (fun x : Addr => x.add (l * z)) (some ad)) = some (if mm' = l then ad else ad.add (l * z)) := by split <;> rfl
       simp only [Instr.sliceAt, Sem.run_bind, run_underlying hd, Result.andThen_ok, Instr.slice, k1, run_sizeOfI hj, hjs]
       rw [this]; rfl
      ·refine .sl _ _ _ _ _ _ g s _ _ hm ?_ (by omega) (fun k hk' => ?_) (fun hc => ?_) (by omega)
       ·rcases ha with rfl | ⟨rfl, h0, rfl⟩
        ·split
         ·by_cases hz : l * z = 0
          ·left; rw [hz]; rfl
          ·right; omega
         ·left; rw [add_block_none]
        ·right; omega
       ·split at hk'
        ·rename_i hcond
         cases hk'
         rw [hb2 (by simpa using hcond)]
        ·cases hk'
       ·have hmx : mx = none ∧ c = none := by
         rcases mx with _ | mx <;> rcases c with _ | c <;> simp at hc ⊢
        have h1 := hs hmx.2
        rw [hb4 hmx.1, Nat.add_assoc, ← Nat.add_mul]
        rw [show l + (c' - l) = c' by omega]
        exact h1
     | slNil _ _ _ _ hm hk =>
      have hcap : c.getD 0 = 0 := by
       rcases c with _ | c
       ·rfl
       ·exact hk c rfl
      rw [hcap] at hb
      obtain ⟨k1, k2, k3, k4, k5⟩ := key true hb
      have e1 : l = 0 := by omega
      have e2 : hh_ = 0 := by omega
      have e3 : mm = 0 := by omega
      subst e1; subst e2; subst e3
      refine ⟨rfl, .slice none 0 0, ?_, ?_⟩
      ·simp only [Instr.sliceAt, Sem.run_bind, run_underlying hd, Result.andThen_ok, Instr.slice, k1, run_sizeOfI hj]
       rfl
      ·have := Rep.slNil (F := F) (w := w) m z b (if mx.isSome || c.isSome then some (0 - 0) else none) hm (fun k hk' => by split at hk' <;> cases hk'; rfl)
       simpa using this
    ·cases h
   ·cases h
  ·rename_i z' n c x
   split at h
   ·rename_i hz
    subst hz
    split at h
    ·rename_i l hh_ mm hb
     split at h
     ·rename_i hn'
      split at h
      ·rename_i y hy
       cases h
       cases hr with
       | im _ _ _ _ _ ad c' f hl' hn hk ha hm hrr =>
        have hcap : c.getD n ≤ c' := by
         rcases c with _ | c
         ·exact hn
         ·exact Nat.le_of_eq (hk c rfl).symm
        have hb' : ∃ mm', bounds js lo.isSome hi.isSome mx.isSome n c' = some (l, hh_, mm') ∧ (mx.isSome ∨ c.isSome → mm' = mm) ∧ mm ≤ mm' := by
         unfold bounds at hb ⊢
         split at hb
         ·rename_i hcond
          obtain ⟨d1, d2, d3, d4, d5⟩ := hcond
          simp only [Option.some.injEq, Prod.mk.injEq] at hb
          obtain ⟨e1, e2, e3⟩ := hb
          rcases mx with _ | mx
          ·simp only [maxI, Option.isSome_none, Bool.false_eq_true, if_false] at d3 d4 e3 ⊢
           rw [if_pos ⟨d1, d2, by omega, by omega, by simp⟩]
           refine ⟨c', by simp [e1, e2], fun hcs => ?_, by omega⟩
           rcases c with _ | c
           ·simp at hcs
           ·have := hk c rfl; simp at e3; omega
          ·simp only [maxI, Option.isSome_some, if_true] at d3 d4 e3 ⊢
           rw [if_pos ⟨d1, d2, d3, by omega, fun _ => d5 rfl⟩]
           exact ⟨mm, by rw [e1, e2, e3], fun _ => rfl, Nat.le_refl _⟩
         ·cases hb
        obtain ⟨mm', hb1, hb2, hb3⟩ := hb'
        obtain ⟨k1, k2, k3, k4, k5⟩ := key true hb1
        obtain ⟨y1, y2⟩ := Cont.cut_vals hy
        have ylen : y.vals.length = (hh_ - l) * z := by rw [y2]; simp; omega
        refine ⟨rfl, .slice (if mm' = l then ad else ad.map (·.add (l * z))) (hh_ - l) (mm' - l), ?_, ?_⟩
        ·simp only [Instr.sliceAt, Sem.run_bind, run_underlying hd, Result.andThen_ok, Instr.slice, k1, run_sizeOfI hj, hjs]
         rfl
        ·refine .im _ _ _ _ _ _ _ (fun i => f (l * z + i)) ylen (by omega) (fun k hk' => ?_) (fun h0 => ?_) ?_ (fun i u hu => ?_)
         ·split at hk'
          ·rename_i hcond
           cases hk'
           rw [hb2 (by simpa using hcond)]
          ·cases hk'
         ·have : ad = none := by
           split at h0
           ·exact h0
           ·simpa using h0
          have := ha this
          omega
         ·by_cases hv : y.vals = []
          ·exact .inl hv
          ·right
           have hne : x.vals ≠ [] := fun h0 => hv (by rw [y2, h0]; simp)
           obtain ⟨g, o, rfl, hF, hc⟩ := hm.resolve_left hne
           have hpos : 0 < (hh_ - l) * z := by
            rw [← ylen]; exact List.length_pos_iff.2 hv
           have hlt : 0 < hh_ - l := Nat.pos_of_mul_pos_right hpos
           refine ⟨g, o + l * z, ?_, hF, fun i hi => ?_⟩
           ·rw [if_neg (by omega)]
            simp [add_block_none]
           ·rw [Nat.add_assoc]; exact hc (l * z + i) (by omega)
         ·rw [y2, List.getElem?_take] at hu
          split at hu
          ·rw [List.getElem?_drop] at hu; exact hrr _ _ hu
          ·cases hu
      ·cases h
     ·cases h
    ·cases h
   ·cases h
  ·split at h
   ·rename_i r hb
    obtain ⟨l, hh_, mm⟩ := r
    cases h
    cases hr with
    | v _ _ hp =>
     obtain ⟨k1, k2, k3, k4, k5⟩ := key true hb
     have e1 : l = 0 := by omega
     have e2 : hh_ = 0 := by omega
     have e3 : mm = 0 := by omega
     subst e1; subst e2; subst e3
     refine ⟨rfl, .slice none 0 0, ?_, .v _ _ rfl⟩
     simp only [Instr.sliceAt, Sem.run_bind, run_underlying hd, Result.andThen_ok, Instr.slice, k1, run_sizeOfI hj]
     rfl
   ·cases h
  ·cases h
 ·cases h
theorem opLen_ok {t ty : Nat} {u : LV} {v : Value} (hr : Rep F w m u v) (h : opLen E t u = some (u', bs)) : bs = [] ∧ ∃ v', (Builtin.len_ #[t] ty #[v]).run P w = .ok v' w ∧ Rep F w m u' v' := by
 unfold opLen at h
 split at h
 ·rename_i e z _ _ _ _ hti
  obtain ⟨ii, d', hii, hd, htd, _, _, _, _⟩ := tiOf_spec (hT _ _ hti)
  obtain ⟨rfl, j, hj, hjs⟩ := td_slice htd
  split at h
  ·cases h; cases hr
   exact ⟨rfl, _, by simp [Builtin.len_, run_underlying hd]; rfl, .v _ _ rfl⟩
  ·cases h
   cases hr <;> exact ⟨rfl, _, by simp [Builtin.len_, run_underlying hd]; rfl, .v _ _ rfl⟩
  ·cases h; cases hr
   exact ⟨rfl, _, by simp [Builtin.len_, run_underlying hd]; rfl, .v _ _ rfl⟩
  ·cases h
 ·rename_i _ _ _ _ hti
  obtain ⟨ii, d', hii, hd, htd, _, _, _, _⟩ := tiOf_spec (hT _ _ hti)
  have := td_str htd
  subst this
  split at h
  ·cases h; cases hr
   exact ⟨rfl, _, by simp [Builtin.len_, run_underlying hd, strOfNums_size]; rfl, .v _ _ rfl⟩
  ·cases h
 ·cases h
end
end Go.Proofs.YtdeigmjbcbjgeaaGreatDoor
