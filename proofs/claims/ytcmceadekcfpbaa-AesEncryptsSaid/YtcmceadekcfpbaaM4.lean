/-
  The machine of plain values: the operations that write nothing do what it says.
-/
import Derived.Test.YtcmceadekcfpbaaM3
namespace Go.Proofs.Ytcmceadekcfpbaa
open Go.RowKit

section
variable {P : Program}

theorem tiOf_spec {t : Nat} {ti : TI} (h : tiOf P t = some ti) : ∃ i u, P.info? t = some i ∧ P.underlying t = some u ∧ tdOf P u = some ti.d ∧ ti.size = i.size ∧ ti.bytes = i.bytes ∧ ti.agg = isAggD u ∧
    (∀ z, ti.zero = some z → ∃ zv, i.zero = some zv ∧ zeroCont zv = some z) := by
  unfold tiOf at h
  split at h
  · rename_i i u hi hu
    rcases hd : tdOf P u with _ | d
    · rw [hd] at h; cases h
    · rw [hd] at h
      cases h
      refine ⟨i, u, hi, hu, hd, rfl, rfl, rfl, fun z hz => ?_⟩
      simp only at hz
      rcases hq : i.zero with _ | zv
      · rw [hq] at hz; cases hz
      · rw [hq] at hz; exact ⟨zv, rfl, hz⟩
  · cases h
theorem td_slice {u : TypeDesc} {e z : Nat} (h : tdOf P u = some (.slice e z)) : u = .slice e ∧ ∃ i, P.info? e = some i ∧ i.size = z := by
  cases u <;> simp [tdOf] at h
  · obtain ⟨i, hi, h1, h2⟩ := h; subst h1; exact ⟨rfl, i, hi, h2⟩
theorem td_arr {u : TypeDesc} {n e z : Nat} (h : tdOf P u = some (.arr n e z)) : u = .array n e ∧ ∃ i, P.info? e = some i ∧ i.size = z := by
  cases u <;> simp [tdOf] at h
  · obtain ⟨i, hi, h0, h1, h2⟩ := h; subst h0; subst h1; exact ⟨rfl, i, hi, h2⟩
theorem td_int {u : TypeDesc} {k : IntKind} (h : tdOf P u = some (.int k)) : u = .int k := by
  cases u <;> simp [tdOf] at h
  · subst h; rfl
theorem td_str {u : TypeDesc} (h : tdOf P u = some .str) : u = .string := by
  cases u <;> simp [tdOf] at h
  · rfl
theorem td_struct {u : TypeDesc} {fs : List (Nat × Nat × Bool)} (h : tdOf P u = some (.struct fs)) : ∃ gs, u = .struct gs ∧ fs.length = gs.size ∧ ∀ (i o z : Nat) (g : Bool), fs[i]? = some (o, z, g) →
    ∃ f j d, gs[i]? = some f ∧ P.info? f.type = some j ∧ P.underlying f.type = some d ∧ f.offset = o ∧ j.size = z ∧ isAggD d = g := by
  cases u <;> simp [tdOf] at h
  · rename_i gs
    obtain ⟨h1, h2⟩ := optMap_spec h
    refine ⟨gs, rfl, by simpa using h1, fun i o z g hi => ?_⟩
    obtain ⟨f, hf, hx⟩ := h2 i _ hi
    split at hx
    · rename_i j d h3 h4
      cases hx
      exact ⟨f, j, d, by simpa using hf, h3, h4, rfl, rfl, rfl⟩
    · cases hx

theorem run_isAggD {t : Nat} {u : TypeDesc} (h : P.underlying t = some u) (w : World) : (isAgg t).run P w = .ok (isAggD u) w := by
  unfold isAgg
  rw [Sem.run_bind, run_underlying h w]
  cases u <;> rfl
theorem run_sizeOfI {t : Nat} {i : TypeInfo} (h : P.info? t = some i) (w : World) : (sizeOf t).run P w = .ok i.size w := by simp [sizeOf, typeInfo, h]
theorem run_zeroI {t : Nat} {i : TypeInfo} {z : Value} (h : P.info? t = some i) (hz : i.zero = some z) (w : World) : (zeroValue t).run P w = .ok z w := by simp [zeroValue, typeInfo, h, hz]

/-- A block of the call's own. -/
def BlkOk (F : Nat → Prop) (base : Nat) (w : World) (m : Map) (b : Nat) (k : Blk) : Prop :=
  (m b = some none ∧ k.x.vals = [] ∧ k.spare = true) ∨
  ∃ g s cs, m b = some (some ⟨g, s⟩) ∧ ¬ F g ∧ base ≤ g ∧ w.heap[g]? = some (.cells cs k.e (0, 0)) ∧ cs.size = s ∧ (k.spare = false → k.x.vals.length = s) ∧ k.x.vals.length ≤ s ∧
    (∀ (i : Nat) (u : LV), k.x.vals[i]? = some u → Rep F w m u (cs.getD i undef))

theorem getD_of {cs : Array Value} {i : Nat} (h : i < cs.size) : cs[i]? = some (cs.getD i undef) := by
  rw [Array.getD_eq_getD_getElem?, Array.getElem?_eq_getElem h]; rfl
theorem getL_of {l : List LV} {i : Nat} (h : i < l.length) : ∃ u, l[i]? = some u := ⟨l[i], List.getElem?_eq_getElem h⟩
theorem lt_of_get {α : Type} {l : List α} {i : Nat} {u : α} (h : l[i]? = some u) : i < l.length := (List.getElem?_eq_some_iff.1 h).1

/-- Cells that can be read: at o of block g the values f, for which x stands. -/
def Cells (F : Nat → Prop) (w : World) (m : Map) (x : Cont) (g o : Nat) (f : Nat → Value) : Prop :=
  (∀ i, i < x.vals.length → w.cell? ⟨g, o + i, none⟩ = some (f i)) ∧ ∀ (i : Nat) (u : LV), x.vals[i]? = some u → Rep F w m u (f i)

theorem Rep.noMap_up {F : Nat → Prop} {w : World} {u : LV} {v : Value} (h : Rep F w noMap u v) (m : Map) : Rep F w m u v :=
  h.mono (fun _ h => h) (fun _ _ => rfl) m (fun b l hb => by simp [noMap] at hb)

theorem run_loadVar_cells {F : Nat → Prop} {w : World} {m : Map} {x : Cont} {g o : Nat} {f : Nat → Value} (hc : Cells F w m x g o f) {t : Nat} {i : TypeInfo} {d : TypeDesc} (hi : P.info? t = some i) (hd : P.underlying t = some d)
    {off : Nat} {u : LV} {bs : List (Nat × Blk)} (h : loadC x off i.size (isAggD d) = some (u, bs)) : bs = [] ∧ ∃ v, (loadVar t ⟨g, o + off, none⟩).run P w = .ok v w ∧ Rep F w m u v := by
  unfold loadC at h
  split at h
  · rename_i ha
    rcases hq : x.cut off i.size with _ | y
    · rw [hq] at h; cases h
    · rw [hq] at h
      cases h
      obtain ⟨h1, h2⟩ := Cont.cut_vals hq
      refine ⟨rfl, .agg ((List.range i.size).map fun j => f (off + j)).toArray, ?_, ?_⟩
      · have hl := run_loadCells (P := P) w ⟨g, o + off, none⟩ i.size (fun j => f (off + j)) (fun j hj => by
          rw [add_block_none, Nat.add_assoc]; exact hc.1 (off + j) (by omega))
        simp [loadVar, run_isAggD hd, ha, run_sizeOfI hi, hl]
      · refine .agg _ _ _ (by simp [h2]; omega) (fun j u hu => ?_)
        rw [h2, List.getElem?_take] at hu
        split at hu
        · rename_i hj
          rw [List.getElem?_drop] at hu
          have := hc.2 _ _ hu
          simpa [hj] using this
        · cases hu
  · rename_i ha
    rcases hq : x.at? off with _ | y
    · rw [hq] at h; cases h
    · rw [hq] at h
      cases h
      have h1 := Cont.at_vals hq
      refine ⟨rfl, f off, ?_, hc.2 _ _ h1⟩
      have hcell := hc.1 off (lt_of_get h1)
      simp [loadVar, run_isAggD hd, ha, hcell]

theorem blk_cells {F : Nat → Prop} {base : Nat} {w : World} {m : Map} {b g s : Nat} {k : Blk} (h : BlkOk F base w m b k) (hm : m b = some (some ⟨g, s⟩)) :
    ∃ cs, w.heap[g]? = some (.cells cs k.e (0, 0)) ∧ cs.size = s ∧ k.x.vals.length ≤ s ∧ Cells F w m k.x g 0 (fun i => cs.getD i undef) := by
  rcases h with ⟨h1, _⟩ | ⟨g', s', cs, h1, _, _, h2, h3, _, h4, h5⟩
  · rw [hm] at h1; cases h1
  · rw [hm] at h1
    cases h1
    refine ⟨cs, h2, h3, h4, fun i hi => ?_, h5⟩
    rw [Nat.zero_add, cell_of_row w g i cs k.e (0, 0) h2]
    exact getD_of (by omega)

theorem opLoad_ok {E : Env} (hT : ∀ t i, E.T t = some i → tiOf P t = some i) {F : Nat → Prop} {base : Nat} {w : World} {m : Map} {β : Nat → Option Blk} (hB : ∀ b k, β b = some k → BlkOk F base w m b k)
    {t : Nat} {u u' : LV} {v : Value} {bs : List (Nat × Blk)} (hr : Rep F w m u v) (h : opLoad E β t u = some (u', bs)) : bs = [] ∧ ∃ v', (Instr.loadAt t v).run P w = .ok v' w ∧ Rep F w m u' v' := by
  unfold opLoad at h
  split at h
  · rename_i ti hti
    obtain ⟨i, d, hi, hd, _, hs, _, hg, _⟩ := tiOf_spec (hT _ _ hti)
    rw [hs, hg] at h
    split at h
    · rename_i b off
      split at h
      · rename_i k hk
        cases hr with
        | ptr _ _ _ g s hm =>
          obtain ⟨cs, _, _, _, hc⟩ := blk_cells (hB _ _ hk) hm
          obtain ⟨h1, v', h2, h3⟩ := run_loadVar_cells hc hi hd h
          rw [Nat.zero_add] at h2
          exact ⟨h1, v', by simpa [Instr.loadAt, Instr.sureAddr] using h2, h3⟩
      · cases h
    · rename_i x
      cases hr with
      | imp _ _ g o f hF hc hrr =>
        obtain ⟨h1, v', h2, h3⟩ := run_loadVar_cells (F := F) (m := m) (g := g) (o := o) (f := f) ⟨hc, fun i u hu => (hrr i u hu).noMap_up m⟩ hi hd h
        rw [Nat.add_zero] at h2
        exact ⟨h1, v', by simpa [Instr.loadAt, Instr.sureAddr] using h2, h3⟩
    · cases h
  · cases h
end
end Go.Proofs.Ytcmceadekcfpbaa
