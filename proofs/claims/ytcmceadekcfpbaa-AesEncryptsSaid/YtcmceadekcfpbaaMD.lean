/-
  The machine of plain values: stores, append, copy.
-/
import Derived.Test.YtcmceadekcfpbaaMC
namespace Go.Proofs.Ytcmceadekcfpbaa
open Go.RowKit

section
variable {P : Program} {E : Env} {A : Nat → Prop} {w0 : World} {n : Nat} {m : Map} {F : Nat → Prop} {ρ : Nat → LV} {β : Nat → Option Blk} {a : Act} {w : World}

def preR (ρ : Nat → LV) (β : Nat → Option Blk) (p : Upd) : Nat → LV :=
  match p.gone, p.calm with
  | some B, _ => fun t => (ρ t).lose B
  | none, some B => match β B with
    | some k => fun t => (ρ t).calm B k
    | none => ρ
  | none, none => ρ
def preB (β : Nat → Option Blk) (p : Upd) : Nat → Option Blk :=
  match p.gone, p.calm with
  | some B, _ => loseβ β B
  | none, some B => match β B with
    | some k => calmβ β B k
    | none => β
  | none, none => β
def MPost (A : Nat → Prop) (w0 : World) (n : Nat) (ρ : Nat → LV) (β : Nat → Option Blk) (o : Oper) (p : Upd) (a' : Act) (w' : World) : Prop :=
  ∃ m' F', SR A w0 n m' F' (updR n (preR ρ β p) o.dst p.u) (updBs (preB β p) p.bs) a' w'

theorem SR.grow (S : SR A w0 n m F ρ β a w) {w' : World} {row : Option Nat} (hg : w.grownBy w' row) (hrow : ∀ g, row = some g → ¬ F g ∧ w0.heap.size ≤ g ∧ ∀ b k l, β b = some k → m b = some (some l) → l.g ≠ g) : SR A w0 n m F ρ β a w' := by
  have hF : ∀ g, F g → w'.heap[g]? = w.heap[g]? := fun g h => hg.block g (S.flt g h) (fun e => (hrow g e.symm).1 h)
  have up : ∀ {u : LV} {v : Value}, Rep F w m u v → Rep F w' m u v := fun h => h.mono (fun _ h => h) hF _ (fun _ _ h => h)
  refine ⟨S.size, fun t => up (S.slots t), fun b k h => ?_, S.sep, S.dfr, S.keeps.grown hg (fun g e h => by have := (hrow g e).2.1; omega), fun g h => Nat.lt_of_lt_of_le (S.flt g h) hg.size, S.sub, S.sup, S.dom⟩
  rcases S.blks b k h with hv | ⟨g', s', cs2, h1, h2, h3, h4, h5, h6, h7, h8⟩
  · exact .inl hv
  · refine .inr ⟨g', s', cs2, h1, h2, h3, ?_, h5, h6, h7, fun i u hu => up (h8 i u hu)⟩
    rw [hg.block g' (Array.getElem?_eq_some_iff.1 h4).1 (fun e => (hrow g' e.symm).2.2 b k _ h h1 rfl)]
    exact h4

/-- append onto a row of the call's own, or onto nothing. -/
theorem SR.appended (S : SR A w0 n m F ρ β a w) {w' : World} {v v' : Value} {B e z N N' : Nat} {xs news : List Value} {x y : Cont} (hB : β B = none)
    (hrow : ∀ g, v.ownBlock = some g → ¬ F g ∧ w0.heap.size ≤ g ∧ ∀ b k l, β b = some k → m b = some (some l) → l.g ≠ g)
    (hg : w.grownBy w' v.ownBlock) (ho : w'.ownsRow w0.heap.size e z v' (N + N') (xs ++ news)) (hat : v'.ownBlock = v.ownBlock ∨ v'.ownBlock = some w.heap.size)
    (hxl : x.vals.length = N * z) (hyl : y.vals.length = N' * z) (hxsl : xs.length = x.vals.length)
    (hx : ∀ (i : Nat) (u : LV), x.vals[i]? = some u → Rep F w m u (xs.getD i undef)) (hy : ∀ (i : Nat) (u : LV), y.vals[i]? = some u → Rep F w m u (news.getD i undef)) :
    ∃ m', SR A w0 n m' F ρ (updBs β [(B, ⟨x.app y, e, true⟩)]) a w' ∧ Rep F w' m' (.sl z B 0 (N + N') none) v' := by
  have S1 := S.grow hg hrow
  have hF : ∀ g, F g → w'.heap[g]? = w.heap[g]? := fun g h => hg.block g (S.flt g h) (fun e => (hrow g e.symm).1 h)
  have hm : m B = none := S.dom B hB
  have hlen : (x.app y).vals.length = (N + N') * z := by rw [Cont.app_vals, List.length_append, hxl, hyl, Nat.add_mul]
  have hdom : ∀ l, ∀ b, (m.add B l) b ≠ m b → ∃ p ∈ [(B, (⟨x.app y, e, true⟩ : Blk))], p.1 = b := fun l b hb => ⟨_, List.mem_singleton.2 rfl, by
    rcases Classical.em (b = B) with e | e
    · exact e.symm
    · exact absurd (by simp [Map.add, e]) hb⟩
  rcases ho.2 with ⟨rfl, hn0⟩ | ⟨g', cap, cur, rfl, hb, hgc, hnc, hcm, hcs, htake⟩
  · refine ⟨m.add B none, ?_, ?_⟩
    · refine S1.add (Map.add_ext hm) (Keeps.refl _ _) (fun _ h => h) (fun _ h => .inl h) S1.flt (fun p hp => ?_) (fun p hp q hq hne => ?_) (hdom none)
      · simp at hp; subst hp
        refine ⟨.inl ⟨Map.add_same _ _ _, List.eq_nil_of_length_eq_zero (by rw [hlen, hn0]; simp), rfl⟩, fun l hl => ?_⟩
        simp [Map.add_same] at hl
      · simp at hp hq; subst hp; subst hq; exact absurd rfl hne
    · rw [hn0]
      exact .slNil _ _ _ _ (Map.add_same _ _ _) (fun k hk => by cases hk)
  · have hcx : cap ≤ 9223372036854775807 := by simpa [maxLen] using hcm
    have hg' : g' < w'.heap.size := (Array.getElem?_eq_some_iff.1 hgc).1
    have hnF : ¬ F g' := by
      intro hf
      rcases hat with h | h
      · exact (hrow g' (by rw [← h]; rfl)).1 hf
      · have : g' = w.heap.size := by simpa [Value.ownBlock] using h
        have := S.flt g' hf
        omega
    have hap : ∀ b k l, β b = some k → m b = some (some l) → l.g ≠ g' := by
      intro b k l hbk hl e
      rcases hat with h | h
      · exact (hrow g' (by rw [← h]; rfl)).2.2 b k l hbk hl e
      · have : g' = w.heap.size := by simpa [Value.ownBlock] using h
        have := (S.old hbk hl).1
        omega
    have hext := Map.add_ext (l := some ⟨g', cur.size⟩) hm
    refine ⟨m.add B (some ⟨g', cur.size⟩), ?_, ?_⟩
    · refine S1.add hext (Keeps.refl _ _) (fun _ h => h) (fun _ h => .inl h) S1.flt (fun p hp => ?_) (fun p hp q hq hne => ?_) (hdom _)
      · simp at hp; subst hp
        refine ⟨.inr ⟨g', cur.size, cur, Map.add_same _ _ _, hnF, hb, hgc, rfl, (fun h => by cases h), ?_, fun i u hu => ?_⟩, fun l hl => ?_⟩
        · show (x.app y).vals.length ≤ cur.size
          rw [hlen, hcs]; exact Nat.mul_le_mul_right _ hnc
        · have hi : i < (N + N') * z := by rw [← hlen]; exact lt_of_get hu
          have hcur : cur.getD i undef = (xs ++ news).getD i undef := by
            rw [← htake, List.getD_eq_getElem?_getD, List.getElem?_take, if_pos hi, Array.getElem?_toList, Array.getD_eq_getD_getElem?]
          simp only at hu ⊢
          rw [hcur]
          rw [Cont.app_vals] at hu
          have up : ∀ {u : LV} {v : Value}, Rep F w m u v → Rep F w' (m.add B (some ⟨g', cur.size⟩)) u v := fun h => h.mono (fun _ h => h) hF _ hext
          by_cases h1 : i < x.vals.length
          · rw [List.getElem?_append_left h1] at hu
            have := up (hx i u hu)
            rw [List.getD_eq_getElem?_getD, List.getElem?_append_left (by omega), ← List.getD_eq_getElem?_getD]
            exact this
          · rw [List.getElem?_append_right (by omega)] at hu
            have := up (hy _ u hu)
            rw [List.getD_eq_getElem?_getD, List.getElem?_append_right (by omega), ← List.getD_eq_getElem?_getD, hxsl]
            exact this
        · simp only [Map.add_same, Option.some.injEq] at hl
          subst hl
          exact fun b k l' hbk hl' => hap b k l' hbk hl'
      · simp at hp hq; subst hp; subst hq; exact absurd rfl hne
    · exact .sl _ _ _ _ _ _ g' cur.size _ _ (Map.add_same _ _ _) (.inl rfl) hnc (fun k hk => by cases hk) (fun _ => by rw [hcs]; omega) hcx

theorem wp_skip' {o : Oper} {w' : World} {K : Act → World → Prop} {Q : Exit → Act → World → Prop} (h : (execOp a.eval o).run P w = .ok .skip w') (hK : K (a.put o.dst undef) w') : o.wp P a w K Q := by
  unfold Oper.wp
  rw [h]
  exact hK
theorem undef_rep {F : Nat → Prop} {w : World} {m : Map} : Rep F w m noVal undef := .tup _ _ _ rfl (fun i u hu => by simp at hu)

/-- Cells in the program's order. -/
def cellsL (cs : Nat → Value) (k : Nat) : List Value := (List.range k).map cs
theorem cellsL_len (cs : Nat → Value) (k : Nat) : (cellsL cs k).length = k := by simp [cellsL]
theorem cellsL_get (cs : Nat → Value) (k i : Nat) (h : i < k) : (cellsL cs k).getD i undef = cs i := by simp [cellsL, h]

theorem opStore_ok (hT : ∀ t i, E.T t = some i → tiOf P t = some i) (S : SR A w0 n m F ρ β a w) {o : Oper} {t : Nat} {x y : Operand} (hop : o.op = .store t x y) {lp lu : LV} (hp : Rep F w m lp (a.eval x)) (hu : Rep F w m lu (a.eval y)) {p : Upd}
    (h : opStore E β t lp lu = some p) {Q : Exit → Act → World → Prop} : o.wp P a w (MPost A w0 n ρ β o p) Q := by
  unfold opStore at h
  split at h
  · rename_i b off
    split at h
    · rename_i ti yc k hti hyc hk
      obtain ⟨i, d', hi, hd, _, hs, _, _, _⟩ := tiOf_spec (hT _ _ hti)
      split at h
      · rename_i hlen
        split at h
        · rename_i x' hx'
          cases h
          have hlay := layOne_vals (x := k.x) (y := yc) (o := off) hx'
          obtain ⟨c1, c2, c3⟩ := cells_rep hu hyc
          generalize hpe : a.eval x = vp at hp
          cases hp with
          | ptr _ _ _ g s hm =>
            obtain ⟨cs, b1, b2, b3, b4⟩ := blk_cells (S.blks _ _ hk) hm
            obtain ⟨l1, l2, l3⟩ := lay_cells (F := F) (w := w) (m := m) (cs := cs) (vs := (a.eval y).cells.toList) (off := off) b4.2 (by omega) (by simpa using c1) (fun i u hu => by
              have := c2 i u hu
              rwa [Array.getD_eq_getD_getElem?, ← Array.getElem?_toList, ← List.getD_eq_getElem?_getD] at this) hlay
            have hone : ∀ v ∈ (a.eval y).cells.toList, v.oneCell' = true := by
              intro v hv
              obtain ⟨i, hi, rfl⟩ := List.getElem_of_mem hv
              have hi' : i < yc.vals.length := by rw [← c1]; simpa using hi
              obtain ⟨u, hu⟩ := getL_of hi'
              have h1 := c2 i u hu
              have h2 := c3 i u hu
              have e : (a.eval y).cells.getD i undef = (a.eval y).cells.toList[i] := by
                rw [Array.getD_eq_getD_getElem?, ← Array.getElem?_toList, List.getElem?_eq_getElem hi]; rfl
              rw [e] at h1
              exact h1.one h2
            have hfit : off + 0 + (a.eval y).cells.toList.length ≤ cs.size := by
              have := hlay.1
              simp only [Array.length_toList, c1]
              omega
            have hst := run_storeCells_at P g off k.e (a.eval y).cells.toList 0 cs w b1 hfit hone
            simp only [Nat.add_zero] at hst
            have hsz : ¬ (a.eval y).cells.size ≠ i.size := by rw [c1, ← Cont.len_vals, hlen, hs]; simp
            refine wp_skip' (w' := w.setRow g ((cs.toList.take off ++ (a.eval y).cells.toList ++ cs.toList.drop (off + (a.eval y).cells.toList.length)).toArray)) ?_ ?_
            · simp only [execOp, hop, Instr.storeAt, hpe, Instr.sureAddr, storeVar, Sem.run_bind, Sem.run_pure, Result.andThen_ok, run_sizeOfI hi, if_neg hsz, hst]
            · refine ⟨m, F, ?_⟩
              have hS := S.write hk hm (x := x') (cs' := (cs.toList.take off ++ (a.eval y).cells.toList ++ cs.toList.drop (off + (a.eval y).cells.toList.length)).toArray) (by rw [l2, b2]) l1 l3
              exact hS.put o.dst undef_rep
        · cases h
      · cases h
    · cases h
  · cases h
end
end Go.Proofs.Ytcmceadekcfpbaa
