/-
  append(v, make([]T, n)...): the machine's operation.
-/
import Derived.Test.YtdeigmjbcbjgeaaGreatDoorYaME
import Derived.Test.YtdeigmjbcbjgeaaGreatDoorYaZeros
namespace Go.Proofs.YtdeigmjbcbjgeaaGreatDoor
open Go.RowKit

section
variable {P : Program} {E : Env} {A : Nat → Prop} {w0 : Fr} {n : Nat} {m : Map} {F : Nat → Prop} {ρ : Nat → LV} {β : Nat → Option Blk} {a : Act} {w : World}
theorem zero_cells (w : World) {zv : Value} {k : IntKind} (h : zeroCont zv = some (.flat k [0])) : zv.cells = (Value.int k 0).cells := by
  obtain ⟨h1, h2⟩ := zero_rep (F := fun _ => False) (w := w) (m := noMap) h
  have h3 := h2 0 (.v (.int k 0)) rfl
  have hs : zv.cells.size = 1 := h1
  apply Array.ext
  · rw [hs]; rfl
  · intro i hi1 hi2
    have hi : i = 0 := by omega
    subst hi
    rw [Array.getD_eq_getD_getElem?, Array.getElem?_eq_getElem hi1] at h3
    generalize hv : zv.cells[0] = v at h3 ⊢
    simp only [Option.getD_some] at h3
    cases h3
    rfl
theorem opZeros_ok (hT : ∀ t i, E.T t = some i → tiOf P t = some i) (S : SR A w0 n m F ρ β a w) {o : Oper} {t tn : Nat} {x y : Operand} (hop : o.op = .call { callee := .builtin .append, args := #[x, y], argTypes := #[t, tn] })
    {ls ly : LV} (hs : Rep F w m ls (a.eval x)) (hy : Rep F w m ly (a.eval y)) {p : Upd} (h : opZeros E β t tn ls ly = some p) {Q : Exit → Act → World → Prop} : o.wp P a w (MPost A w0 n ρ β o p) Q := by
  unfold opZeros at h
  split at h
  case h_2 => cases h
  rename_i kn _ _ _ _ kq q htn
  split at h
  case h_2 => cases h
  rename_i e z _ _ _ _ hti
  split at h
  case h_2 => cases h
  rename_i k _ by_ _ k' hte
  split at h
  case h_2 => cases h
  rename_i z' b N
  split at h
  case h_2 => cases h
  rename_i kb hk
  split at h
  case isFalse => cases h
  rename_i hc
  obtain ⟨rfl, rfl, rfl, hby, hq0, hq1, hN, hkl, hsp, hke, hf1⟩ := hc
  cases h
  obtain ⟨in1, dn, _, hdn, htdn, _, _, _, _⟩ := tiOf_spec (hT _ _ htn)
  have hdn' := td_int htdn
  subst hdn'
  obtain ⟨it, dt, hit, hdt, htd, _, _, _, _⟩ := tiOf_spec (hT _ _ hti)
  obtain ⟨rfl, j, hj, hjs⟩ := td_slice htd
  obtain ⟨i2, d2, hi2, hd2, htd2, _, hb2, _, hz2⟩ := tiOf_spec (hT _ _ hte)
  rw [hj] at hi2
  cases hi2
  obtain ⟨zv, hzv, hzc⟩ := hz2 _ rfl
  simp only at hb2
  have hbase := Nat.zero_le w.heap.size
  rw [Cont.len_vals] at hkl
  have hup : ∀ {B : Nat} {u : LV} {v : Value}, Rep F w m u v → u.ment B mentD = false → Rep F w (m.del B) u v := fun h hm => h.del _ _ hm
  generalize hve : a.eval x = vs at hs
  generalize hvy : a.eval y = vy at hy
  cases hy
  obtain ⟨cnt, rfl⟩ := Int.eq_ofNat_of_zero_le hq0
  have hrow : ∃ xs, w.ownsRow 0 e 1 vs N xs ∧ xs.length = kb.x.vals.length ∧ (∀ (i : Nat) (u : LV), kb.x.vals[i]? = some u → Rep F w (m.del b) u (xs.getD i undef)) ∧
      ∀ g, vs.ownBlock = some g → ¬ F g ∧ w0.own g ∧ ∀ b' k' l, loseβ β b b' = some k' → (m.del b) b' = some (some l) → l.g ≠ g := by
    cases hs with
    | sl _ _ _ _ _ _ g s ad c' hm ha hn' hkk hss hx =>
      have ha : ad = ⟨g, 0, none⟩ := by rcases ha with h | ⟨_, h, _⟩; exact h; omega
      subst ha
      have hs1 := hss rfl
      obtain ⟨cs, b1, b2, b3, b4⟩ := blk_cells (S.blks _ _ hk) hm
      obtain ⟨o1, o2, o3⟩ := S.old hk hm
      refine ⟨cs.toList.take (N * 1), ⟨by simp; omega, .inr ⟨g, c', cs, rfl, Nat.zero_le _, by rw [← hke]; exact b1, hn', by simpa [maxLen] using hx, by omega, rfl⟩⟩, by simp; omega, fun i u hu => ?_, fun g' hg' => ?_⟩
      · have hi : i < N * 1 := by rw [Nat.mul_one, ← hkl]; exact lt_of_get hu
        have := hup (B := b) (b4.2 i u hu) (free_ment hf1 hu)
        rw [List.getD_eq_getElem?_getD, List.getElem?_take, if_pos hi, Array.getElem?_toList, ← Array.getD_eq_getD_getElem?]
        exact this
      · have e : g = g' := by simpa [Value.ownBlock] using hg'
        subst e
        refine ⟨o2, o3, fun b' k' l hb' hl e => ?_⟩
        unfold loseβ at hb'
        split at hb'
        · cases hb'
        · rename_i hne
          rw [Map.del_of hne] at hl
          rcases hq : β b' with _ | k''
          · rw [hq] at hb'; cases hb'
          · exact S.sep b' b k'' kb l _ hq hk hne hl hm e
    | slNil _ _ _ _ hm hkk =>
      have hk0 : kb.x.vals = [] := List.eq_nil_of_length_eq_zero (by rw [hkl])
      exact ⟨[], World.ownsRow_nil _ _ _ _, by rw [hk0]; rfl, fun i u hu => by rw [hk0] at hu; simp at hu, fun g hg => by simp [Value.ownBlock] at hg⟩
  obtain ⟨xs, hown, hxl, hxr, hrw⟩ := hrow
  obtain ⟨v', w', hrun, ho, hg, hat⟩ := run_zeros_any (P := P) w 0 t tn o.type e j k kn kq hdt hdn hj zv hzv (zero_cells w hzc) hjs (by omega) vs N xs hown cnt (by omega) hbase
  have hrepZ : ∀ (i : Nat) (u : LV), (Cont.flat k (List.replicate cnt (0 : Int))).vals[i]? = some u → Rep F w (m.del b) u (((List.replicate cnt (0 : Int)).map (Value.int k)).getD i undef) := by
    intro i u hu
    simp only [Cont.vals, List.getElem?_map, Option.map_eq_some_iff] at hu
    obtain ⟨q, hq, rfl⟩ := hu
    rw [List.getD_eq_getElem?_getD, List.getElem?_map, hq]
    exact .v _ _ rfl
  obtain ⟨m', hS, hv⟩ := (S.lose b).appended (B := b) (x := kb.x) (y := .flat k (List.replicate cnt (0 : Int))) (by simp [loseβ]) (by
    rcases hq : w0.lend b with _ | g
    · rfl
    · have := (S.lent b g kb hq hk).1
      rw [hsp] at this; cases this) hrw hg ho hat (by simpa using hkl) (by simp [Cont.vals]) hxl hxr hrepZ
  refine wp_value (v := v') (w' := w') ?_ ⟨m', _, hS.put o.dst hv⟩
  simp only [execOp, hop, resolve, invoke, builtin, Sem.run_bind, Sem.run_pure, Result.andThen_ok, List.map_toArray, List.map_cons, List.map_nil, hve, hvy, hrun]
end
end Go.Proofs.YtdeigmjbcbjgeaaGreatDoor
