/-
  The machine of plain values: the operations that write.
-/
import Derived.Test.YtcmceadekcfpbaaMB
import Derived.Maps.AppendAt
namespace Go.Proofs.Ytcmceadekcfpbaa
open Go.RowKit

section
variable {P : Program} {E : Env} {A : Nat → Prop} {w0 : World} {n : Nat} {m : Map} {F : Nat → Prop} {ρ : Nat → LV} {β : Nat → Option Blk} {a : Act} {w : World}

theorem Cont.lose_vals (B : Nat) (x : Cont) : (x.lose B).vals = x.vals.map (LV.lose B) := by
  cases x with
  | flat k l => simp [Cont.lose, Cont.vals]; exact fun _ _ => rfl
  | gen l => rfl
theorem Cont.calm_vals (B : Nat) (k : Blk) (x : Cont) : (x.calm B k).vals = x.vals.map (LV.calm B k) := by
  cases x with
  | flat j l => simp [Cont.calm, Cont.vals]; exact fun _ _ => rfl
  | gen l => rfl
def loseβ (β : Nat → Option Blk) (B b : Nat) : Option Blk := if b = B then none else (β b).map fun k => ⟨k.x.lose B, k.e, k.spare⟩
def calmβ (β : Nat → Option Blk) (B : Nat) (k : Blk) (b : Nat) : Option Blk := if b = B then none else (β b).map fun j => ⟨j.x.calm B k, j.e, j.spare⟩
theorem map_get {f : LV → LV} {l : List LV} {i : Nat} {u : LV} (h : (l.map f)[i]? = some u) : ∃ u', l[i]? = some u' ∧ f u' = u := by
  rw [List.getElem?_map] at h
  rcases hq : l[i]? with _ | u'
  · rw [hq] at h; cases h
  · rw [hq] at h; cases h; exact ⟨u', rfl, rfl⟩
theorem Map.del_of {m : Map} {B b : Nat} (h : b ≠ B) : m.del B b = m b := by simp [Map.del, h]

theorem SR.lose (S : SR A w0 n m F ρ β a w) (B : Nat) : SR A w0 n (m.del B) F (fun t => (ρ t).lose B) (loseβ β B) a w := by
  have hb : ∀ b k, loseβ β B b = some k → b ≠ B ∧ ∃ k', β b = some k' ∧ k = ⟨k'.x.lose B, k'.e, k'.spare⟩ := by
    intro b k h
    unfold loseβ at h
    split at h
    · cases h
    · rename_i hne
      rcases hq : β b with _ | k'
      · rw [hq] at h; cases h
      · rw [hq] at h; cases h; exact ⟨hne, k', rfl, rfl⟩
  refine ⟨S.size, fun t => (S.slots t).lose B, fun b k h => ?_, fun b b' k k' l l' h h' hne hl hl' => ?_, S.dfr, S.keeps, S.flt, S.sub, S.sup, fun b h => ?_⟩
  · obtain ⟨hne, k', h1, rfl⟩ := hb b k h
    rcases S.blks b k' h1 with ⟨q1, q2, q3⟩ | ⟨g, s, cs, q1, q2, q3, q4, q5, q6, q7, q8⟩
    · exact .inl ⟨by rw [Map.del_of hne]; exact q1, by simp [Cont.lose_vals, q2], q3⟩
    · refine .inr ⟨g, s, cs, by rw [Map.del_of hne]; exact q1, q2, q3, q4, q5, fun h => by simpa [Cont.lose_vals] using q6 h, by simpa [Cont.lose_vals] using q7, fun i u hu => ?_⟩
      rw [Cont.lose_vals] at hu
      obtain ⟨u', hu', rfl⟩ := map_get hu
      exact (q8 i u' hu').lose B
  · obtain ⟨n1, k1, h1, rfl⟩ := hb b k h
    obtain ⟨n2, k2, h2, rfl⟩ := hb b' k' h'
    rw [Map.del_of n1] at hl
    rw [Map.del_of n2] at hl'
    exact S.sep b b' k1 k2 l l' h1 h2 hne hl hl'
  · by_cases e : b = B
    · subst e; exact Map.del_at _ _
    · rw [Map.del_of e]
      refine S.dom b ?_
      unfold loseβ at h
      rw [if_neg e] at h
      simpa using h

/-- What stays behind block B's last writing. -/
def calmF (F : Nat → Prop) (m : Map) (B g : Nat) : Prop := F g ∨ ∃ s, m B = some (some ⟨g, s⟩)
theorem Rep.calm {base : Nat} {B : Nat} {k : Blk} (hB : BlkOk F base w m B k) {u : LV} {v : Value} (h : Rep F w m u v) : Rep (calmF F m B) w (m.del B) (u.calm B k) v := by
  have up : ∀ {u : LV}, Rep F w (m.del B) u v → Rep (calmF F m B) w (m.del B) u v := fun h => h.mono (fun _ h => .inl h) (fun _ _ => rfl) _ (fun _ _ h => h)
  cases u with
  | sl z b off n c =>
    simp only [LV.calm]
    split
    · rename_i hb
      subst hb
      rcases hq : k.x.cut off (n * z) with _ | y
      · exact .poison _ _
      · obtain ⟨y1, y2⟩ := Cont.cut_vals hq
        have ylen : y.vals.length = n * z := by rw [y2]; simp; omega
        have ys : (∀ (i : Nat) (u : LV), y.vals[i]? = some u → ∃ D, u.shut D = true) → Rep (calmF F m b) w (m.del b) (.im z n c y) v := by
          intro hsh
          cases h with
          | sl _ _ _ _ _ _ g s ad c' hm ha hn hkk hs hx =>
            obtain ⟨cs, b1, b2, b3, b4⟩ := blk_cells hB hm
            refine .im _ _ _ _ _ _ _ (fun i => cs.getD (off + i) undef) ylen hn hkk (fun h => by cases h) ?_ (fun i u hu => ?_)
            · rcases ha with rfl | ⟨rfl, _, _⟩
              · refine .inr ⟨g, off, rfl, .inr ⟨s, hm⟩, fun i hi => ?_⟩
                have := b4.1 (off + i) (by omega)
                rwa [Nat.zero_add] at this
              · exact .inl (List.eq_nil_of_length_eq_zero (by rw [ylen]; simp))
            · obtain ⟨D, hD⟩ := hsh i u hu
              rw [y2, List.getElem?_take] at hu
              split at hu
              · rw [List.getElem?_drop] at hu
                exact shut_rep (b4.2 _ _ hu) (fun _ h => .inl h) hD
              · cases hu
          | slNil _ _ _ _ hm hkk =>
            have y0 : y.vals = [] := List.eq_nil_of_length_eq_zero (by rw [ylen]; simp)
            exact .im _ _ _ _ _ _ _ (fun _ => undef) ylen (Nat.le_refl _) (fun k hk => (hkk k hk).symm) (fun _ => ⟨rfl, rfl⟩) (.inl y0) (fun i u hu => by rw [y0] at hu; simp at hu)
        rcases y with ⟨kk, l⟩ | l
        · exact ys (fun i u hu => by obtain ⟨q, rfl⟩ := flat_leaf hu; exact ⟨0, rfl⟩)
        · simp only
          split
          · rename_i hall
            exact ys (fun i u hu => ⟨6, all_true (l := l) hall hu⟩)
          · exact .poison _ _
    · rename_i hb
      exact up (h.del B 0 (by simpa [LV.ment] using hb))
  | _ => exact up (h.lose B)
theorem SR.calm (S : SR A w0 n m F ρ β a w) {B : Nat} {k : Blk} (hk : β B = some k) : SR A w0 n (m.del B) (calmF F m B) (fun t => (ρ t).calm B k) (calmβ β B k) a w := by
  have hBk := S.blks B k hk
  have hb : ∀ b j, calmβ β B k b = some j → b ≠ B ∧ ∃ j', β b = some j' ∧ j = ⟨j'.x.calm B k, j'.e, j'.spare⟩ := by
    intro b j h
    unfold calmβ at h
    split at h
    · cases h
    · rename_i hne
      rcases hq : β b with _ | k'
      · rw [hq] at h; cases h
      · rw [hq] at h; cases h; exact ⟨hne, k', rfl, rfl⟩
  refine ⟨S.size, fun t => (S.slots t).calm hBk, fun b j h => ?_, fun b b' k1 k2 l l' h h' hne hl hl' => ?_, S.dfr, S.keeps, fun g hg => ?_, fun g hg => ?_, fun g hg => .inl (S.sup g hg), fun b h => ?_⟩
  · obtain ⟨hne, j', h1, rfl⟩ := hb b j h
    rcases S.blks b j' h1 with ⟨q1, q2, q3⟩ | ⟨g, s, cs, q1, q2, q3, q4, q5, q6, q7, q8⟩
    · exact .inl ⟨by rw [Map.del_of hne]; exact q1, by simp [Cont.calm_vals, q2], q3⟩
    · refine .inr ⟨g, s, cs, by rw [Map.del_of hne]; exact q1, fun hf => ?_, q3, q4, q5, fun h => by simpa [Cont.calm_vals] using q6 h, by simpa [Cont.calm_vals] using q7, fun i u hu => ?_⟩
      · rcases hf with hf | ⟨s', hs'⟩
        · exact q2 hf
        · exact S.sep b B j' k _ _ h1 hk hne q1 hs' rfl
      · rw [Cont.calm_vals] at hu
        obtain ⟨u', hu', rfl⟩ := map_get hu
        exact (q8 i u' hu').calm hBk
  · obtain ⟨n1, k1', h1, rfl⟩ := hb b k1 h
    obtain ⟨n2, k2', h2, rfl⟩ := hb b' k2 h'
    rw [Map.del_of n1] at hl
    rw [Map.del_of n2] at hl'
    exact S.sep b b' k1' k2' l l' h1 h2 hne hl hl'
  · rcases hg with hg | ⟨s, hs⟩
    · exact S.flt g hg
    · obtain ⟨cs, q1, _⟩ := blk_cells hBk hs
      exact (Array.getElem?_eq_some_iff.1 q1).1
  · rcases hg with hg | ⟨s, hs⟩
    · exact S.sub g hg
    · rcases hBk with ⟨h1, _⟩ | ⟨g', s', cs, h1, _, h3, _⟩
      · rw [hs] at h1; cases h1
      · rw [hs] at h1; cases h1; exact .inr h3
  · by_cases e : b = B
    · subst e; exact Map.del_at _ _
    · rw [Map.del_of e]
      refine S.dom b ?_
      unfold calmβ at h
      rw [if_neg e] at h
      simpa using h

/-- A block's cells written. -/
theorem SR.write (S : SR A w0 n m F ρ β a w) {b g s : Nat} {k : Blk} {x : Cont} {cs' : Array Value} (hk : β b = some k) (hm : m b = some (some ⟨g, s⟩)) (hcs : cs'.size = s) (hx : x.vals.length = k.x.vals.length)
    (hr : ∀ (i : Nat) (u : LV), x.vals[i]? = some u → Rep F w m u (cs'.getD i undef)) : SR A w0 n m F ρ (updBs β [(b, ⟨x, k.e, k.spare⟩)]) a (w.setRow g cs') := by
  have hB := S.blks b k hk
  obtain ⟨q2, q3, cs, q4, q5, q6, q7⟩ : ¬ F g ∧ w0.heap.size ≤ g ∧ ∃ cs, w.heap[g]? = some (.cells cs k.e (0, 0)) ∧ cs.size = s ∧ (k.spare = false → k.x.vals.length = s) ∧ k.x.vals.length ≤ s := by
    rcases hB with ⟨h1, _⟩ | ⟨g', s', cs, h1, h2, h3, h4, h5, h6, h7, _⟩
    · rw [hm] at h1; cases h1
    · rw [hm] at h1; cases h1; exact ⟨h2, h3, cs, h4, h5, h6, h7⟩
  have hF : ∀ g', F g' → (w.setRow g cs').heap[g']? = w.heap[g']? := fun g' hg' => setRow_other w g g' cs' (fun e => q2 (e ▸ hg'))
  have up : ∀ {u : LV} {v : Value}, Rep F w m u v → Rep F (w.setRow g cs') m u v := fun h => h.mono (fun _ h => h) hF _ (fun _ _ h => h)
  have hcase : ∀ b' k', updBs β [(b, ⟨x, k.e, k.spare⟩)] b' = some k' → (b' = b ∧ k' = ⟨x, k.e, k.spare⟩) ∨ (b' ≠ b ∧ β b' = some k') := by
    intro b' k' h
    simp only [updBs] at h
    split at h
    · rename_i e; cases h; exact .inl ⟨e.symm, rfl⟩
    · rename_i e; exact .inr ⟨fun h => e h.symm, h⟩
  refine ⟨S.size, fun t => up (S.slots t), fun b' k' h => ?_, fun b1 b2 k1 k2 l l' h1 h2 hne hl hl' => ?_, S.dfr, S.keeps.setRow g cs' (fun h => absurd h (by omega)), fun g hg => by rw [setRow_size]; exact S.flt g hg, S.sub, S.sup, fun b' h => ?_⟩
  · rcases hcase b' k' h with ⟨rfl, rfl⟩ | ⟨hne, h⟩
    · exact .inr ⟨g, s, cs', hm, q2, q3, setRow_heap w g cs cs' _ _ q4, hcs, fun h => by rw [hx]; exact q6 h, by rw [hx]; exact q7, fun i u hu => up (hr i u hu)⟩
    · rcases S.blks b' k' h with hv | ⟨g', s', cs2, h1, h2, h3, h4, h5, h6, h7, h8⟩
      · exact .inl hv
      · have hgg : g' ≠ g := fun e => S.sep b' b k' k _ _ h hk hne h1 hm e
        exact .inr ⟨g', s', cs2, h1, h2, h3, by rw [setRow_other w g g' cs' hgg]; exact h4, h5, h6, h7, fun i u hu => up (h8 i u hu)⟩
  · have e1 : ∃ k, β b1 = some k := by rcases hcase b1 k1 h1 with ⟨rfl, _⟩ | ⟨_, h⟩; exact ⟨_, hk⟩; exact ⟨_, h⟩
    have e2 : ∃ k, β b2 = some k := by rcases hcase b2 k2 h2 with ⟨rfl, _⟩ | ⟨_, h⟩; exact ⟨_, hk⟩; exact ⟨_, h⟩
    obtain ⟨k1', e1⟩ := e1
    obtain ⟨k2', e2⟩ := e2
    exact S.sep b1 b2 k1' k2' l l' e1 e2 hne hl hl'
  · refine S.dom b' ?_
    have := (updBs_none _ _ _ h).1
    exact this

/-- Cells laid over cells. -/
theorem lay_cells {F : Nat → Prop} {w : World} {m : Map} {x y z : Cont} {cs : Array Value} {vs : List Value} {off : Nat} (hx : ∀ (i : Nat) (u : LV), x.vals[i]? = some u → Rep F w m u (cs.getD i undef)) (hxl : x.vals.length ≤ cs.size)
    (hyl : vs.length = y.vals.length) (hy : ∀ (i : Nat) (u : LV), y.vals[i]? = some u → Rep F w m u (vs.getD i undef)) (hz : off + y.vals.length ≤ x.vals.length ∧ z.vals = x.vals.take off ++ y.vals ++ x.vals.drop (off + y.vals.length)) :
    z.vals.length = x.vals.length ∧ (cs.toList.take off ++ vs ++ cs.toList.drop (off + vs.length)).toArray.size = cs.size ∧
    ∀ (i : Nat) (u : LV), z.vals[i]? = some u → Rep F w m u ((cs.toList.take off ++ vs ++ cs.toList.drop (off + vs.length)).toArray.getD i undef) := by
  obtain ⟨hl, hz⟩ := hz
  have hlen : z.vals.length = x.vals.length := by rw [hz]; simp; omega
  refine ⟨hlen, by simp; omega, fun i u hu => ?_⟩
  have hi : i < x.vals.length := by rw [← hlen]; exact lt_of_get hu
  have hm : min off cs.size = off := by omega
  have hmx : min off x.vals.length = off := by omega
  have e : (cs.toList.take off ++ vs ++ cs.toList.drop (off + vs.length)).toArray.getD i undef = if off ≤ i ∧ i < off + vs.length then vs.getD (i - off) undef else cs.getD i undef := by
    rw [Array.getD_eq_getD_getElem?, List.getElem?_toArray]
    by_cases h1 : i < off
    · rw [List.append_assoc, List.getElem?_append_left (by simp; omega), List.getElem?_take, if_pos h1, if_neg (by omega)]
      simp [Array.getD_eq_getD_getElem?]
    · by_cases h2 : i < off + vs.length
      · rw [List.append_assoc, List.getElem?_append_right (by simp; omega), List.getElem?_append_left (by simp; omega), if_pos ⟨by omega, h2⟩]
        simp [hm, List.getD_eq_getElem?_getD]
      · rw [List.getElem?_append_right (by simp; omega), if_neg (by omega)]
        simp only [List.length_append, List.length_take, Array.length_toList, hm, List.getElem?_drop]
        rw [show off + vs.length + (i - (off + vs.length)) = i by omega]
        simp [Array.getD_eq_getD_getElem?]
  rw [e]
  rw [hz] at hu
  by_cases h1 : i < off
  · rw [if_neg (by omega)]
    rw [List.append_assoc, List.getElem?_append_left (by simp; omega), List.getElem?_take, if_pos h1] at hu
    exact hx i u hu
  · by_cases h2 : i < off + vs.length
    · rw [if_pos ⟨by omega, h2⟩]
      rw [List.append_assoc, List.getElem?_append_right (by simp; omega), List.getElem?_append_left (by simp; omega)] at hu
      simp only [List.length_take, hmx] at hu
      exact hy _ _ hu
    · rw [if_neg (by omega)]
      rw [List.getElem?_append_right (by simp; omega)] at hu
      simp only [List.length_append, List.length_take, hmx, List.getElem?_drop] at hu
      rw [show off + y.vals.length + (i - (off + y.vals.length)) = i by omega] at hu
      exact hx i u hu
end
end Go.Proofs.Ytcmceadekcfpbaa
