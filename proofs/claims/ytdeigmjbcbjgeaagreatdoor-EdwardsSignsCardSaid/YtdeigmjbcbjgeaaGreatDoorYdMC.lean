/-
  The machine of plain values: the operations that write.
-/
import Derived.Maps.AppendAt
import Derived.Test.YtdeigmjbcbjgeaaGreatDoorYdM8
namespace Go.Proofs.YtdeigmjbcbjgeaaGreatDoor
open Go.RowKit

section
variable {P : Program} {E : Env} {A : Nat → Prop} {w0 : Fr} {n : Nat} {m : Map} {F : Nat → Prop} {ρ : Nat → LV} {β : Nat → Option Blk} {a : Act} {w : World}

theorem Cont.lose_vals (B : Nat) (x : Cont) : (x.lose B).vals = x.vals.map (LV.lose B) := by
  cases x with
  | flat k l => simp [Cont.lose, Cont.vals]; exact fun _ _ => rfl
  | gen l => rfl
theorem Cont.calm_vals (B : Nat) (k : Blk) (x : Cont) : (x.calm B k).vals = x.vals.map (LV.calm B k) := by
  cases x with
  | flat j l => simp [Cont.calm, Cont.vals]; exact fun _ _ => rfl
  | gen l => rfl
def loseβ (β : Nat → Option Blk) (B b : Nat) : Option Blk := if b = B then none else (β b).map fun k => ⟨k.x.lose B, k.e, k.spare⟩
def calmβ (β : Nat → Option Blk) (B : Nat) (k : Blk) (b : Nat) : Option Blk := if b = B then none else (β b).map fun j => ⟨j.x.calm B k, j.e, j.spare⟩
theorem map_get {f : LV → LV} {l : List LV} {i : Nat} {u : LV} (h : (l.map f)[i]? = some u) : ∃ u', l[i]? = some u' ∧ f u' = u := by
  rw [List.getElem?_map] at h
  rcases hq : l[i]? with _ | u'
  · rw [hq] at h; cases h
  · rw [hq] at h; cases h; exact ⟨u', rfl, rfl⟩
theorem Map.del_of {m : Map} {B b : Nat} (h : b ≠ B) : m.del B b = m b := by simp [Map.del, h]

theorem SR.lose (S : SR A w0 n m F ρ β a w) (B : Nat) : SR A w0 n (m.del B) F (fun t => (ρ t).lose B) (loseβ β B) a w := by
  have hb : ∀ b k, loseβ β B b = some k → b ≠ B ∧ ∃ k', β b = some k' ∧ k = ⟨k'.x.lose B, k'.e, k'.spare⟩ := by
    intro b k h
    unfold loseβ at h
    split at h
    · cases h
    · rename_i hne
      rcases hq : β b with _ | k'
      · rw [hq] at h; cases h
      · rw [hq] at h; cases h; exact ⟨hne, k', rfl, rfl⟩
  refine ⟨S.size, fun t => (S.slots t).lose B, fun b k h => ?_, fun b b' k k' l l' h h' hne hl hl' => ?_, S.dfr, S.keeps, S.flt, S.sub, S.sup, fun b h => ?_, fun b g k hl h => ?_, S.glob⟩
  · obtain ⟨hne, k', h1, rfl⟩ := hb b k h
    rcases S.blks b k' h1 with ⟨q1, q2, q3⟩ | ⟨g, s, cs, q1, q2, q3, q4, q5, q6, q7, q8⟩
    · exact .inl ⟨by rw [Map.del_of hne]; exact q1, by simp [Cont.lose_vals, q2], q3⟩
    · refine .inr ⟨g, s, cs, by rw [Map.del_of hne]; exact q1, q2, q3, q4, q5, fun h => by simpa [Cont.lose_vals] using q6 h, by simpa [Cont.lose_vals] using q7, fun i u hu => ?_⟩
      rw [Cont.lose_vals] at hu
      obtain ⟨u', hu', rfl⟩ := map_get hu
      exact (q8 i u' hu').lose B
  · obtain ⟨n1, k1, h1, rfl⟩ := hb b k h
    obtain ⟨n2, k2, h2, rfl⟩ := hb b' k' h'
    rw [Map.del_of n1] at hl
    rw [Map.del_of n2] at hl'
    exact S.sep b b' k1 k2 l l' h1 h2 hne hl hl'
  · by_cases e : b = B
    · subst e; exact Map.del_at _ _
    · rw [Map.del_of e]
      refine S.dom b ?_
      unfold loseβ at h
      rw [if_neg e] at h
      simpa using h
  · obtain ⟨hne, k', h1, rfl⟩ := hb b k h
    obtain ⟨q1, q2⟩ := S.lent b g k' hl h1
    exact ⟨q1, by rw [Map.del_of hne]; exact q2⟩

/-- What stays behind block B's last writing. -/
def calmF (F : Nat → Prop) (m : Map) (B g : Nat) : Prop := F g ∨ ∃ s, m B = some (some ⟨g, s⟩)
theorem Rep.calm {base : Nat → Prop} {B : Nat} {k : Blk} (hB : BlkOk F base w m B k) {u : LV} {v : Value} (h : Rep F w m u v) : Rep (calmF F m B) w (m.del B) (u.calm B k) v := by
  have up : ∀ {u : LV}, Rep F w (m.del B) u v → Rep (calmF F m B) w (m.del B) u v := fun h => h.mono (fun _ h => .inl h) (fun _ _ => rfl) _ (fun _ _ h => h)
  cases u with
  | sl z b off n c =>
    simp only [LV.calm]
    split
    · rename_i hb
      subst hb
      rcases hq : k.x.cut off (n * z) with _ | y
      · exact .poison _ _
      · obtain ⟨y1, y2⟩ := Cont.cut_vals hq
        have ylen : y.vals.length = n * z := by rw [y2]; simp; omega
        have ys : (∀ (i : Nat) (u : LV), y.vals[i]? = some u → ∃ D, u.shut D = true) → Rep (calmF F m b) w (m.del b) (.im z n c y) v := by
          intro hsh
          cases h with
          | sl _ _ _ _ _ _ g s ad c' hm ha hn hkk hs hx =>
            obtain ⟨cs, b1, b2, b3, b4⟩ := blk_cells hB hm
            refine .im _ _ _ _ _ _ _ (fun i => cs.getD (off + i) undef) ylen hn hkk (fun h => by cases h) ?_ (fun i u hu => ?_)
            · rcases ha with rfl | ⟨rfl, _, _⟩
              · refine .inr ⟨g, off, rfl, .inr ⟨s, hm⟩, fun i hi => ?_⟩
                have := b4.1 (off + i) (by omega)
                rwa [Nat.zero_add] at this
              · exact .inl (List.eq_nil_of_length_eq_zero (by rw [ylen]; simp))
            · obtain ⟨D, hD⟩ := hsh i u hu
              rw [y2, List.getElem?_take] at hu
              split at hu
              · rw [List.getElem?_drop] at hu
                exact shut_rep (b4.2 _ _ hu) (fun _ h => .inl h) hD
              · cases hu
          | slNil _ _ _ _ hm hkk =>
            have y0 : y.vals = [] := List.eq_nil_of_length_eq_zero (by rw [ylen]; simp)
            exact .im _ _ _ _ _ _ _ (fun _ => undef) ylen (Nat.le_refl _) (fun k hk => (hkk k hk).symm) (fun _ => ⟨rfl, rfl⟩) (.inl y0) (fun i u hu => by rw [y0] at hu; simp at hu)
        rcases y with ⟨kk, l⟩ | l
        · exact ys (fun i u hu => by obtain ⟨q, rfl⟩ := flat_leaf hu; exact ⟨0, rfl⟩)
        · simp only
          split
          · rename_i hall
            exact ys (fun i u hu => ⟨6, all_true (l := l) hall hu⟩)
          · exact .poison _ _
    · rename_i hb
      exact up (h.del B 0 (by simpa [LV.ment] using hb))
  | _ => exact up (h.lose B)
theorem SR.calm (S : SR A w0 n m F ρ β a w) {B : Nat} {k : Blk} (hk : β B = some k) : SR A w0 n (m.del B) (calmF F m B) (fun t => (ρ t).calm B k) (calmβ β B k) a w := by
  have hBk := S.blks B k hk
  have hb : ∀ b j, calmβ β B k b = some j → b ≠ B ∧ ∃ j', β b = some j' ∧ j = ⟨j'.x.calm B k, j'.e, j'.spare⟩ := by
    intro b j h
    unfold calmβ at h
    split at h
    · cases h
    · rename_i hne
      rcases hq : β b with _ | k'
      · rw [hq] at h; cases h
      · rw [hq] at h; cases h; exact ⟨hne, k', rfl, rfl⟩
  refine ⟨S.size, fun t => (S.slots t).calm hBk, fun b j h => ?_, fun b b' k1 k2 l l' h h' hne hl hl' => ?_, S.dfr, S.keeps, fun g hg => ?_, fun g hg => ?_, fun g hg => .inl (S.sup g hg), fun b h => ?_, fun b g j hl h => ?_, S.glob⟩
  · obtain ⟨hne, j', h1, rfl⟩ := hb b j h
    rcases S.blks b j' h1 with ⟨q1, q2, q3⟩ | ⟨g, s, cs, q1, q2, q3, q4, q5, q6, q7, q8⟩
    · exact .inl ⟨by rw [Map.del_of hne]; exact q1, by simp [Cont.calm_vals, q2], q3⟩
    · refine .inr ⟨g, s, cs, by rw [Map.del_of hne]; exact q1, fun hf => ?_, q3, q4, q5, fun h => by simpa [Cont.calm_vals] using q6 h, by simpa [Cont.calm_vals] using q7, fun i u hu => ?_⟩
      · rcases hf with hf | ⟨s', hs'⟩
        · exact q2 hf
        · exact S.sep b B j' k _ _ h1 hk hne q1 hs' rfl
      · rw [Cont.calm_vals] at hu
        obtain ⟨u', hu', rfl⟩ := map_get hu
        exact (q8 i u' hu').calm hBk
  · obtain ⟨n1, k1', h1, rfl⟩ := hb b k1 h
    obtain ⟨n2, k2', h2, rfl⟩ := hb b' k2 h'
    rw [Map.del_of n1] at hl
    rw [Map.del_of n2] at hl'
    exact S.sep b b' k1' k2' l l' h1 h2 hne hl hl'
  · rcases hg with hg | ⟨s, hs⟩
    · exact S.flt g hg
    · obtain ⟨cs, q1, _⟩ := blk_cells hBk hs
      exact (Array.getElem?_eq_some_iff.1 q1).1
  · rcases hg with hg | ⟨s, hs⟩
    · exact S.sub g hg
    · rcases hBk with ⟨h1, _⟩ | ⟨g', s', cs, h1, _, h3, _⟩
      · rw [hs] at h1; cases h1
      · rw [hs] at h1; cases h1; exact .inr h3
  · by_cases e : b = B
    · subst e; exact Map.del_at _ _
    · rw [Map.del_of e]
      refine S.dom b ?_
      unfold calmβ at h
      rw [if_neg e] at h
      simpa using h
  · obtain ⟨hne, j', h1, rfl⟩ := hb b j h
    obtain ⟨q1, q2⟩ := S.lent b g j' hl h1
    exact ⟨q1, by rw [Map.del_of hne]; exact q2⟩

/-- A block's cells written. -/
theorem SR.write (S : SR A w0 n m F ρ β a w) {b g s : Nat} {k : Blk} {x : Cont} {cs' : Array Value} (hk : β b = some k) (hm : m b = some (some ⟨g, s⟩)) (hcs : cs'.size = s) (hx : x.vals.length = k.x.vals.length)
    (hr : ∀ (i : Nat) (u : LV), x.vals[i]? = some u → Rep F w m u (cs'.getD i undef)) : SR A w0 n m F ρ (updBs β [(b, ⟨x, k.e, k.spare⟩)]) a (w.setRow g cs') := by
  have hB := S.blks b k hk
  obtain ⟨q2, q3, cs, q4, q5, q6, q7⟩ : ¬ F g ∧ w0.own g ∧ ∃ cs, w.heap[g]? = some (.cells cs k.e (0, 0)) ∧ cs.size = s ∧ (k.spare = false → k.x.vals.length = s) ∧ k.x.vals.length ≤ s := by
    rcases hB with ⟨h1, _⟩ | ⟨g', s', cs, h1, h2, h3, h4, h5, h6, h7, _⟩
    · rw [hm] at h1; cases h1
    · rw [hm] at h1; cases h1; exact ⟨h2, h3, cs, h4, h5, h6, h7⟩
  have hF : ∀ g', F g' → (w.setRow g cs').heap[g']? = w.heap[g']? := fun g' hg' => setRow_other w g g' cs' (fun e => q2 (e ▸ hg'))
  have up : ∀ {u : LV} {v : Value}, Rep F w m u v → Rep F (w.setRow g cs') m u v := fun h => h.mono (fun _ h => h) hF _ (fun _ _ h => h)
  have hcase : ∀ b' k', updBs β [(b, ⟨x, k.e, k.spare⟩)] b' = some k' → (b' = b ∧ k' = ⟨x, k.e, k.spare⟩) ∨ (b' ≠ b ∧ β b' = some k') := by
    intro b' k' h
    simp only [updBs] at h
    split at h
    · rename_i e; cases h; exact .inl ⟨e.symm, rfl⟩
    · rename_i e; exact .inr ⟨fun h => e h.symm, h⟩
  refine ⟨S.size, fun t => up (S.slots t), fun b' k' h => ?_, fun b1 b2 k1 k2 l l' h1 h2 hne hl hl' => ?_, S.dfr, S.keeps.setRow g cs' (fun h => by rcases q3 with q | q; exact absurd h (by omega); exact q), fun g hg => by rw [setRow_size]; exact S.flt g hg, S.sub, S.sup, fun b' h => ?_, fun b' g' k' hl h => ?_, S.glob⟩
  · rcases hcase b' k' h with ⟨rfl, rfl⟩ | ⟨hne, h⟩
    · exact .inr ⟨g, s, cs', hm, q2, q3, setRow_heap w g cs cs' _ _ q4, hcs, fun h => by rw [hx]; exact q6 h, by rw [hx]; exact q7, fun i u hu => up (hr i u hu)⟩
    · rcases S.blks b' k' h with hv | ⟨g', s', cs2, h1, h2, h3, h4, h5, h6, h7, h8⟩
      · exact .inl hv
      · have hgg : g' ≠ g := fun e => S.sep b' b k' k _ _ h hk hne h1 hm e
        exact .inr ⟨g', s', cs2, h1, h2, h3, by rw [setRow_other w g g' cs' hgg]; exact h4, h5, h6, h7, fun i u hu => up (h8 i u hu)⟩
  · have e1 : ∃ k, β b1 = some k := by rcases hcase b1 k1 h1 with ⟨rfl, _⟩ | ⟨_, h⟩; exact ⟨_, hk⟩; exact ⟨_, h⟩
    have e2 : ∃ k, β b2 = some k := by rcases hcase b2 k2 h2 with ⟨rfl, _⟩ | ⟨_, h⟩; exact ⟨_, hk⟩; exact ⟨_, h⟩
    obtain ⟨k1', e1⟩ := e1
    obtain ⟨k2', e2⟩ := e2
    exact S.sep b1 b2 k1' k2' l l' e1 e2 hne hl hl'
  · refine S.dom b' ?_
    have := (updBs_none _ _ _ h).1
    exact this
  · rcases hcase b' k' h with ⟨rfl, rfl⟩ | ⟨_, h⟩
    · exact S.lent b' g' k hl hk
    · exact S.lent b' g' k' hl h

/-- Cells laid over cells. -/
theorem lay_cells {F : Nat → Prop} {w : World} {m : Map} {x y z : Cont} {cs : Array Value} {vs : List Value} {off : Nat} (hx : ∀ (i : Nat) (u : LV), x.vals[i]? = some u → Rep F w m u (cs.getD i undef)) (hxl : x.vals.length ≤ cs.size)
    (hyl : vs.length = y.vals.length) (hy : ∀ (i : Nat) (u : LV), y.vals[i]? = some u → Rep F w m u (vs.getD i undef)) (hz : off + y.vals.length ≤ x.vals.length ∧ z.vals = x.vals.take off ++ y.vals ++ x.vals.drop (off + y.vals.length)) :
    z.vals.length = x.vals.length ∧ (cs.toList.take off ++ vs ++ cs.toList.drop (off + vs.length)).toArray.size = cs.size ∧
    ∀ (i : Nat) (u : LV), z.vals[i]? = some u → Rep F w m u ((cs.toList.take off ++ vs ++ cs.toList.drop (off + vs.length)).toArray.getD i undef) := by
  obtain ⟨hl, hz⟩ := hz
  have hlen : z.vals.length = x.vals.length := by rw [hz]; simp; omega
  refine ⟨hlen, by simp; omega, fun i u hu => ?_⟩
  have hi : i < x.vals.length := by rw [← hlen]; exact lt_of_get hu
  have hm : min off cs.size = off := by omega
  have hmx : min off x.vals.length = off := by omega
  have e : (cs.toList.take off ++ vs ++ cs.toList.drop (off + vs.length)).toArray.getD i undef = if off ≤ i ∧ i < off + vs.length then vs.getD (i - off) undef else cs.getD i undef := by
    rw [Array.getD_eq_getD_getElem?, List.getElem?_toArray]
    by_cases h1 : i < off
    · rw [List.append_assoc, List.getElem?_append_left (by simp; omega), List.getElem?_take, if_pos h1, if_neg (by omega)]
      simp [Array.getD_eq_getD_getElem?]
    · by_cases h2 : i < off + vs.length
      · rw [List.append_assoc, List.getElem?_append_right (by simp; omega), List.getElem?_append_left (by simp; omega), if_pos ⟨by omega, h2⟩]
        simp [hm, List.getD_eq_getElem?_getD]
      · rw [List.getElem?_append_right (by simp; omega), if_neg (by omega)]
        simp only [List.length_append, List.length_take, Array.length_toList, hm, List.getElem?_drop]
        rw [show off + vs.length + (i - (off + vs.length)) = i by omega]
        simp [Array.getD_eq_getD_getElem?]
  rw [e]
  rw [hz] at hu
  by_cases h1 : i < off
  · rw [if_neg (by omega)]
    rw [List.append_assoc, List.getElem?_append_left (by simp; omega), List.getElem?_take, if_pos h1] at hu
    exact hx i u hu
  · by_cases h2 : i < off + vs.length
    · rw [if_pos ⟨by omega, h2⟩]
      rw [List.append_assoc, List.getElem?_append_right (by simp; omega), List.getElem?_append_left (by simp; omega)] at hu
      simp only [List.length_take, hmx] at hu
      exact hy _ _ hu
    · rw [if_neg (by omega)]
      rw [List.getElem?_append_right (by simp; omega)] at hu
      simp only [List.length_append, List.length_take, hmx, List.getElem?_drop] at hu
      rw [show off + y.vals.length + (i - (off + y.vals.length)) = i by omega] at hu
      exact hx i u hu
end
end Go.Proofs.YtdeigmjbcbjgeaaGreatDoor

/-
  The machine of plain values: stores, append, copy.
-/
namespace Go.Proofs.YtdeigmjbcbjgeaaGreatDoor
open Go.RowKit

section
variable {P : Program} {E : Env} {A : Nat → Prop} {w0 : Fr} {n : Nat} {m : Map} {F : Nat → Prop} {ρ : Nat → LV} {β : Nat → Option Blk} {a : Act} {w : World}

def preR (ρ : Nat → LV) (β : Nat → Option Blk) (p : Upd) : Nat → LV :=
  match p.gone, p.calm with
  | some B, _ => fun t => (ρ t).lose B
  | none, some B => match β B with
    | some k => fun t => (ρ t).calm B k
    | none => ρ
  | none, none => ρ
def preB (β : Nat → Option Blk) (p : Upd) : Nat → Option Blk :=
  match p.gone, p.calm with
  | some B, _ => loseβ β B
  | none, some B => match β B with
    | some k => calmβ β B k
    | none => β
  | none, none => β
def MPost (A : Nat → Prop) (w0 : Fr) (n : Nat) (ρ : Nat → LV) (β : Nat → Option Blk) (o : Oper) (p : Upd) (a' : Act) (w' : World) : Prop :=
  ∃ m' F', SR A w0 n m' F' (updR n (preR ρ β p) o.dst p.u) (updBs (preB β p) p.bs) a' w'

theorem SR.grow (S : SR A w0 n m F ρ β a w) {w' : World} {row : Option Nat} (hg : w.grownBy w' row) (hrow : ∀ g, row = some g → ¬ F g ∧ w0.own g ∧ ∀ b k l, β b = some k → m b = some (some l) → l.g ≠ g) : SR A w0 n m F ρ β a w' := by
  have hF : ∀ g, F g → w'.heap[g]? = w.heap[g]? := fun g h => hg.block g (S.flt g h) (fun e => (hrow g e.symm).1 h)
  have up : ∀ {u : LV} {v : Value}, Rep F w m u v → Rep F w' m u v := fun h => h.mono (fun _ h => h) hF _ (fun _ _ h => h)
  refine ⟨S.size, fun t => up (S.slots t), fun b k h => ?_, S.sep, S.dfr, S.keeps.grown hg (fun g e h => by rcases (hrow g e).2.1 with q | q; exact absurd h (by omega); exact q), fun g h => Nat.lt_of_lt_of_le (S.flt g h) hg.size, S.sub, S.sup, S.dom, S.lent, S.glob⟩
  rcases S.blks b k h with hv | ⟨g', s', cs2, h1, h2, h3, h4, h5, h6, h7, h8⟩
  · exact .inl hv
  · refine .inr ⟨g', s', cs2, h1, h2, h3, ?_, h5, h6, h7, fun i u hu => up (h8 i u hu)⟩
    rw [hg.block g' (Array.getElem?_eq_some_iff.1 h4).1 (fun e => (hrow g' e.symm).2.2 b k _ h h1 rfl)]
    exact h4

/-- append onto a row of the call's own, or onto nothing. -/
theorem SR.appended (S : SR A w0 n m F ρ β a w) {w' : World} {v v' : Value} {B e z N N' : Nat} {xs news : List Value} {x y : Cont} (hB : β B = none) (hid : w0.lend B = none)
    (hrow : ∀ g, v.ownBlock = some g → ¬ F g ∧ w0.own g ∧ ∀ b k l, β b = some k → m b = some (some l) → l.g ≠ g)
    (hg : w.grownBy w' v.ownBlock) (ho : w'.ownsRow 0 e z v' (N + N') (xs ++ news)) (hat : v'.ownBlock = v.ownBlock ∨ v'.ownBlock = some w.heap.size)
    (hxl : x.vals.length = N * z) (hyl : y.vals.length = N' * z) (hxsl : xs.length = x.vals.length)
    (hx : ∀ (i : Nat) (u : LV), x.vals[i]? = some u → Rep F w m u (xs.getD i undef)) (hy : ∀ (i : Nat) (u : LV), y.vals[i]? = some u → Rep F w m u (news.getD i undef)) :
    ∃ m', SR A w0 n m' F ρ (updBs β [(B, ⟨x.app y, e, true⟩)]) a w' ∧ Rep F w' m' (.sl z B 0 (N + N') none) v' := by
  have S1 := S.grow hg hrow
  have hF : ∀ g, F g → w'.heap[g]? = w.heap[g]? := fun g h => hg.block g (S.flt g h) (fun e => (hrow g e.symm).1 h)
  have hm : m B = none := S.dom B hB
  have hlen : (x.app y).vals.length = (N + N') * z := by rw [Cont.app_vals, List.length_append, hxl, hyl, Nat.add_mul]
  have hdom : ∀ l, ∀ b, (m.add B l) b ≠ m b → ∃ p ∈ [(B, (⟨x.app y, e, true⟩ : Blk))], p.1 = b := fun l b hb => ⟨_, List.mem_singleton.2 rfl, by
    rcases Classical.em (b = B) with e | e
    · exact e.symm
    · exact absurd (by simp [Map.add, e]) hb⟩
  rcases ho.2 with ⟨rfl, hn0⟩ | ⟨g', cap, cur, rfl, hb, hgc, hnc, hcm, hcs, htake⟩
  · refine ⟨m.add B none, ?_, ?_⟩
    · refine S1.add (Map.add_ext hm) (Keeps.refl _ _) (fun _ h => h) (fun _ h => .inl h) S1.flt (fun p hp => ?_) (fun p hp q hq hne => ?_) (hdom none) (fun p hp => ?_)
      · simp at hp; subst hp
        refine ⟨.inl ⟨Map.add_same _ _ _, List.eq_nil_of_length_eq_zero (by rw [hlen, hn0]; simp), rfl⟩, fun l hl => ?_⟩
        simp [Map.add_same] at hl
      · simp at hp hq; subst hp; subst hq; exact absurd rfl hne
      · simp at hp; subst hp; exact hid
    · rw [hn0]
      exact .slNil _ _ _ _ (Map.add_same _ _ _) (fun k hk => by cases hk)
  · have hcx : cap ≤ 9223372036854775807 := by simpa [maxLen] using hcm
    have hg' : g' < w'.heap.size := (Array.getElem?_eq_some_iff.1 hgc).1
    have hnF : ¬ F g' := by
      intro hf
      rcases hat with h | h
      · exact (hrow g' (by rw [← h]; rfl)).1 hf
      · have : g' = w.heap.size := by simpa [Value.ownBlock] using h
        have := S.flt g' hf
        omega
    have hap : ∀ b k l, β b = some k → m b = some (some l) → l.g ≠ g' := by
      intro b k l hbk hl e
      rcases hat with h | h
      · exact (hrow g' (by rw [← h]; rfl)).2.2 b k l hbk hl e
      · have : g' = w.heap.size := by simpa [Value.ownBlock] using h
        have := (S.old hbk hl).1
        omega
    have hown : w0.own g' := by
      rcases hat with h | h
      · exact (hrow g' (by rw [← h]; rfl)).2.1
      · have : g' = w.heap.size := by simpa [Value.ownBlock] using h
        rw [this]
        exact .inl S.keeps.size
    have hext := Map.add_ext (l := some ⟨g', cur.size⟩) hm
    refine ⟨m.add B (some ⟨g', cur.size⟩), ?_, ?_⟩
    · refine S1.add hext (Keeps.refl _ _) (fun _ h => h) (fun _ h => .inl h) S1.flt (fun p hp => ?_) (fun p hp q hq hne => ?_) (hdom _) (fun p hp => ?_)
      · simp at hp; subst hp
        refine ⟨.inr ⟨g', cur.size, cur, Map.add_same _ _ _, hnF, hown, hgc, rfl, (fun h => by cases h), ?_, fun i u hu => ?_⟩, fun l hl => ?_⟩
        · show (x.app y).vals.length ≤ cur.size
          rw [hlen, hcs]; exact Nat.mul_le_mul_right _ hnc
        · have hi : i < (N + N') * z := by rw [← hlen]; exact lt_of_get hu
          have hcur : cur.getD i undef = (xs ++ news).getD i undef := by
            rw [← htake, List.getD_eq_getElem?_getD, List.getElem?_take, if_pos hi, Array.getElem?_toList, Array.getD_eq_getD_getElem?]
          simp only at hu ⊢
          rw [hcur]
          rw [Cont.app_vals] at hu
          have up : ∀ {u : LV} {v : Value}, Rep F w m u v → Rep F w' (m.add B (some ⟨g', cur.size⟩)) u v := fun h => h.mono (fun _ h => h) hF _ hext
          by_cases h1 : i < x.vals.length
          · rw [List.getElem?_append_left h1] at hu
            have := up (hx i u hu)
            rw [List.getD_eq_getElem?_getD, List.getElem?_append_left (by omega), ← List.getD_eq_getElem?_getD]
            exact this
          · rw [List.getElem?_append_right (by omega)] at hu
            have := up (hy _ u hu)
            rw [List.getD_eq_getElem?_getD, List.getElem?_append_right (by omega), ← List.getD_eq_getElem?_getD, hxsl]
            exact this
        · simp only [Map.add_same, Option.some.injEq] at hl
          subst hl
          exact fun b k l' hbk hl' => hap b k l' hbk hl'
      · simp at hp hq; subst hp; subst hq; exact absurd rfl hne
      · simp at hp; subst hp; exact hid
    · exact .sl _ _ _ _ _ _ g' cur.size _ _ (Map.add_same _ _ _) (.inl rfl) hnc (fun k hk => by cases hk) (fun _ => by rw [hcs]; omega) hcx

theorem wp_skip' {o : Oper} {w' : World} {K : Act → World → Prop} {Q : Exit → Act → World → Prop} (h : (execOp a.eval o).run P w = .ok .skip w') (hK : K (a.put o.dst undef) w') : o.wp P a w K Q := by
  unfold Oper.wp
  rw [h]
  exact hK
theorem undef_rep {F : Nat → Prop} {w : World} {m : Map} : Rep F w m noVal undef := .tup _ _ _ rfl (fun i u hu => by simp at hu)

/-- Cells in the program's order. -/
def cellsL (cs : Nat → Value) (k : Nat) : List Value := (List.range k).map cs
theorem cellsL_len (cs : Nat → Value) (k : Nat) : (cellsL cs k).length = k := by simp [cellsL]
theorem cellsL_get (cs : Nat → Value) (k i : Nat) (h : i < k) : (cellsL cs k).getD i undef = cs i := by simp [cellsL, h]

theorem opStore_ok (hT : ∀ t i, E.T t = some i → tiOf P t = some i) (S : SR A w0 n m F ρ β a w) {o : Oper} {t : Nat} {x y : Operand} (hop : o.op = .store t x y) {lp lu : LV} (hp : Rep F w m lp (a.eval x)) (hu : Rep F w m lu (a.eval y)) {p : Upd}
    (h : opStore E β t lp lu = some p) {Q : Exit → Act → World → Prop} : o.wp P a w (MPost A w0 n ρ β o p) Q := by
  unfold opStore at h
  split at h
  · rename_i b off
    split at h
    · rename_i ti yc k hti hyc hk
      obtain ⟨i, d', hi, hd, _, hs, _, _, _⟩ := tiOf_spec (hT _ _ hti)
      split at h
      · rename_i hlen
        split at h
        · rename_i x' hx'
          cases h
          have hlay := layOne_vals (x := k.x) (y := yc) (o := off) hx'
          obtain ⟨c1, c2, c3⟩ := cells_rep hu hyc
          generalize hpe : a.eval x = vp at hp
          cases hp with
          | ptr _ _ _ g s hm =>
            obtain ⟨cs, b1, b2, b3, b4⟩ := blk_cells (S.blks _ _ hk) hm
            obtain ⟨l1, l2, l3⟩ := lay_cells (F := F) (w := w) (m := m) (cs := cs) (vs := (a.eval y).cells.toList) (off := off) b4.2 (by omega) (by simpa using c1) (fun i u hu => by
              have := c2 i u hu
              rwa [Array.getD_eq_getD_getElem?, ← Array.getElem?_toList, ← List.getD_eq_getElem?_getD] at this) hlay
            have hone : ∀ v ∈ (a.eval y).cells.toList, v.oneCell' = true := by
              intro v hv
              obtain ⟨i, hi, rfl⟩ := List.getElem_of_mem hv
              have hi' : i < yc.vals.length := by rw [← c1]; simpa using hi
              obtain ⟨u, hu⟩ := getL_of hi'
              have h1 := c2 i u hu
              have h2 := c3 i u hu
              have e : (a.eval y).cells.getD i undef = (a.eval y).cells.toList[i] := by
                rw [Array.getD_eq_getD_getElem?, ← Array.getElem?_toList, List.getElem?_eq_getElem hi]; rfl
              rw [e] at h1
              exact h1.one h2
            have hfit : off + 0 + (a.eval y).cells.toList.length ≤ cs.size := by
              have := hlay.1
              simp only [Array.length_toList, c1]
              omega
            have hst := run_storeCells_at P g off k.e (a.eval y).cells.toList 0 cs w b1 hfit hone
            simp only [Nat.add_zero] at hst
            have hsz : ¬ (a.eval y).cells.size ≠ i.size := by rw [c1, ← Cont.len_vals, hlen, hs]; simp
            refine wp_skip' (w' := w.setRow g ((cs.toList.take off ++ (a.eval y).cells.toList ++ cs.toList.drop (off + (a.eval y).cells.toList.length)).toArray)) ?_ ?_
            · simp only [execOp, hop, Instr.storeAt, hpe, Instr.sureAddr, storeVar, Sem.run_bind, Sem.run_pure, Result.andThen_ok, run_sizeOfI hi, if_neg hsz, hst]
            · refine ⟨m, F, ?_⟩
              have hS := S.write hk hm (x := x') (cs' := (cs.toList.take off ++ (a.eval y).cells.toList ++ cs.toList.drop (off + (a.eval y).cells.toList.length)).toArray) (by rw [l2, b2]) l1 l3
              exact hS.put o.dst undef_rep
        · cases h
      · cases h
    · cases h
  · cases h
end
end Go.Proofs.YtdeigmjbcbjgeaaGreatDoor
