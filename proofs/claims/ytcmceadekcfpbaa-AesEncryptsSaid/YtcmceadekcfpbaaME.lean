/-
  The machine of plain values: append, copy.
-/
import Derived.Test.YtcmceadekcfpbaaMD
namespace Go.Proofs.Ytcmceadekcfpbaa
open Go.RowKit

section
variable {P : Program} {E : Env} {A : Nat → Prop} {w0 : World} {n : Nat} {m : Map} {F : Nat → Prop} {ρ : Nat → LV} {β : Nat → Option Blk} {a : Act} {w : World}

theorem appOk_of {z z' by_ cnt : Nat} {zc : Cont} (h : appOk z z' by_ cnt zc = true) : z = z' ∧ cnt * by_ ≤ 140737488355328 ∧ cnt ≤ 9223372036854775807 ∧ 0 < z ∧ zc.len = z := by
  simp only [appOk, Bool.and_eq_true, decide_eq_true_eq] at h
  exact ⟨h.1.1.1.1, h.1.1.1.2, h.1.1.2, h.1.2, h.2⟩
theorem free_ment {B : Nat} {x : Cont} (h : x.free B = true) {i : Nat} {u : LV} (hu : x.vals[i]? = some u) : u.ment B mentD = false := by
  cases x with
  | flat k l => obtain ⟨q, rfl⟩ := flat_leaf hu; rfl
  | gen l =>
    have := all_true (l := l) (p := fun u => !u.ment B mentD) h hu
    simpa using this

/-- The cells that are appended. -/
structure News (F : Nat → Prop) (w : World) (m : Map) (z cnt : Nat) (y : Cont) (v : Value) (news : List Value) : Prop where
  len : y.vals.length = cnt * z
  nlen : news.length = cnt * z
  rep : ∀ (i : Nat) (u : LV), y.vals[i]? = some u → Rep F w m u (news.getD i undef)
  one : ∀ u ∈ news, u.oneCell' = true
  val : (cnt = 0 ∧ v = .slice none 0 0) ∨ ∃ ad c, v = .slice (some ad) cnt c ∧ ∀ j u, news[j]? = some u → w.cell? (ad.add j) = some u
theorem news_of {base : Nat} (hB : ∀ b k, β b = some k → BlkOk F base w m b k) {z cnt : Nat} {u : LV} {v : Value} {y : Cont} (hr : Rep F w m u v) (h : shown β z u = some (y, cnt)) (hlv : y.leaves = true) :
    ∃ news, News F w m z cnt y v news := by
  obtain ⟨ad, c, f, rfl, hlen, hnone, hc⟩ := shown_ok hB hr h
  have hrep : y.vals = [] ∨ ∀ (i : Nat) (u : LV), y.vals[i]? = some u → Rep F w m u (f i) := by
    rcases hc with h | ⟨g, o, _, hc⟩
    · exact .inl h
    · exact .inr hc.2
  have hrep' : ∀ (i : Nat) (u : LV), y.vals[i]? = some u → Rep F w m u ((cellsL f (cnt * z)).getD i undef) := by
    intro i u hu
    rcases hrep with h | h
    · rw [h] at hu; simp at hu
    · rw [cellsL_get f _ _ (by rw [← hlen]; exact lt_of_get hu)]; exact h i u hu
  refine ⟨cellsL f (cnt * z), hlen, cellsL_len _ _, hrep', fun v hv => ?_, ?_⟩
  · obtain ⟨i, hi, rfl⟩ := List.getElem_of_mem hv
    have hi' : i < y.vals.length := by rw [hlen]; simpa [cellsL_len] using hi
    obtain ⟨u, hu⟩ := getL_of hi'
    have h1 := hrep' i u hu
    rw [List.getD_eq_getElem?_getD, List.getElem?_eq_getElem hi] at h1
    exact Rep.one (v := (cellsL f (cnt * z))[i]) h1 (leaves_leaf hlv hu)
  · rcases ad with _ | ad
    · obtain ⟨rfl, rfl⟩ := hnone rfl
      exact .inl ⟨rfl, rfl⟩
    · refine .inr ⟨ad, c, rfl, fun j u hu => ?_⟩
      have hj : j < cnt * z := by have := lt_of_get hu; simpa [cellsL_len] using this
      have hu' : u = f j := by
        have := cellsL_get f _ _ hj
        rw [List.getD_eq_getElem?_getD, hu] at this
        simpa using this
      rcases hc with h | ⟨g, o, e, hc⟩
      · rw [h] at hlen; simp at hlen; omega
      · cases e
        rw [add_block_none, hu']
        exact hc.1 j (by omega)

theorem run_append_any {t ty e : Nat} {i : TypeInfo} {zv : Value} {z by_ : Nat} (ht : P.underlying t = some (.slice e)) (hi : P.info? e = some i) (hz : i.zero = some zv) (hsize : i.size = z) (hby : i.bytes = by_) (hzs : zv.cells.size = z) (hz0 : 0 < z)
    {base : Nat} {v : Value} {N cnt : Nat} {xs news : List Value} {y : Cont} {vx : Value} (hown : w.ownsRow base e z v N xs) (hn : News F w m z cnt y vx news) (h63 : N + cnt ≤ 9223372036854775807) (hb : (N + cnt) * by_ ≤ 140737488355328) (hbase : base ≤ w.heap.size) :
    ∃ v' w', (Builtin.append_ #[t, t] ty #[v, vx]).run P w = .ok v' w' ∧ w'.ownsRow base e z v' (N + cnt) (xs ++ news) ∧ w.grownBy w' v.ownBlock ∧ (v'.ownBlock = v.ownBlock ∨ v'.ownBlock = some w.heap.size) := by
  rcases hn.val with ⟨rfl, rfl⟩ | ⟨ad, c, rfl, hcell⟩
  · have hnil : news = [] := List.eq_nil_of_length_eq_zero (by rw [hn.nlen]; simp)
    subst hnil
    exact ⟨v, w, run_append_owned_none (P := P) (w := w) base t ty e i z ht hi v N xs hown, by simpa using hown, ⟨rfl, rfl, rfl, Nat.le_refl _, fun _ _ _ => rfl⟩, .inl rfl⟩
  · obtain ⟨v', w', h1, h2, h3, _, h4⟩ := run_append_own_at (P := P) w base t ty e i zv z by_ ht hi hz hsize hby hzs hz0 v N xs hown ad cnt c news hn.nlen hcell hn.one (by simpa [maxLen] using h63) hb hbase
    exact ⟨v', w', h1, h2, h3, h4⟩

/-- The state ahead of a new block 8 d. -/
theorem SR.fresh (S : SR A w0 n m F ρ β a w) (d : Nat) (u : LV) (bs : List (Nat × Blk)) : ∃ m1 F1, SR A w0 n m1 F1 (preR ρ β ⟨none, newB β d, u, bs⟩) (preB β ⟨none, newB β d, u, bs⟩) a w ∧ preB β ⟨none, newB β d, u, bs⟩ (8 * d) = none ∧ (∀ g, F g → F1 g) ∧
    ∀ {x : LV} {v : Value}, Rep F w m x v → ((newB β d).isNone = true ∨ x.ment (8 * d) mentD = false) → Rep F1 w m1 x v := by
  rcases hk : β (8 * d) with _ | k
  · have e : newB β d = none := by simp [newB, hk]
    rw [e]
    exact ⟨m, F, S, hk, fun _ h => h, fun h _ => h⟩
  · have e : newB β d = some (8 * d) := by simp [newB, hk]
    rw [e]
    simp only [preR, preB, hk]
    refine ⟨_, _, S.calm hk, by simp [calmβ], fun _ h => .inl h, fun h hc => ?_⟩
    rcases hc with hc | hc
    · simp at hc
    · exact (h.del _ _ hc).mono (fun _ h => .inl h) (fun _ _ => rfl) _ (fun _ _ h => h)

theorem fin_append {o : Oper} {t : Nat} {x y : Operand} {p : Upd} {Q : Exit → Act → World → Prop} (hop : o.op = .call { callee := .builtin .append, args := #[x, y], argTypes := #[t, t] }) {v' : Value} {w' : World}
    (hrun : (Builtin.append_ #[t, t] o.type #[a.eval x, a.eval y]).run P w = .ok v' w') {m' : Map} {F' : Nat → Prop} (hS : SR A w0 n m' F' (preR ρ β p) (updBs (preB β p) p.bs) a w') (hv : Rep F' w' m' p.u v') : o.wp P a w (MPost A w0 n ρ β o p) Q := by
  refine wp_value (v := v') (w' := w') ?_ ⟨m', F', hS.put o.dst hv⟩
  simp only [execOp, hop, resolve, invoke, builtin, Sem.run_bind, Sem.run_pure, Result.andThen_ok, List.map_toArray, List.map_cons, List.map_nil, hrun]

/-- A block's cells spelled otherwise. -/
theorem SR.same (S : SR A w0 n m F ρ β a w) {b : Nat} {k : Blk} {x : Cont} (hk : β b = some k) (hx : x.vals = k.x.vals) : SR A w0 n m F ρ (updBs β [(b, ⟨x, k.e, k.spare⟩)]) a w := by
  have hcase : ∀ b' k', updBs β [(b, ⟨x, k.e, k.spare⟩)] b' = some k' → (b' = b ∧ k' = ⟨x, k.e, k.spare⟩) ∨ (b' ≠ b ∧ β b' = some k') := by
    intro b' k' h
    simp only [updBs] at h
    split at h
    · rename_i e; cases h; exact .inl ⟨e.symm, rfl⟩
    · rename_i e; exact .inr ⟨fun h => e h.symm, h⟩
  have hsome : ∀ b' k', updBs β [(b, ⟨x, k.e, k.spare⟩)] b' = some k' → ∃ k'', β b' = some k'' := by
    intro b' k' h
    rcases hcase b' k' h with ⟨rfl, _⟩ | ⟨_, h⟩
    · exact ⟨_, hk⟩
    · exact ⟨_, h⟩
  refine ⟨S.size, S.slots, fun b' k' h => ?_, fun b1 b2 k1 k2 l l' h1 h2 hne hl hl' => ?_, S.dfr, S.keeps, S.flt, S.sub, S.sup, fun b' h => S.dom b' (updBs_none _ _ _ h).1⟩
  · rcases hcase b' k' h with ⟨rfl, rfl⟩ | ⟨_, h⟩
    · rcases S.blks b' k hk with ⟨q1, q2, q3⟩ | ⟨g, s, cs, q1, q2, q3, q4, q5, q6, q7, q8⟩
      · exact .inl ⟨q1, by simp only [hx]; exact q2, q3⟩
      · exact .inr ⟨g, s, cs, q1, q2, q3, q4, q5, by simp only [hx]; exact q6, by simp only [hx]; exact q7, by simp only [hx]; exact q8⟩
    · exact S.blks b' k' h
  · obtain ⟨k1', e1⟩ := hsome _ _ h1
    obtain ⟨k2', e2⟩ := hsome _ _ h2
    exact S.sep b1 b2 k1' k2' l l' e1 e2 hne hl hl'

/-- append where there is no room: a new block. -/
theorem app_over (S : SR A w0 n m F ρ β a w) {o : Oper} {t d e : Nat} {x y : Operand} (hop : o.op = .call { callee := .builtin .append, args := #[x, y], argTypes := #[t, t] })
    {i : TypeInfo} {zv : Value} {z by_ N cnt c' : Nat} (ht : P.underlying t = some (.slice e)) (hi : P.info? e = some i) (hz : i.zero = some zv) (hsize : i.size = z) (hby : i.bytes = by_) (hzs : zv.cells.size = z) (hz0 : 0 < z)
    {ad : Option Addr} {olds news : List Value} {xc yc : Cont} (hn : News F w m z cnt yc (a.eval y) news) (hve : a.eval x = .slice ad N c') (hno : ad = none → N = 0 ∧ c' = 0) (hover : c' < N + cnt)
    (hxl : xc.vals.length = N * z) (hol : olds.length = N * z) (hxr : ∀ (i : Nat) (u : LV), xc.vals[i]? = some u → Rep F w m u (olds.getD i undef)) (hoc : ∀ ad', ad = some ad' → ∀ j u, olds[j]? = some u → w.cell? (ad'.add j) = some u)
    (hfr : (newB β d).isNone = true ∨ (xc.free (8 * d) = true ∧ yc.free (8 * d) = true)) (hb : (N + cnt) * by_ ≤ 140737488355328) (hc3 : N + cnt ≤ 9223372036854775807) (hle : N ≤ c') {Q : Exit → Act → World → Prop} :
    o.wp P a w (MPost A w0 n ρ β o ⟨none, newB β d, .sl z (8 * d) 0 (N + cnt) none, [(8 * d, ⟨xc.app yc, e, true⟩)]⟩) Q := by
  have hbase := S.keeps.size
  obtain ⟨m1, F1, S1, hfree, hF1, hup⟩ := S.fresh d (.sl z (8 * d) 0 (N + cnt) none) [(8 * d, ⟨xc.app yc, e, true⟩)]
  have hxr1 : ∀ (i : Nat) (u : LV), xc.vals[i]? = some u → Rep F1 w m1 u (olds.getD i undef) := fun i u hu => hup (hxr i u hu) (hfr.imp id (fun h => free_ment h.1 hu))
  have hyr1 : ∀ (i : Nat) (u : LV), yc.vals[i]? = some u → Rep F1 w m1 u (news.getD i undef) := fun i u hu => hup (hn.rep i u hu) (hfr.imp id (fun h => free_ment h.2 hu))
  rcases ad with _ | ad
  · obtain ⟨rfl, rfl⟩ := hno rfl
    have ho0 : olds = [] := List.eq_nil_of_length_eq_zero (by rw [hol]; simp)
    subst ho0
    obtain ⟨v', w', hrun, ho, hg, hat⟩ := run_append_any (P := P) (ty := o.type) (N := 0) (xs := []) ht hi hz hsize hby hzs hz0 (World.ownsRow_nil w w0.heap.size e z) hn hc3 hb hbase
    obtain ⟨m', hS, hv⟩ := S1.appended (B := 8 * d) (x := xc) (y := yc) hfree (fun g hg => by simp [Value.ownBlock] at hg) hg ho hat hxl hn.len (by rw [hxl]; simp) hxr1 hyr1
    exact fin_append hop (by rw [hve]; exact hrun) hS hv
  · rcases hn.val with ⟨h0, _⟩ | ⟨ad2, c2', hvy, hcell⟩
    · omega
    · have hfit := growslice_fits (need := N + cnt) (old := c') (bytes := i.bytes) (by omega) (by rw [hby]; exact hb)
      have hrun := run_append_grow (P := P) w t o.type e i zv ht hi hz ad N c' olds (by rw [hol, hsize]) (hoc ad rfl) ad2 cnt c2' news (by rw [hn.nlen, hsize]) hcell hover (by omega) hfit
      have hge := grownCap_ge w (N + cnt) c' e
      have hcm := grownCap_le_maxLen w (N + cnt) c' e (by simpa [maxLen] using hc3)
      have hlen : (olds ++ news).length = (N + cnt) * z := by rw [List.length_append, hol, hn.nlen, Nat.add_mul]
      have hg : w.grownBy (w.drew.alloc (.cells (olds.toArray ++ news.toArray ++ Builtin.zeroCells zv.cells (grownCap w (N + cnt) c' e - (N + cnt))) e)) (Value.ownBlock (.slice none 0 0)) :=
        ⟨rfl, rfl, rfl, by simp, fun k hk _ => heap_alloc_old w.drew _ hk⟩
      have ho : (w.drew.alloc (.cells (olds.toArray ++ news.toArray ++ Builtin.zeroCells zv.cells (grownCap w (N + cnt) c' e - (N + cnt))) e)).ownsRow w0.heap.size e z (.slice (some ⟨w.heap.size, 0, none⟩) (N + cnt) (grownCap w (N + cnt) c' e)) (N + cnt) (olds ++ news) := by
        refine ⟨hlen, .inr ⟨w.heap.size, _, _, rfl, hbase, heap_alloc_new w.drew _, hge, hcm, ?_, ?_⟩⟩
        · simp only [Array.size_append, List.size_toArray, size_zeroCells, hzs, hol, hn.nlen, ← Nat.add_mul]
          congr 1
          omega
        · simp only [Array.toList_append, List.append_assoc]
          rw [← List.append_assoc, ← hlen]
          exact List.take_left
      obtain ⟨m', hS, hv⟩ := S1.appended (B := 8 * d) (x := xc) (y := yc) hfree (fun g hg => by simp [Value.ownBlock] at hg) hg ho (.inr rfl) hxl hn.len (by rw [hol, hxl]) hxr1 hyr1
      exact fin_append hop (by rw [hve, hvy]; exact hrun) hS hv

theorem opAppend_ok (hT : ∀ t i, E.T t = some i → tiOf P t = some i) (S : SR A w0 n m F ρ β a w) {o : Oper} {t d : Nat} {x y : Operand} (hop : o.op = .call { callee := .builtin .append, args := #[x, y], argTypes := #[t, t] }) 
    {ls ly : LV} (hs : Rep F w m ls (a.eval x)) (hy : Rep F w m ly (a.eval y)) {p : Upd} (h : opAppend E β d t ls ly = some p) {Q : Exit → Act → World → Prop} : o.wp P a w (MPost A w0 n ρ β o p) Q := by
  unfold opAppend at h
  split at h
  case h_2 => cases h
  rename_i e0 z0 _ _ _ _ hti0
  split at h
  case h_2 => cases h
  rename_i yc cnt hsh
  split at h
  case isFalse => cases h
  rename_i hlv
  obtain ⟨news, hn⟩ := news_of S.blks hy hsh hlv
  unfold appX at h
  rw [hti0] at h
  simp only at h
  split at h
  case h_2 => cases h
  rename_i by_ _ zc hte
  obtain ⟨it, dt, hit, hdt, htd, _, _, _, _⟩ := tiOf_spec (hT _ _ hti0)
  obtain ⟨rfl, j, hj, hjs⟩ := td_slice htd
  obtain ⟨i2, d2, hi2, hd2, _, _, hb2, _, hz2⟩ := tiOf_spec (hT _ _ hte)
  rw [hj] at hi2
  cases hi2
  obtain ⟨zv, hzv, hzc⟩ := hz2 zc rfl
  simp only at hb2
  have hzs : zc.len = z0 → zv.cells.size = z0 := fun h => by
    have := (zero_rep (F := F) (w := w) (m := m) hzc).1
    rw [this, ← Cont.len_vals, h]
  have hbase := S.keeps.size
  split at h
  · -- onto nothing
    split at h
    case isFalse => cases h
    rename_i hc
    obtain ⟨hc, hfr⟩ := hc
    obtain ⟨_, c2, c3, c4, c5⟩ := appOk_of hc
    cases h
    generalize hve : a.eval x = vs at hs
    cases hs
    obtain ⟨m1, F1, S1, hfree, hF1, hup⟩ := S.fresh d (.sl z0 (8 * d) 0 cnt none) [(8 * d, ⟨yc, e0, true⟩)]
    obtain ⟨v', w', hrun, ho, hg, hat⟩ := run_append_any (P := P) (ty := o.type) (N := 0) (xs := []) hdt hj hzv hjs hb2.symm (hzs c5) c4 (World.ownsRow_nil w w0.heap.size e0 z0) hn (by omega) (by simpa using c2) hbase
    obtain ⟨m', hS, hv⟩ := S1.appended (B := 8 * d) (x := .gen []) (y := yc) hfree (fun g hg => by simp [Value.ownBlock] at hg) hg ho hat (by simp [Cont.vals]) hn.len rfl (fun i u hu => by simp [Cont.vals] at hu) (fun i u hu => hup (hn.rep i u hu) (by
      simp only [Bool.or_eq_true] at hfr
      exact hfr.imp id (fun h => free_ment h hu)))
    have happ : (Cont.gen []).app yc = yc := by cases yc <;> rfl
    rw [happ] at hS
    rw [Nat.zero_add] at hv
    refine fin_append hop (by rw [hve]; exact hrun) hS hv
  · -- onto a row of the call's own
    rename_i z' b N
    split at h
    case h_2 => cases h
    rename_i k hk
    split at h
    case isFalse => cases h
    rename_i hc
    obtain ⟨hc, hkl, hsp, hke, hf1, hf2⟩ := hc
    obtain ⟨rfl, c2, c3, c4, c5⟩ := appOk_of hc
    cases h
    rw [Cont.len_vals] at hkl
    have hup : ∀ {B : Nat} {u : LV} {v : Value}, Rep F w m u v → u.ment B mentD = false → Rep F w (m.del B) u v := fun h hm => h.del _ _ hm
    generalize hve : a.eval x = vs at hs
    have hrow : ∃ xs, w.ownsRow w0.heap.size e0 z0 vs N xs ∧ xs.length = k.x.vals.length ∧ (∀ (i : Nat) (u : LV), k.x.vals[i]? = some u → Rep F w (m.del b) u (xs.getD i undef)) ∧
        ∀ g, vs.ownBlock = some g → ¬ F g ∧ w0.heap.size ≤ g ∧ ∀ b' k' l, loseβ β b b' = some k' → (m.del b) b' = some (some l) → l.g ≠ g := by
      cases hs with
      | sl _ _ _ _ _ _ g s ad c' hm ha hn' hkk hss hx =>
        have ha : ad = ⟨g, 0, none⟩ := by rcases ha with h | ⟨_, h, _⟩; exact h; omega
        subst ha
        have hs1 := hss rfl
        obtain ⟨cs, b1, b2, b3, b4⟩ := blk_cells (S.blks _ _ hk) hm
        obtain ⟨o1, o2, o3⟩ := S.old hk hm
        refine ⟨cs.toList.take (N * z0), ⟨by simp; omega, .inr ⟨g, c', cs, rfl, o3, by rw [← hke]; exact b1, hn', by simpa [maxLen] using hx, by omega, rfl⟩⟩, by simp; omega, fun i u hu => ?_, fun g' hg' => ?_⟩
        · have hi : i < N * z0 := by rw [← hkl]; exact lt_of_get hu
          have := hup (B := b) (b4.2 i u hu) (free_ment hf1 hu)
          rw [List.getD_eq_getElem?_getD, List.getElem?_take, if_pos hi, Array.getElem?_toList, ← Array.getD_eq_getD_getElem?]
          exact this
        · have e : g = g' := by simpa [Value.ownBlock] using hg'
          subst e
          refine ⟨o2, o3, fun b' k' l hb' hl e => ?_⟩
          unfold loseβ at hb'
          split at hb'
          · cases hb'
          · rename_i hne
            rw [Map.del_of hne] at hl
            rcases hq : β b' with _ | k''
            · rw [hq] at hb'; cases hb'
            · exact S.sep b' b k'' k l _ hq hk hne hl hm e
      | slNil _ _ _ _ hm hkk =>
        have hk0 : k.x.vals = [] := List.eq_nil_of_length_eq_zero (by rw [hkl]; simp)
        exact ⟨[], World.ownsRow_nil _ _ _ _, by rw [hk0]; rfl, fun i u hu => by rw [hk0] at hu; simp at hu, fun g hg => by simp [Value.ownBlock] at hg⟩
    obtain ⟨xs, hown, hxl, hxr, hrw⟩ := hrow
    obtain ⟨v', w', hrun, ho, hg, hat⟩ := run_append_any (P := P) (ty := o.type) hdt hj hzv hjs hb2.symm (hzs c5) c4 hown hn (by omega) c2 hbase
    obtain ⟨m', hS, hv⟩ := (S.lose b).appended (B := b) (x := k.x) (y := yc) (by simp [loseβ]) hrw hg ho hat hkl hn.len hxl hxr (fun i u hu => hup (hn.rep i u hu) (free_ment hf2 hu))
    exact fin_append hop (by rw [hve]; exact hrun) hS hv
  · -- a slice whose room is known
    rename_i z' b N c
    split at h
    case h_2 => cases h
    rename_i k hk
    split at h
    case isFalse => cases h
    rename_i hc
    obtain ⟨hc, hke⟩ := hc
    obtain ⟨rfl, c2, c3, c4, c5⟩ := appOk_of hc
    generalize hve : a.eval x = vs at hs
    split at h
    · rename_i hroom
      split at h
      case h_2 => cases h
      rename_i x' hx'
      cases h
      have hlay := layOne_vals (x := k.x) (y := yc) (o := N * z0) hx'
      cases hs with
      | sl _ _ _ _ _ _ g s ad c' hm ha hn' hkk hss hx =>
        have ha : ad = ⟨g, 0, none⟩ := by rcases ha with h | ⟨_, h, _⟩; exact h; omega
        subst ha
        have hcc := hkk c rfl
        subst hcc
        obtain ⟨cs, b1, b2, b3, b4⟩ := blk_cells (S.blks _ _ hk) hm
        have hrep : Rep F w m (.sl z0 b 0 (N + cnt) (some c')) (.slice (some ⟨g, 0, none⟩) (N + cnt) c') := .sl _ _ _ _ _ _ g s _ _ hm (.inl rfl) hroom (fun k hk => by cases hk; rfl) (fun hc => by cases hc) hx
        rcases hn.val with ⟨rfl, hvy⟩ | ⟨ad2, c2', hvy, hcell⟩
        · have hy0 : yc.vals = [] := List.eq_nil_of_length_eq_zero (by rw [hn.len]; simp)
          have hrun : (Builtin.append_ #[t, t] o.type #[.slice (some ⟨g, 0, none⟩) N c', a.eval y]).run P w = .ok (.slice (some ⟨g, 0, none⟩) N c') w := by
            rw [hvy]
            simp [Builtin.append_, run_underlying hdt, sizeOf, typeInfo, hj, Builtin.lenOf, hn', Builtin.firstCells, storeCells]
          refine fin_append hop (by rw [hve]; exact hrun) (S.same hk (x := x') ?_) hrep
          rw [hlay.2, hy0]; simp
        · obtain ⟨l1, l2, l3⟩ := lay_cells (F := F) (w := w) (m := m) (cs := cs) (vs := news) (off := N * z0) b4.2 (by omega) (by rw [hn.nlen, hn.len]) hn.rep hlay
          have hrun := run_append_room (P := P) w t o.type e0 j hdt hj g N c' cs (by rw [← hke]; exact b1) ad2 cnt c2' news (by rw [hn.nlen, hjs]) hcell hn.one hroom (by rw [hjs, hn.nlen, ← hn.len]; have := hlay.1; omega)
          rw [hjs] at hrun
          have hS := S.write hk hm (x := x') (by rw [l2, b2]) l1 l3
          refine fin_append hop (by rw [hve, hvy]; exact hrun) hS ?_
          exact .sl _ _ _ _ _ _ g s _ _ hm (.inl rfl) hroom (fun k hk => by cases hk; rfl) (fun hc => by cases hc) hx
      | slNil _ _ _ _ hm hkk =>
        have hc0 := hkk c rfl
        subst hc0
        have hcnt : cnt = 0 := by omega
        subst hcnt
        have hy0 : yc.vals = [] := List.eq_nil_of_length_eq_zero (by rw [hn.len]; simp)
        obtain ⟨v', w', hrun, ho, hg, hat⟩ := run_append_any (P := P) (ty := o.type) (N := 0) (xs := []) hdt hj hzv hjs hb2.symm (hzs c5) c4 (World.ownsRow_nil w w0.heap.size e0 z0) hn (by omega) (by simp) hbase
        have hrun' : (Builtin.append_ #[t, t] o.type #[.slice none 0 0, a.eval y]).run P w = .ok (.slice none 0 0) w := by
          rcases hn.val with ⟨_, hvy⟩ | ⟨ad2, c2', hvy, hcell⟩
          · rw [hvy]
            simp [Builtin.append_, run_underlying hdt, sizeOf, typeInfo, hj, Builtin.lenOf, Builtin.firstCells]
          · rw [hvy]
            simp [Builtin.append_, run_underlying hdt, sizeOf, typeInfo, hj, Builtin.lenOf, Builtin.firstCells, loadCells, loadCellsFrom]
        refine fin_append hop (by rw [hve]; exact hrun') (S.same hk (x := x') ?_) (.slNil _ _ _ _ hm (fun k hk => by cases hk; rfl))
        rw [hlay.2, hy0]; simp
    · rename_i hroom
      split at h
      case h_2 => cases h
      rename_i x' hx'
      split at h
      case isFalse => cases h
      rename_i hfr
      cases h
      obtain ⟨k1, k2⟩ := Cont.cut_vals hx'
      rw [Nat.zero_add] at k1
      have hxl : x'.vals.length = N * z0 := by rw [k2]; simp; omega
      have hfr' : (newB β d).isNone = true ∨ (x'.free (8 * d) = true ∧ yc.free (8 * d) = true) := by simpa [Bool.or_eq_true, Bool.and_eq_true] using hfr
      cases hs with
      | sl _ _ _ _ _ _ g s ad c' hm ha hn' hkk hss hx =>
        have ha : ad = ⟨g, 0, none⟩ := by rcases ha with h | ⟨_, h, _⟩; exact h; omega
        subst ha
        have hcc := hkk c rfl
        subst hcc
        obtain ⟨cs, b1, b2, b3, b4⟩ := blk_cells (S.blks _ _ hk) hm
        refine app_over S hop hdt hj hzv hjs hb2.symm (hzs c5) c4 (olds := cs.toList.take (N * z0)) hn hve (fun h => by cases h) (by omega) hxl (by simp; omega) (fun i u hu => ?_) (fun ad' had j u hu => ?_) hfr' c2 c3 hn'
        · rw [k2, List.drop_zero, List.getElem?_take] at hu
          split at hu
          · rename_i hi
            rw [List.getD_eq_getElem?_getD, List.getElem?_take, if_pos hi, Array.getElem?_toList, ← Array.getD_eq_getD_getElem?]
            exact b4.2 i u hu
          · cases hu
        · cases had
          rw [List.getElem?_take] at hu
          split at hu
          · rw [add_block_none, Nat.zero_add, cell_of_row w g j cs k.e (0, 0) b1]
            simpa using hu
          · cases hu
      | slNil _ _ _ _ hm hkk =>
        have hc0 := hkk c rfl
        subst hc0
        have hx0 : x'.vals = [] := List.eq_nil_of_length_eq_zero (by rw [hxl]; simp)
        exact app_over S hop hdt hj hzv hjs hb2.symm (hzs c5) c4 (olds := []) hn hve (fun _ => ⟨rfl, rfl⟩) (by omega) hxl (by simp) (fun i u hu => by rw [hx0] at hu; simp at hu) (fun ad' had => by cases had) hfr' c2 c3 (Nat.le_refl _)
  · -- a slice that stays
    rename_i z' N c x'
    split at h
    case isFalse => cases h
    rename_i hc
    obtain ⟨hc, hroom, hfr⟩ := hc
    obtain ⟨rfl, c2, c3, c4, c5⟩ := appOk_of hc
    cases h
    have hfr' : (newB β d).isNone = true ∨ (x'.free (8 * d) = true ∧ yc.free (8 * d) = true) := by simpa [Bool.or_eq_true, Bool.and_eq_true] using hfr
    generalize hve : a.eval x = vs at hs
    cases hs with
    | im _ _ _ _ _ ad c' f hl hn' hk ha hm hrr =>
      have hcc := hk c rfl
      subst hcc
      refine app_over S hop hdt hj hzv hjs hb2.symm (hzs c5) c4 (olds := cellsL f (N * z0)) hn hve ha (by omega) hl (cellsL_len _ _) (fun i u hu => ?_) (fun ad' had j u hu => ?_) hfr' c2 c3 hn'
      · rw [cellsL_get f _ _ (by rw [← hl]; exact lt_of_get hu)]
        exact (hrr i u hu).noMap_up m
      · have hj : j < N * z0 := by have := lt_of_get hu; simpa [cellsL_len] using this
        have hu' : u = f j := by
          have := cellsL_get f _ _ hj
          rw [List.getD_eq_getElem?_getD, hu] at this
          simpa using this
        rcases hm with hm | ⟨g, o', e, hF, hcell⟩
        · rw [hm] at hl; simp at hl; omega
        · rw [had] at e
          cases e
          rw [add_block_none, hu']
          exact hcell j (by omega)
  · cases h
end
end Go.Proofs.Ytcmceadekcfpbaa
