/-
  The machine of plain values: append, copy.
-/
import Derived.Test.YtdeigmjbcbjgeaaGreatDoorYdMC
namespace Go.Proofs.YtdeigmjbcbjgeaaGreatDoor
open Go.RowKit

section
variable {P : Program} {E : Env} {A : Nat → Prop} {w0 : Fr} {n : Nat} {m : Map} {F : Nat → Prop} {ρ : Nat → LV} {β : Nat → Option Blk} {a : Act} {w : World}

theorem appOk_of {z z' by_ cnt : Nat} {zc : Cont} (h : appOk z z' by_ cnt zc = true) : z = z' ∧ cnt * by_ ≤ 140737488355328 ∧ cnt ≤ 9223372036854775807 ∧ 0 < z ∧ zc.len = z := by
  simp only [appOk, Bool.and_eq_true, decide_eq_true_eq] at h
  exact ⟨h.1.1.1.1, h.1.1.1.2, h.1.1.2, h.1.2, h.2⟩
theorem free_ment {B : Nat} {x : Cont} (h : x.free B = true) {i : Nat} {u : LV} (hu : x.vals[i]? = some u) : u.ment B mentD = false := by
  cases x with
  | flat k l => obtain ⟨q, rfl⟩ := flat_leaf hu; rfl
  | gen l =>
    have := all_true (l := l) (p := fun u => !u.ment B mentD) h hu
    simpa using this

/-- The cells that are appended. -/
structure News (F : Nat → Prop) (w : World) (m : Map) (z cnt : Nat) (y : Cont) (v : Value) (news : List Value) : Prop where
  len : y.vals.length = cnt * z
  nlen : news.length = cnt * z
  rep : ∀ (i : Nat) (u : LV), y.vals[i]? = some u → Rep F w m u (news.getD i undef)
  one : ∀ u ∈ news, u.oneCell' = true
  val : (cnt = 0 ∧ v = .slice none 0 0) ∨ ∃ ad c, v = .slice (some ad) cnt c ∧ ∀ j u, news[j]? = some u → w.cell? (ad.add j) = some u
theorem news_of {base : Nat → Prop} (hB : ∀ b k, β b = some k → BlkOk F base w m b k) {z cnt : Nat} {u : LV} {v : Value} {y : Cont} (hr : Rep F w m u v) (h : shown β z u = some (y, cnt)) (hlv : y.leaves = true) :
    ∃ news, News F w m z cnt y v news := by
  obtain ⟨ad, c, f, rfl, hlen, hnone, hc⟩ := shown_ok hB hr h
  have hrep : y.vals = [] ∨ ∀ (i : Nat) (u : LV), y.vals[i]? = some u → Rep F w m u (f i) := by
    rcases hc with h | ⟨g, o, _, hc⟩
    · exact .inl h
    · exact .inr hc.2
  have hrep' : ∀ (i : Nat) (u : LV), y.vals[i]? = some u → Rep F w m u ((cellsL f (cnt * z)).getD i undef) := by
    intro i u hu
    rcases hrep with h | h
    · rw [h] at hu; simp at hu
    · rw [cellsL_get f _ _ (by rw [← hlen]; exact lt_of_get hu)]; exact h i u hu
  refine ⟨cellsL f (cnt * z), hlen, cellsL_len _ _, hrep', fun v hv => ?_, ?_⟩
  · obtain ⟨i, hi, rfl⟩ := List.getElem_of_mem hv
    have hi' : i < y.vals.length := by rw [hlen]; simpa [cellsL_len] using hi
    obtain ⟨u, hu⟩ := getL_of hi'
    have h1 := hrep' i u hu
    rw [List.getD_eq_getElem?_getD, List.getElem?_eq_getElem hi] at h1
    exact Rep.one (v := (cellsL f (cnt * z))[i]) h1 (leaves_leaf hlv hu)
  · rcases ad with _ | ad
    · obtain ⟨rfl, rfl⟩ := hnone rfl
      exact .inl ⟨rfl, rfl⟩
    · refine .inr ⟨ad, c, rfl, fun j u hu => ?_⟩
      have hj : j < cnt * z := by have := lt_of_get hu; simpa [cellsL_len] using this
      have hu' : u = f j := by
        have := cellsL_get f _ _ hj
        rw [List.getD_eq_getElem?_getD, hu] at this
        simpa using this
      rcases hc with h | ⟨g, o, e, hc⟩
      · rw [h] at hlen; simp at hlen; omega
      · cases e
        rw [add_block_none, hu']
        exact hc.1 j (by omega)

theorem run_append_any {t ty e : Nat} {i : TypeInfo} {zv : Value} {z by_ : Nat} (ht : P.underlying t = some (.slice e)) (hi : P.info? e = some i) (hz : i.zero = some zv) (hsize : i.size = z) (hby : i.bytes = by_) (hzs : zv.cells.size = z) (hz0 : 0 < z)
    {base : Nat} {v : Value} {N cnt : Nat} {xs news : List Value} {y : Cont} {vx : Value} (hown : w.ownsRow base e z v N xs) (hn : News F w m z cnt y vx news) (h63 : N + cnt ≤ 9223372036854775807) (hb : (N + cnt) * by_ ≤ 140737488355328) (hbase : base ≤ w.heap.size) :
    ∃ v' w', (Builtin.append_ #[t, t] ty #[v, vx]).run P w = .ok v' w' ∧ w'.ownsRow base e z v' (N + cnt) (xs ++ news) ∧ w.grownBy w' v.ownBlock ∧ (v'.ownBlock = v.ownBlock ∨ v'.ownBlock = some w.heap.size) := by
  rcases hn.val with ⟨rfl, rfl⟩ | ⟨ad, c, rfl, hcell⟩
  · have hnil : news = [] := List.eq_nil_of_length_eq_zero (by rw [hn.nlen]; simp)
    subst hnil
    exact ⟨v, w, run_append_owned_none (P := P) (w := w) base t ty e i z ht hi v N xs hown, by simpa using hown, ⟨rfl, rfl, rfl, Nat.le_refl _, fun _ _ _ => rfl⟩, .inl rfl⟩
  · obtain ⟨v', w', h1, h2, h3, _, h4⟩ := run_append_own_at (P := P) w base t ty e i zv z by_ ht hi hz hsize hby hzs hz0 v N xs hown ad cnt c news hn.nlen hcell hn.one (by simpa [maxLen] using h63) hb hbase
    exact ⟨v', w', h1, h2, h3, h4⟩

/-- The state ahead of a new block 8 d. -/
theorem SR.fresh (S : SR A w0 n m F ρ β a w) (d : Nat) (u : LV) (bs : List (Nat × Blk)) : ∃ m1 F1, SR A w0 n m1 F1 (preR ρ β ⟨none, newB β d, u, bs⟩) (preB β ⟨none, newB β d, u, bs⟩) a w ∧ preB β ⟨none, newB β d, u, bs⟩ (8 * d) = none ∧ (∀ g, F g → F1 g) ∧
    ∀ {x : LV} {v : Value}, Rep F w m x v → ((newB β d).isNone = true ∨ x.ment (8 * d) mentD = false) → Rep F1 w m1 x v := by
  rcases hk : β (8 * d) with _ | k
  · have e : newB β d = none := by simp [newB, hk]
    rw [e]
    exact ⟨m, F, S, hk, fun _ h => h, fun h _ => h⟩
  · have e : newB β d = some (8 * d) := by simp [newB, hk]
    rw [e]
    simp only [preR, preB, hk]
    refine ⟨_, _, S.calm hk, by simp [calmβ], fun _ h => .inl h, fun h hc => ?_⟩
    rcases hc with hc | hc
    · simp at hc
    · exact (h.del _ _ hc).mono (fun _ h => .inl h) (fun _ _ => rfl) _ (fun _ _ h => h)

theorem fin_append {o : Oper} {t : Nat} {x y : Operand} {p : Upd} {Q : Exit → Act → World → Prop} (hop : o.op = .call { callee := .builtin .append, args := #[x, y], argTypes := #[t, t] }) {v' : Value} {w' : World}
    (hrun : (Builtin.append_ #[t, t] o.type #[a.eval x, a.eval y]).run P w = .ok v' w') {m' : Map} {F' : Nat → Prop} (hS : SR A w0 n m' F' (preR ρ β p) (updBs (preB β p) p.bs) a w') (hv : Rep F' w' m' p.u v') : o.wp P a w (MPost A w0 n ρ β o p) Q := by
  refine wp_value (v := v') (w' := w') ?_ ⟨m', F', hS.put o.dst hv⟩
  simp only [execOp, hop, resolve, invoke, builtin, Sem.run_bind, Sem.run_pure, Result.andThen_ok, List.map_toArray, List.map_cons, List.map_nil, hrun]

/-- A block's cells spelled otherwise. -/
theorem SR.same (S : SR A w0 n m F ρ β a w) {b : Nat} {k : Blk} {x : Cont} (hk : β b = some k) (hx : x.vals = k.x.vals) : SR A w0 n m F ρ (updBs β [(b, ⟨x, k.e, k.spare⟩)]) a w := by
  have hcase : ∀ b' k', updBs β [(b, ⟨x, k.e, k.spare⟩)] b' = some k' → (b' = b ∧ k' = ⟨x, k.e, k.spare⟩) ∨ (b' ≠ b ∧ β b' = some k') := by
    intro b' k' h
    simp only [updBs] at h
    split at h
    · rename_i e; cases h; exact .inl ⟨e.symm, rfl⟩
    · rename_i e; exact .inr ⟨fun h => e h.symm, h⟩
  have hsome : ∀ b' k', updBs β [(b, ⟨x, k.e, k.spare⟩)] b' = some k' → ∃ k'', β b' = some k'' := by
    intro b' k' h
    rcases hcase b' k' h with ⟨rfl, _⟩ | ⟨_, h⟩
    · exact ⟨_, hk⟩
    · exact ⟨_, h⟩
  refine ⟨S.size, S.slots, fun b' k' h => ?_, fun b1 b2 k1 k2 l l' h1 h2 hne hl hl' => ?_, S.dfr, S.keeps, S.flt, S.sub, S.sup, fun b' h => S.dom b' (updBs_none _ _ _ h).1, fun b' g' k' hl h => by
    rcases hcase b' k' h with ⟨rfl, rfl⟩ | ⟨_, h⟩
    · exact S.lent b' g' k hl hk
    · exact S.lent b' g' k' hl h, S.glob⟩
  · rcases hcase b' k' h with ⟨rfl, rfl⟩ | ⟨_, h⟩
    · rcases S.blks b' k hk with ⟨q1, q2, q3⟩ | ⟨g, s, cs, q1, q2, q3, q4, q5, q6, q7, q8⟩
      · exact .inl ⟨q1, by simp only [hx]; exact q2, q3⟩
      · exact .inr ⟨g, s, cs, q1, q2, q3, q4, q5, by simp only [hx]; exact q6, by simp only [hx]; exact q7, by simp only [hx]; exact q8⟩
    · exact S.blks b' k' h
  · obtain ⟨k1', e1⟩ := hsome _ _ h1
    obtain ⟨k2', e2⟩ := hsome _ _ h2
    exact S.sep b1 b2 k1' k2' l l' e1 e2 hne hl hl'

/-- append where there is no room: a new block. -/
theorem app_over (S : SR A w0 n m F ρ β a w) {o : Oper} {t d e : Nat} {x y : Operand} (hop : o.op = .call { callee := .builtin .append, args := #[x, y], argTypes := #[t, t] })
    {i : TypeInfo} {zv : Value} {z by_ N cnt c' : Nat} (ht : P.underlying t = some (.slice e)) (hi : P.info? e = some i) (hz : i.zero = some zv) (hsize : i.size = z) (hby : i.bytes = by_) (hzs : zv.cells.size = z) (hz0 : 0 < z)
    {ad : Option Addr} {olds news : List Value} {xc yc : Cont} (hn : News F w m z cnt yc (a.eval y) news) (hve : a.eval x = .slice ad N c') (hno : ad = none → N = 0 ∧ c' = 0) (hover : c' < N + cnt)
    (hxl : xc.vals.length = N * z) (hol : olds.length = N * z) (hxr : ∀ (i : Nat) (u : LV), xc.vals[i]? = some u → Rep F w m u (olds.getD i undef)) (hoc : ∀ ad', ad = some ad' → ∀ j u, olds[j]? = some u → w.cell? (ad'.add j) = some u)
    (hfr : (newB β d).isNone = true ∨ (xc.free (8 * d) = true ∧ yc.free (8 * d) = true)) (hb : (N + cnt) * by_ ≤ 140737488355328) (hc3 : N + cnt ≤ 9223372036854775807) (hle : N ≤ c') {Q : Exit → Act → World → Prop} :
    o.wp P a w (MPost A w0 n ρ β o ⟨none, newB β d, .sl z (8 * d) 0 (N + cnt) none, [(8 * d, ⟨xc.app yc, e, true⟩)]⟩) Q := by
  have hbase := Nat.zero_le w.heap.size
  obtain ⟨m1, F1, S1, hfree, hF1, hup⟩ := S.fresh d (.sl z (8 * d) 0 (N + cnt) none) [(8 * d, ⟨xc.app yc, e, true⟩)]
  have hxr1 : ∀ (i : Nat) (u : LV), xc.vals[i]? = some u → Rep F1 w m1 u (olds.getD i undef) := fun i u hu => hup (hxr i u hu) (hfr.imp id (fun h => free_ment h.1 hu))
  have hyr1 : ∀ (i : Nat) (u : LV), yc.vals[i]? = some u → Rep F1 w m1 u (news.getD i undef) := fun i u hu => hup (hn.rep i u hu) (hfr.imp id (fun h => free_ment h.2 hu))
  rcases ad with _ | ad
  · obtain ⟨rfl, rfl⟩ := hno rfl
    have ho0 : olds = [] := List.eq_nil_of_length_eq_zero (by rw [hol]; simp)
    subst ho0
    obtain ⟨v', w', hrun, ho, hg, hat⟩ := run_append_any (P := P) (ty := o.type) (N := 0) (xs := []) ht hi hz hsize hby hzs hz0 (World.ownsRow_nil w 0 e z) hn hc3 hb hbase
    obtain ⟨m', hS, hv⟩ := S1.appended (B := 8 * d) (x := xc) (y := yc) hfree (w0.free (by omega)) (fun g hg => by simp [Value.ownBlock] at hg) hg ho hat hxl hn.len (by rw [hxl]; simp) hxr1 hyr1
    exact fin_append hop (by rw [hve]; exact hrun) hS hv
  · rcases hn.val with ⟨h0, _⟩ | ⟨ad2, c2', hvy, hcell⟩
    · omega
    · have hfit := growslice_fits (need := N + cnt) (old := c') (bytes := i.bytes) (by omega) (by rw [hby]; exact hb)
      have hrun := run_append_grow (P := P) w t o.type e i zv ht hi hz ad N c' olds (by rw [hol, hsize]) (hoc ad rfl) ad2 cnt c2' news (by rw [hn.nlen, hsize]) hcell hover (by omega) hfit
      have hge := grownCap_ge w (N + cnt) c' e
      have hcm := grownCap_le_maxLen w (N + cnt) c' e (by simpa [maxLen] using hc3)
      have hlen : (olds ++ news).length = (N + cnt) * z := by rw [List.length_append, hol, hn.nlen, Nat.add_mul]
      have hg : w.grownBy (w.drew.alloc (.cells (olds.toArray ++ news.toArray ++ Builtin.zeroCells zv.cells (grownCap w (N + cnt) c' e - (N + cnt))) e)) (Value.ownBlock (.slice none 0 0)) :=
        ⟨rfl, rfl, rfl, by simp, fun k hk _ => heap_alloc_old w.drew _ hk⟩
      have ho : (w.drew.alloc (.cells (olds.toArray ++ news.toArray ++ Builtin.zeroCells zv.cells (grownCap w (N + cnt) c' e - (N + cnt))) e)).ownsRow 0 e z (.slice (some ⟨w.heap.size, 0, none⟩) (N + cnt) (grownCap w (N + cnt) c' e)) (N + cnt) (olds ++ news) := by
        refine ⟨hlen, .inr ⟨w.heap.size, _, _, rfl, hbase, heap_alloc_new w.drew _, hge, hcm, ?_, ?_⟩⟩
        · simp only [Array.size_append, List.size_toArray, size_zeroCells, hzs, hol, hn.nlen, ← Nat.add_mul]
          congr 1
          omega
        · simp only [Array.toList_append, List.append_assoc]
          rw [← List.append_assoc, ← hlen]
          exact List.take_left
      obtain ⟨m', hS, hv⟩ := S1.appended (B := 8 * d) (x := xc) (y := yc) hfree (w0.free (by omega)) (fun g hg => by simp [Value.ownBlock] at hg) hg ho (.inr rfl) hxl hn.len (by rw [hol, hxl]) hxr1 hyr1
      exact fin_append hop (by rw [hve, hvy]; exact hrun) hS hv

theorem opAppend_ok (hT : ∀ t i, E.T t = some i → tiOf P t = some i) (S : SR A w0 n m F ρ β a w) {o : Oper} {t d : Nat} {x y : Operand} (hop : o.op = .call { callee := .builtin .append, args := #[x, y], argTypes := #[t, t] }) 
    {ls ly : LV} (hs : Rep F w m ls (a.eval x)) (hy : Rep F w m ly (a.eval y)) {p : Upd} (h : opAppend E β d t ls ly = some p) {Q : Exit → Act → World → Prop} : o.wp P a w (MPost A w0 n ρ β o p) Q := by
  unfold opAppend at h
  split at h
  case h_2 => cases h
  rename_i e0 z0 _ _ _ _ hti0
  split at h
  case h_2 => cases h
  rename_i yc cnt hsh
  split at h
  case isFalse => cases h
  rename_i hlv
  obtain ⟨news, hn⟩ := news_of S.blks hy hsh hlv
  unfold appX at h
  rw [hti0] at h
  simp only at h
  split at h
  case h_2 => cases h
  rename_i by_ _ zc hte
  obtain ⟨it, dt, hit, hdt, htd, _, _, _, _⟩ := tiOf_spec (hT _ _ hti0)
  obtain ⟨rfl, j, hj, hjs⟩ := td_slice htd
  obtain ⟨i2, d2, hi2, hd2, _, _, hb2, _, hz2⟩ := tiOf_spec (hT _ _ hte)
  rw [hj] at hi2
  cases hi2
  obtain ⟨zv, hzv, hzc⟩ := hz2 zc rfl
  simp only at hb2
  have hzs : zc.len = z0 → zv.cells.size = z0 := fun h => by
    have := (zero_rep (F := F) (w := w) (m := m) hzc).1
    rw [this, ← Cont.len_vals, h]
  have hbase := Nat.zero_le w.heap.size
  split at h
  · -- onto nothing
    split at h
    case isFalse => cases h
    rename_i hc
    obtain ⟨hc, hfr⟩ := hc
    obtain ⟨_, c2, c3, c4, c5⟩ := appOk_of hc
    cases h
    generalize hve : a.eval x = vs at hs
    cases hs
    obtain ⟨m1, F1, S1, hfree, hF1, hup⟩ := S.fresh d (.sl z0 (8 * d) 0 cnt none) [(8 * d, ⟨yc, e0, true⟩)]
    obtain ⟨v', w', hrun, ho, hg, hat⟩ := run_append_any (P := P) (ty := o.type) (N := 0) (xs := []) hdt hj hzv hjs hb2.symm (hzs c5) c4 (World.ownsRow_nil w 0 e0 z0) hn (by omega) (by simpa using c2) hbase
    obtain ⟨m', hS, hv⟩ := S1.appended (B := 8 * d) (x := .gen []) (y := yc) hfree (w0.free (by omega)) (fun g hg => by simp [Value.ownBlock] at hg) hg ho hat (by simp [Cont.vals]) hn.len rfl (fun i u hu => by simp [Cont.vals] at hu) (fun i u hu => hup (hn.rep i u hu) (by
      simp only [Bool.or_eq_true] at hfr
      exact hfr.imp id (fun h => free_ment h hu)))
    have happ : (Cont.gen []).app yc = yc := by cases yc <;> rfl
    rw [happ] at hS
    rw [Nat.zero_add] at hv
    refine fin_append hop (by rw [hve]; exact hrun) hS hv
  · -- onto a row of the call's own
    rename_i z' b N
    split at h
    case h_2 => cases h
    rename_i k hk
    split at h
    case isFalse =>
      split at h
      case isFalse => cases h
      rename_i hc
      obtain ⟨hc, hke, hin⟩ := hc
      obtain ⟨rfl, c2, c3, c4, c5⟩ := appOk_of hc
      generalize hve : a.eval x = vs at hs
      split at h
      case h_2 => cases h
      rename_i x' hx'
      cases h
      have hlay := layOne_vals (x := k.x) (y := yc) (o := N * z0) hx'
      rw [Cont.len_vals] at hin
      cases hs with
      | sl _ _ _ _ _ _ g s ad c' hm ha hn' hkk hss hx =>
        have ha : ad = ⟨g, 0, none⟩ := by rcases ha with h | ⟨_, h, _⟩; exact h; omega
        subst ha
        obtain ⟨cs, b1, b2, b3, b4⟩ := blk_cells (S.blks _ _ hk) hm
        have hs1 := hss rfl
        have hroom : N + cnt ≤ c' := by
          refine Nat.le_of_mul_le_mul_right (c := z0) ?_ c4
          omega
        have hrep : Rep F w m (.sl z0 b 0 (N + cnt) none) (.slice (some ⟨g, 0, none⟩) (N + cnt) c') := .sl _ _ _ _ _ _ g s _ _ hm (.inl rfl) hroom (fun k hk => by cases hk) (fun _ => hs1) hx
        rcases hn.val with ⟨rfl, hvy⟩ | ⟨ad2, c2', hvy, hcell⟩
        · have hy0 : yc.vals = [] := List.eq_nil_of_length_eq_zero (by rw [hn.len]; simp)
          have hrun : (Builtin.append_ #[t, t] o.type #[.slice (some ⟨g, 0, none⟩) N c', a.eval y]).run P w = .ok (.slice (some ⟨g, 0, none⟩) N c') w := by
            rw [hvy]
            simp [Builtin.append_, run_underlying hdt, sizeOf, typeInfo, hj, Builtin.lenOf, hn', Builtin.firstCells, storeCells]
          refine fin_append hop (by rw [hve]; exact hrun) (S.same hk (x := x') ?_) hrep
          rw [hlay.2, hy0]; simp
        · obtain ⟨l1, l2, l3⟩ := lay_cells (F := F) (w := w) (m := m) (cs := cs) (vs := news) (off := N * z0) b4.2 (by omega) (by rw [hn.nlen, hn.len]) hn.rep hlay
          have hrun := run_append_room (P := P) w t o.type e0 j hdt hj g N c' cs (by rw [← hke]; exact b1) ad2 cnt c2' news (by rw [hn.nlen, hjs]) hcell hn.one hroom (by rw [hjs, hn.nlen, ← hn.len]; have := hlay.1; omega)
          rw [hjs] at hrun
          have hS := S.write hk hm (x := x') (by rw [l2, b2]) l1 l3
          refine fin_append hop (by rw [hve, hvy]; exact hrun) hS ?_
          exact .sl _ _ _ _ _ _ g s _ _ hm (.inl rfl) hroom (fun k hk => by cases hk) (fun _ => hs1) hx
      | slNil _ _ _ _ hm hkk =>
        have hx0 : k.x.vals = [] := by
          rcases S.blks _ _ hk with ⟨_, q2, _⟩ | ⟨g, s, cs, q1, _⟩
          · exact q2
          · rw [hm] at q1; cases q1
        rw [hx0] at hin
        have hcnt : cnt = 0 := by
          have h0 := Nat.mul_eq_zero.1 (Nat.le_zero.1 hin)
          omega
        subst hcnt
        have hy0 : yc.vals = [] := List.eq_nil_of_length_eq_zero (by rw [hn.len]; simp)
        have hrun' : (Builtin.append_ #[t, t] o.type #[.slice none 0 0, a.eval y]).run P w = .ok (.slice none 0 0) w := by
          rcases hn.val with ⟨_, hvy⟩ | ⟨ad2, c2', hvy, hcell⟩
          · rw [hvy]
            simp [Builtin.append_, run_underlying hdt, sizeOf, typeInfo, hj, Builtin.lenOf, Builtin.firstCells]
          · rw [hvy]
            simp [Builtin.append_, run_underlying hdt, sizeOf, typeInfo, hj, Builtin.lenOf, Builtin.firstCells, loadCells, loadCellsFrom]
        refine fin_append hop (by rw [hve]; exact hrun') (S.same hk (x := x') ?_) (.slNil _ _ _ _ hm (fun k hk => by cases hk))
        rw [hlay.2, hy0]; simp
    rename_i hc
    obtain ⟨hc, hkl, hsp, hke, hf1, hf2⟩ := hc
    obtain ⟨rfl, c2, c3, c4, c5⟩ := appOk_of hc
    cases h
    rw [Cont.len_vals] at hkl
    have hup : ∀ {B : Nat} {u : LV} {v : Value}, Rep F w m u v → u.ment B mentD = false → Rep F w (m.del B) u v := fun h hm => h.del _ _ hm
    generalize hve : a.eval x = vs at hs
    have hrow : ∃ xs, w.ownsRow 0 e0 z0 vs N xs ∧ xs.length = k.x.vals.length ∧ (∀ (i : Nat) (u : LV), k.x.vals[i]? = some u → Rep F w (m.del b) u (xs.getD i undef)) ∧
        ∀ g, vs.ownBlock = some g → ¬ F g ∧ w0.own g ∧ ∀ b' k' l, loseβ β b b' = some k' → (m.del b) b' = some (some l) → l.g ≠ g := by
      cases hs with
      | sl _ _ _ _ _ _ g s ad c' hm ha hn' hkk hss hx =>
        have ha : ad = ⟨g, 0, none⟩ := by rcases ha with h | ⟨_, h, _⟩; exact h; omega
        subst ha
        have hs1 := hss rfl
        obtain ⟨cs, b1, b2, b3, b4⟩ := blk_cells (S.blks _ _ hk) hm
        obtain ⟨o1, o2, o3⟩ := S.old hk hm
        refine ⟨cs.toList.take (N * z0), ⟨by simp; omega, .inr ⟨g, c', cs, rfl, Nat.zero_le _, by rw [← hke]; exact b1, hn', by simpa [maxLen] using hx, by omega, rfl⟩⟩, by simp; omega, fun i u hu => ?_, fun g' hg' => ?_⟩
        · have hi : i < N * z0 := by rw [← hkl]; exact lt_of_get hu
          have := hup (B := b) (b4.2 i u hu) (free_ment hf1 hu)
          rw [List.getD_eq_getElem?_getD, List.getElem?_take, if_pos hi, Array.getElem?_toList, ← Array.getD_eq_getD_getElem?]
          exact this
        · have e : g = g' := by simpa [Value.ownBlock] using hg'
          subst e
          refine ⟨o2, o3, fun b' k' l hb' hl e => ?_⟩
          unfold loseβ at hb'
          split at hb'
          · cases hb'
          · rename_i hne
            rw [Map.del_of hne] at hl
            rcases hq : β b' with _ | k''
            · rw [hq] at hb'; cases hb'
            · exact S.sep b' b k'' k l _ hq hk hne hl hm e
      | slNil _ _ _ _ hm hkk =>
        have hk0 : k.x.vals = [] := List.eq_nil_of_length_eq_zero (by rw [hkl]; simp)
        exact ⟨[], World.ownsRow_nil _ _ _ _, by rw [hk0]; rfl, fun i u hu => by rw [hk0] at hu; simp at hu, fun g hg => by simp [Value.ownBlock] at hg⟩
    obtain ⟨xs, hown, hxl, hxr, hrw⟩ := hrow
    obtain ⟨v', w', hrun, ho, hg, hat⟩ := run_append_any (P := P) (ty := o.type) hdt hj hzv hjs hb2.symm (hzs c5) c4 hown hn (by omega) c2 hbase
    obtain ⟨m', hS, hv⟩ := (S.lose b).appended (B := b) (x := k.x) (y := yc) (by simp [loseβ]) (by
      rcases hq : w0.lend b with _ | g
      · rfl
      · have := (S.lent b g k hq hk).1
        rw [hsp] at this; cases this) hrw hg ho hat hkl hn.len hxl hxr (fun i u hu => hup (hn.rep i u hu) (free_ment hf2 hu))
    exact fin_append hop (by rw [hve]; exact hrun) hS hv
  · -- a slice whose room is known
    rename_i z' b N c
    split at h
    case h_2 => cases h
    rename_i k hk
    split at h
    case isFalse => cases h
    rename_i hc
    obtain ⟨hc, hke⟩ := hc
    obtain ⟨rfl, c2, c3, c4, c5⟩ := appOk_of hc
    generalize hve : a.eval x = vs at hs
    split at h
    · rename_i hroom
      split at h
      case h_2 => cases h
      rename_i x' hx'
      cases h
      have hlay := layOne_vals (x := k.x) (y := yc) (o := N * z0) hx'
      cases hs with
      | sl _ _ _ _ _ _ g s ad c' hm ha hn' hkk hss hx =>
        have ha : ad = ⟨g, 0, none⟩ := by rcases ha with h | ⟨_, h, _⟩; exact h; omega
        subst ha
        have hcc := hkk c rfl
        subst hcc
        obtain ⟨cs, b1, b2, b3, b4⟩ := blk_cells (S.blks _ _ hk) hm
        have hrep : Rep F w m (.sl z0 b 0 (N + cnt) (some c')) (.slice (some ⟨g, 0, none⟩) (N + cnt) c') := .sl _ _ _ _ _ _ g s _ _ hm (.inl rfl) hroom (fun k hk => by cases hk; rfl) (fun hc => by cases hc) hx
        rcases hn.val with ⟨rfl, hvy⟩ | ⟨ad2, c2', hvy, hcell⟩
        · have hy0 : yc.vals = [] := List.eq_nil_of_length_eq_zero (by rw [hn.len]; simp)
          have hrun : (Builtin.append_ #[t, t] o.type #[.slice (some ⟨g, 0, none⟩) N c', a.eval y]).run P w = .ok (.slice (some ⟨g, 0, none⟩) N c') w := by
            rw [hvy]
            simp [Builtin.append_, run_underlying hdt, sizeOf, typeInfo, hj, Builtin.lenOf, hn', Builtin.firstCells, storeCells]
          refine fin_append hop (by rw [hve]; exact hrun) (S.same hk (x := x') ?_) hrep
          rw [hlay.2, hy0]; simp
        · obtain ⟨l1, l2, l3⟩ := lay_cells (F := F) (w := w) (m := m) (cs := cs) (vs := news) (off := N * z0) b4.2 (by omega) (by rw [hn.nlen, hn.len]) hn.rep hlay
          have hrun := run_append_room (P := P) w t o.type e0 j hdt hj g N c' cs (by rw [← hke]; exact b1) ad2 cnt c2' news (by rw [hn.nlen, hjs]) hcell hn.one hroom (by rw [hjs, hn.nlen, ← hn.len]; have := hlay.1; omega)
          rw [hjs] at hrun
          have hS := S.write hk hm (x := x') (by rw [l2, b2]) l1 l3
          refine fin_append hop (by rw [hve, hvy]; exact hrun) hS ?_
          exact .sl _ _ _ _ _ _ g s _ _ hm (.inl rfl) hroom (fun k hk => by cases hk; rfl) (fun hc => by cases hc) hx
      | slNil _ _ _ _ hm hkk =>
        have hc0 := hkk c rfl
        subst hc0
        have hcnt : cnt = 0 := by omega
        subst hcnt
        have hy0 : yc.vals = [] := List.eq_nil_of_length_eq_zero (by rw [hn.len]; simp)
        obtain ⟨v', w', hrun, ho, hg, hat⟩ := run_append_any (P := P) (ty := o.type) (N := 0) (xs := []) hdt hj hzv hjs hb2.symm (hzs c5) c4 (World.ownsRow_nil w 0 e0 z0) hn (by omega) (by simp) hbase
        have hrun' : (Builtin.append_ #[t, t] o.type #[.slice none 0 0, a.eval y]).run P w = .ok (.slice none 0 0) w := by
          rcases hn.val with ⟨_, hvy⟩ | ⟨ad2, c2', hvy, hcell⟩
          · rw [hvy]
            simp [Builtin.append_, run_underlying hdt, sizeOf, typeInfo, hj, Builtin.lenOf, Builtin.firstCells]
          · rw [hvy]
            simp [Builtin.append_, run_underlying hdt, sizeOf, typeInfo, hj, Builtin.lenOf, Builtin.firstCells, loadCells, loadCellsFrom]
        refine fin_append hop (by rw [hve]; exact hrun') (S.same hk (x := x') ?_) (.slNil _ _ _ _ hm (fun k hk => by cases hk; rfl))
        rw [hlay.2, hy0]; simp
    · rename_i hroom
      split at h
      case h_2 => cases h
      rename_i x' hx'
      split at h
      case isFalse => cases h
      rename_i hfr
      cases h
      obtain ⟨k1, k2⟩ := Cont.cut_vals hx'
      rw [Nat.zero_add] at k1
      have hxl : x'.vals.length = N * z0 := by rw [k2]; simp; omega
      have hfr' : (newB β d).isNone = true ∨ (x'.free (8 * d) = true ∧ yc.free (8 * d) = true) := by simpa [Bool.or_eq_true, Bool.and_eq_true] using hfr
      cases hs with
      | sl _ _ _ _ _ _ g s ad c' hm ha hn' hkk hss hx =>
        have ha : ad = ⟨g, 0, none⟩ := by rcases ha with h | ⟨_, h, _⟩; exact h; omega
        subst ha
        have hcc := hkk c rfl
        subst hcc
        obtain ⟨cs, b1, b2, b3, b4⟩ := blk_cells (S.blks _ _ hk) hm
        refine app_over S hop hdt hj hzv hjs hb2.symm (hzs c5) c4 (olds := cs.toList.take (N * z0)) hn hve (fun h => by cases h) (by omega) hxl (by simp; omega) (fun i u hu => ?_) (fun ad' had j u hu => ?_) hfr' c2 c3 hn'
        · rw [k2, List.drop_zero, List.getElem?_take] at hu
          split at hu
          · rename_i hi
            rw [List.getD_eq_getElem?_getD, List.getElem?_take, if_pos hi, Array.getElem?_toList, ← Array.getD_eq_getD_getElem?]
            exact b4.2 i u hu
          · cases hu
        · cases had
          rw [List.getElem?_take] at hu
          split at hu
          · rw [add_block_none, Nat.zero_add, cell_of_row w g j cs k.e (0, 0) b1]
            simpa using hu
          · cases hu
      | slNil _ _ _ _ hm hkk =>
        have hc0 := hkk c rfl
        subst hc0
        have hx0 : x'.vals = [] := List.eq_nil_of_length_eq_zero (by rw [hxl]; simp)
        exact app_over S hop hdt hj hzv hjs hb2.symm (hzs c5) c4 (olds := []) hn hve (fun _ => ⟨rfl, rfl⟩) (by omega) hxl (by simp) (fun i u hu => by rw [hx0] at hu; simp at hu) (fun ad' had => by cases had) hfr' c2 c3 (Nat.le_refl _)
  · -- a slice that stays
    rename_i z' N c x'
    split at h
    case isFalse => cases h
    rename_i hc
    obtain ⟨hc, hroom, hfr⟩ := hc
    obtain ⟨rfl, c2, c3, c4, c5⟩ := appOk_of hc
    cases h
    have hfr' : (newB β d).isNone = true ∨ (x'.free (8 * d) = true ∧ yc.free (8 * d) = true) := by simpa [Bool.or_eq_true, Bool.and_eq_true] using hfr
    generalize hve : a.eval x = vs at hs
    cases hs with
    | im _ _ _ _ _ ad c' f hl hn' hk ha hm hrr =>
      have hcc := hk c rfl
      subst hcc
      refine app_over S hop hdt hj hzv hjs hb2.symm (hzs c5) c4 (olds := cellsL f (N * z0)) hn hve ha (by omega) hl (cellsL_len _ _) (fun i u hu => ?_) (fun ad' had j u hu => ?_) hfr' c2 c3 hn'
      · rw [cellsL_get f _ _ (by rw [← hl]; exact lt_of_get hu)]
        exact (hrr i u hu).noMap_up m
      · have hj : j < N * z0 := by have := lt_of_get hu; simpa [cellsL_len] using this
        have hu' : u = f j := by
          have := cellsL_get f _ _ hj
          rw [List.getD_eq_getElem?_getD, hu] at this
          simpa using this
        rcases hm with hm | ⟨g, o', e, hF, hcell⟩
        · rw [hm] at hl; simp at hl; omega
        · rw [had] at e
          cases e
          rw [add_block_none, hu']
          exact hcell j (by omega)
  · cases h
end
end Go.Proofs.YtdeigmjbcbjgeaaGreatDoor

/-
  The machine of plain values: calls to which blocks are lent, as their caller sees them.
-/
namespace Go.Proofs.YtdeigmjbcbjgeaaGreatDoor
open Go.RowKit

section
variable {P : Program} {E : Env} {A : Nat → Prop} {w0 : Fr} {n : Nat} {m : Map} {F : Nat → Prop} {ρ : Nat → LV} {β : Nat → Option Blk} {a : Act} {w : World}

/-- New blocks, and blocks that were lent. -/
theorem SR.back (S : SR A w0 n m F ρ β a w) {T F' : Nat → Prop} {w' : World} {m' : Map} {bs cs : List (Nat × Blk)} (hm : ∀ b l, m b = some l → m' b = some l) (hk : Keeps T w w')
    (hT : ∀ g, T g → ∃ p ∈ cs, ∃ k s, β p.1 = some k ∧ m p.1 = some (some ⟨g, s⟩)) (hF : ∀ g, F g → F' g) (hF' : ∀ g, F' g → F g ∨ w.heap.size ≤ g) (hlt : ∀ g, F' g → g < w'.heap.size)
    (hcs : ∀ p ∈ cs, (∃ k, β p.1 = some k) ∧ p.2.spare = false ∧ BlkOk F' w0.own w' m' p.1 p.2)
    (hnew : ∀ p ∈ bs, BlkOk F' w0.own w' m' p.1 p.2 ∧ ∀ l, m' p.1 = some (some l) → w.heap.size ≤ l.g)
    (hsep : ∀ p ∈ bs, ∀ q ∈ bs, p.1 ≠ q.1 → ∀ l l', m' p.1 = some (some l) → m' q.1 = some (some l') → l.g ≠ l'.g) (hdom : ∀ b, m' b ≠ m b → ∃ p ∈ bs, p.1 = b) (hid : ∀ p ∈ bs, w0.lend p.1 = none) :
    SR A w0 n m' F' ρ (updBs β (bs ++ cs)) a w' := by
  have hold : ∀ b k l, β b = some k → m' b = some (some l) → m b = some (some l) := by
    intro b k l hb hl
    rcases S.blks b k hb with ⟨h1, _⟩ | ⟨g, s, cs, h1, _⟩
    · rw [hm _ _ h1] at hl; cases hl
    · rw [hm _ _ h1] at hl
      cases hl
      exact h1
  have hTF : ∀ g, F g → ¬ T g := by
    intro g hf ht
    obtain ⟨p, _, k, s, h1, h2⟩ := hT g ht
    exact (S.old h1 h2).2.1 hf
  have hheap : ∀ g, F g → w'.heap[g]? = w.heap[g]? := fun g hf => hk.block g (S.flt g hf) (hTF g hf)
  have hcase : ∀ b k, updBs β (bs ++ cs) b = some k → (b, k) ∈ bs ∨ (b, k) ∈ cs ∨ (β b = some k ∧ ∀ p ∈ bs ++ cs, p.1 ≠ b) := by
    intro b k hb
    rcases updBs_cases _ β b k hb with h | h
    · rcases List.mem_append.1 h with h | h
      · exact .inl h
      · exact .inr (.inl h)
    · exact .inr (.inr h)
  have hplace : ∀ b k l, updBs β (bs ++ cs) b = some k → m' b = some (some l) → ((b, k) ∈ bs ∧ w.heap.size ≤ l.g) ∨ ∃ k', β b = some k' ∧ m b = some (some l) := by
    intro b k l hb hl
    rcases hcase b k hb with h | h | ⟨h, _⟩
    · exact .inl ⟨h, (hnew _ h).2 l hl⟩
    · obtain ⟨⟨k', hk'⟩, _⟩ := hcs _ h
      exact .inr ⟨k', hk', hold _ _ _ hk' hl⟩
    · exact .inr ⟨k, h, hold _ _ _ h hl⟩
  refine ⟨S.size, fun t => (S.slots t).mono hF hheap _ hm, fun b k hb => ?_, fun b b' k k' l l' hb hb' hne hl hl' => ?_, S.dfr, S.keeps.step hk (fun g hg ht => ?_), hlt, fun g hg => ?_, fun g hg => hF g (S.sup g hg), fun b hb => ?_, fun b g k hl hb => ?_, S.glob⟩
  · rcases hcase b k hb with h | h | ⟨h, hno⟩
    · exact (hnew _ h).1
    · exact (hcs _ h).2.2
    · rcases S.blks b k h with ⟨q1, q2, q3⟩ | ⟨g, s, ds, q1, q2, q3, q4, q5, q6, q7, q8⟩
      · exact .inl ⟨hm _ _ q1, q2, q3⟩
      · have hg := (Array.getElem?_eq_some_iff.1 q4).1
        have hnT : ¬ T g := by
          intro ht
          obtain ⟨p, hp, k', s', h1, h2⟩ := hT g ht
          exact S.sep p.1 b k' k _ _ h1 h (hno p (List.mem_append.2 (.inr hp))) h2 q1 rfl
        refine .inr ⟨g, s, ds, hm _ _ q1, fun hf => ?_, q3, by rw [hk.block g hg hnT]; exact q4, q5, q6, q7, fun i u hu => (q8 i u hu).mono hF hheap _ hm⟩
        rcases hF' g hf with hf | hf
        · exact q2 hf
        · omega
  · rcases hplace b k l hb hl with ⟨h1, h2⟩ | ⟨k1, h1, h2⟩ <;> rcases hplace b' k' l' hb' hl' with ⟨h3, h4⟩ | ⟨k2, h3, h4⟩
    · exact hsep _ h1 _ h3 hne l l' hl hl'
    · have := (S.old h3 h4).1
      omega
    · have := (S.old h1 h2).1
      omega
    · exact S.sep b b' k1 k2 l l' h1 h3 hne h2 h4
  · obtain ⟨p, _, k, s, h1, h2⟩ := hT g ht
    rcases (S.old h1 h2).2.2 with h | h
    · exact absurd hg (Nat.not_lt.2 h)
    · exact h
  · rcases hF' g hg with h | h
    · exact S.sub g h
    · exact .inr (.inl (Nat.le_trans S.keeps.size h))
  · obtain ⟨h1, h2⟩ := updBs_none _ β b hb
    rcases Classical.em (m' b = m b) with h | h
    · rw [h]; exact S.dom b h1
    · obtain ⟨p, hp, e⟩ := hdom b h
      exact absurd e (h2 p (List.mem_append.2 (.inl hp)))
  · rcases hcase b k hb with h | h | ⟨h, _⟩
    · have := hid _ h
      rw [hl] at this
      cases this
    · obtain ⟨⟨k', hk'⟩, h2, _⟩ := hcs _ h
      obtain ⟨_, h3⟩ := S.lent b g k' hl hk'
      exact ⟨h2, hm _ _ h3⟩
    · obtain ⟨h1, h2⟩ := S.lent b g k hl h
      exact ⟨h1, hm _ _ h2⟩

/-- The same of a whole result. -/
theorem res_map {F' : Nat → Prop} {base : Nat} {w' : World} {own : Nat → Prop} (hown : ∀ g, base ≤ g → own g) (m : Map) (d : Nat) (hfree : ∀ k, k < 8 → m (8 * d + k) = none) {r : LRes} {v : Value} (hr : ResOk F' base w' r v) {u : LV} {bs : List (Nat × Blk)} (h : r.out d = some (u, bs)) :
    ∃ m' : Map, (∀ b l', m b = some l' → m' b = some l') ∧ Rep F' w' m' u v ∧ (∀ p ∈ bs, BlkOk F' own w' m' p.1 p.2 ∧ ∀ l', m' p.1 = some (some l') → base ≤ l'.g) ∧
      (∀ p ∈ bs, ∀ q ∈ bs, p.1 ≠ q.1 → ∀ l l', m' p.1 = some (some l) → m' q.1 = some (some l') → l.g ≠ l'.g) ∧ (∀ b, m' b ≠ m b → ∃ p ∈ bs, p.1 = b) ∧ ∀ p ∈ bs, p.1 % 8 ≠ 7 := by
  cases r with
  | one r =>
    obtain ⟨gb, hgb⟩ := hr
    obtain ⟨m', e1, e2, e3, e4, e5⟩ := results_map hown m (8 * d) [r] (fun _ => v) (fun i => if i = 0 then gb else none) (fun i hi => hfree i (by simp at hi; omega)) (fun i r' hi => by
      cases i with
      | zero => simp at hi; subst hi; simpa using hgb
      | succ i => simp at hi) (fun i j l l' hne hi hj => by
        split at hi
        · split at hj
          · omega
          · cases hj
        · cases hi)
    have hu : (u, bs) = r.out (8 * d) := by simpa [LRes.out] using h.symm
    have hb : (outAll (8 * d) [r]).2 = bs := by simp [outAll, ← hu]
    have hids : ∀ p ∈ (outAll (8 * d) [r]).2, p.1 % 8 ≠ 7 := fun p hp => by
      obtain ⟨i, _, k, h1, _, rfl⟩ := outAll_blk [r] (8 * d) p hp
      have := lt_of_get h1
      simp at this
      subst this
      simp
    rw [hb] at e3 e4 e5 hids
    refine ⟨m', e1, ?_, e3, e4, e5, hids⟩
    have := e2 0 r rfl
    rw [Nat.add_zero, ← hu] at this
    exact this
  | many l =>
    obtain ⟨ws, gbs, rfl, hws, hrc, hdist⟩ := hr
    simp only [LRes.out] at h
    split at h
    · rename_i hl8
      cases h
      obtain ⟨m', e1, e2, e3, e4, e5⟩ := results_map hown m (8 * d) l (fun i => ws.getD i undef) gbs (fun i hi => hfree i (by omega)) hrc hdist
      refine ⟨m', e1, ?_, e3, e4, e5, fun p hp => ?_⟩
      · obtain ⟨p1, p2⟩ := outAll_val l (8 * d)
        refine .tup _ _ _ (by rw [p1, hws]) (fun i u hu => ?_)
        have hi : i < l.length := by rw [← p1]; exact lt_of_get hu
        obtain ⟨r, hr⟩ : ∃ r, l[i]? = some r := ⟨_, List.getElem?_eq_getElem hi⟩
        rw [p2 i r hr] at hu
        cases hu
        exact e2 i r hr
      · obtain ⟨i, _, k, h1, _, rfl⟩ := outAll_blk l (8 * d) p hp
        have := lt_of_get h1
        simp only
        omega
    · cases h

theorem lentOf_of {u : LV} {b : Nat} (h : lentOf β u = some b) : u = .ptr b 0 ∧ ∃ k, β b = some k ∧ k.spare = false := by
  unfold lentOf at h
  split at h
  · rename_i b'
    split at h
    · rename_i k hk
      split at h
      · cases h
      · rename_i hs
        cases h
        exact ⟨rfl, k, hk, by simpa using hs⟩
    · cases h
  · cases h
theorem lendB_of : ∀ (l : List LV) (i : Nat) (p : Nat × Nat), p ∈ lendB β i l → ∃ j u, l[j]? = some u ∧ p.1 = 8 * (i + j) + 7 ∧ lentOf β u = some p.2
  | [], i, p, h => by simp [lendB] at h
  | u :: l, i, p, h => by
    unfold lendB at h
    split at h
    · rename_i b hb
      rcases List.mem_cons.1 h with rfl | h
      · exact ⟨0, u, rfl, rfl, hb⟩
      · obtain ⟨j, u', h1, h2, h3⟩ := lendB_of l (i + 1) p h
        exact ⟨j + 1, u', by simpa using h1, by omega, h3⟩
    · obtain ⟨j, u', h1, h2, h3⟩ := lendB_of l (i + 1) p h
      exact ⟨j + 1, u', by simpa using h1, by omega, h3⟩
theorem lendB_mem : ∀ (l : List LV) (i j : Nat) (u : LV) (b : Nat), l[j]? = some u → lentOf β u = some b → (8 * (i + j) + 7, b) ∈ lendB β i l
  | [], i, j, u, b, h, _ => by simp at h
  | x :: l, i, j, u, b, h, hb => by
    unfold lendB
    cases j with
    | zero =>
      simp at h
      subst h
      rw [hb]
      exact List.mem_cons_self ..
    | succ j =>
      have := lendB_mem l (i + 1) j u b (by simpa using h) hb
      rw [show 8 * (i + 1 + j) + 7 = 8 * (i + (j + 1)) + 7 by omega] at this
      split
      · exact List.mem_cons_of_mem _ this
      · exact this
theorem lendB_fst {l : List LV} {i : Nat} {p q : Nat × Nat} (hp : p ∈ lendB β i l) (hq : q ∈ lendB β i l) (h : p.1 = q.1) : p = q := by
  obtain ⟨j, u, h1, h2, h3⟩ := lendB_of l i p hp
  obtain ⟨j', u', h1', h2', h3'⟩ := lendB_of l i q hq
  have : j = j' := by omega
  subst this
  rw [h1] at h1'
  cases h1'
  rw [h3] at h3'
  exact Prod.ext h (Option.some.inj h3')
theorem apart_inj : ∀ {ps : List (Nat × Nat)}, apartN (ps.map (·.2)) = true → ∀ p ∈ ps, ∀ q ∈ ps, p.2 = q.2 → p = q
  | [], _, p, hp, _, _, _ => by simp at hp
  | x :: ps, h, p, hp, q, hq, he => by
    simp only [List.map_cons, apartN, Bool.and_eq_true, Bool.not_eq_true', List.contains_eq_mem, decide_eq_false_iff_not] at h
    rcases List.mem_cons.1 hp with e | hp1 <;> rcases List.mem_cons.1 hq with e' | hq1
    · rw [e, e']
    · exact absurd (List.mem_map.2 ⟨q, hq1, by rw [← he, e]⟩) h.1
    · exact absurd (List.mem_map.2 ⟨p, hp1, by rw [he, e']⟩) h.1
    · exact apart_inj h.2 p hp1 q hq1 he
theorem findB_mem : ∀ {l : List (Nat × Blk)} {b : Nat} {k : Blk}, findB l b = some k → (b, k) ∈ l
  | [], _, _, h => by simp [findB] at h
  | (i, k') :: l, b, k, h => by
    simp only [findB] at h
    split at h
    · rename_i e; cases h; subst e; exact List.mem_cons_self ..
    · exact List.mem_cons_of_mem _ (findB_mem h)
theorem findB_has : ∀ {l : List (Nat × Blk)} {b : Nat} {k : Blk}, (b, k) ∈ l → ∃ k', findB l b = some k'
  | [], _, _, h => by simp at h
  | (i, k') :: l, b, k, h => by
    simp only [findB]
    split
    · exact ⟨_, rfl⟩
    · rename_i e
      rcases List.mem_cons.1 h with h | h
      · cases h; exact absurd rfl e
      · exact findB_has h
theorem optMap_mem {α γ : Type} {f : α → Option γ} {l : List α} {r : List γ} (h : optMap f l = some r) : (∀ y ∈ r, ∃ x ∈ l, f x = some y) ∧ ∀ x ∈ l, ∃ y ∈ r, f x = some y := by
  obtain ⟨h1, h2⟩ := optMap_spec h
  refine ⟨fun y hy => ?_, fun x hx => ?_⟩
  · obtain ⟨i, hi⟩ := List.mem_iff_getElem?.1 hy
    obtain ⟨x, hx, hf⟩ := h2 i y hi
    exact ⟨x, List.mem_of_getElem? hx, hf⟩
  · obtain ⟨i, hi⟩ := List.mem_iff_getElem?.1 hx
    have hlt : i < r.length := by rw [h1]; exact lt_of_get hi
    obtain ⟨x', hx', hf⟩ := h2 i r[i] (List.getElem?_eq_getElem hlt)
    rw [hi] at hx'
    cases hx'
    exact ⟨_, List.getElem_mem hlt, hf⟩
/-- Where the lent blocks lie. -/
def lendM (m : Map) (ps : List (Nat × Nat)) : Map := fun id => match ps.find? (fun p => p.1 == id) with
  | some p => m p.2
  | none => none
theorem lendM_of {ps : List (Nat × Nat)} {id : Nat} {l : Option Loc} (h : lendM m ps id = some l) : ∃ p ∈ ps, p.1 = id ∧ m p.2 = some l := by
  unfold lendM at h
  split at h
  · rename_i p hp
    exact ⟨p, List.mem_of_find?_eq_some hp, by simpa using List.find?_some hp, h⟩
  · cases h
theorem lendM_at {l : List LV} {i : Nat} {p : Nat × Nat} (hp : p ∈ lendB β i l) : lendM m (lendB β i l) p.1 = m p.2 := by
  unfold lendM
  split
  · rename_i q hq
    have h1 := List.mem_of_find?_eq_some hq
    have h2 : q.1 = p.1 := by simpa using List.find?_some hq
    rw [lendB_fst h1 hp h2]
  · rename_i hn
    rw [List.find?_eq_none] at hn
    exact absurd (by simp) (hn p hp)
theorem shut_cont {F F' : Nat → Prop} {x : Cont} (hx : x.shut = true) (hF : ∀ g, F g → F' g) {i : Nat} {u : LV} {v : Value} (hu : x.vals[i]? = some u) (h : Rep F w m u v) : Rep F' w noMap u v := by
  cases x with
  | flat k l =>
    obtain ⟨q, rfl⟩ := flat_leaf hu
    exact h.pure _ _ _ 0 rfl
  | gen l => exact shut_rep h hF (all_true (l := l) hx hu)
theorem pure_cont {F F' : Nat → Prop} {w' : World} {m' : Map} {x : Cont} (hx : x.pure = true) {i : Nat} {u : LV} {v : Value} (hu : x.vals[i]? = some u) (h : Rep F w m u v) : Rep F' w' m' u v := by
  cases x with
  | flat k l =>
    obtain ⟨q, rfl⟩ := flat_leaf hu
    exact h.pure _ _ _ 0 rfl
  | gen l => exact h.pure _ _ _ 4 (all_true (l := l) hx hu)

theorem callW_ok (hE : EnvOk P E) (S : SR A w0 n m F ρ β a w) {f : Nat} {args : List LV} {vs : Array Value} {dst : Option Nat} {p : Upd} (hsz : vs.size = args.length)
    (hargs : ∀ (i : Nat) (u : LV), args[i]? = some u → Rep F w m u (vs.getD i undef)) (hfree : ∀ d, dst = some d → ∀ k, k < 8 → β (8 * d + k) = none) (h : callW E β dst f args = some p) :
    p.gone = none ∧ p.calm = none ∧ (∃ fn, P.funcs[f]? = some fn ∧ fn.name ≠ "runtime.NumGoroutine" ∧ fn.body.isSome = true) ∧
    Calls P f vs w fun e w' => ∃ v m' F', e = .returned v ∧ SR A w0 n m' F' ρ (updBs β p.bs) a w' ∧ (∀ d, dst = some d → Rep F' w' m' p.u v) := by
  unfold callW at h
  simp only at h
  split at h
  case isFalse => cases h
  rename_i hap
  split at h
  case h_2 => cases h
  rename_i ds ls hds hls
  split at h
  case h_2 => cases h
  rename_i r ls' hr
  split at h
  case isFalse => cases h
  rename_i hc
  split at h
  case h_2 => cases h
  rename_i u bs cs hout hcs
  cases h
  obtain ⟨hfn, hcall⟩ := hE.orw f ds ls r ls' hr
  refine ⟨rfl, rfl, hfn, ?_⟩
  have hinj := apart_inj hap
  -- the lent blocks
  have hps : ∀ q ∈ lendB β 0 args, ∃ j k g s vs, q.1 = 8 * j + 7 ∧ args[j]? = some (.ptr q.2 0) ∧ β q.2 = some k ∧ k.spare = false ∧ m q.2 = some (some ⟨g, s⟩) ∧ ¬ F g ∧ w0.own g ∧ w.heap[g]? = some (.cells vs k.e (0, 0)) ∧ vs.size = s ∧ k.x.vals.length = s ∧
      ∀ (i : Nat) (u : LV), k.x.vals[i]? = some u → Rep F w m u (vs.getD i undef) := by
    intro q hq
    obtain ⟨j, u, h1, h2, h3⟩ := lendB_of args 0 q hq
    obtain ⟨rfl, k, hk, hsp⟩ := lentOf_of h3
    rcases S.blks _ k hk with ⟨_, _, q3⟩ | ⟨g, s, vs, q1, q2, q3, q4, q5, q6, _, q8⟩
    · rw [hsp] at q3; cases q3
    · exact ⟨j, k, g, s, vs, by omega, h1, hk, hsp, q1, q2, q3, q4, q5, q6 hsp, q8⟩
  have hl1 := optMap_mem hls
  have hlsp : ∀ b k, findB ls b = some k → ∃ q ∈ lendB β 0 args, q.1 = b ∧ β q.2 = some k ∧ k.x.shut = true := by
    intro b k hb
    obtain ⟨q, hq, hf⟩ := hl1.1 _ (findB_mem hb)
    unfold lendK at hf
    split at hf
    · rename_i k' hk'
      split at hf
      · rename_i hsh
        cases hf
        exact ⟨q, hq, rfl, hk', hsh⟩
      · cases hf
    · cases hf
  have hlsn : ∀ q ∈ lendB β 0 args, ∃ k, findB ls q.1 = some k := by
    intro q hq
    obtain ⟨y, hy, hf⟩ := hl1.2 q hq
    unfold lendK at hf
    split at hf
    · split at hf
      · cases hf; exact findB_has hy
      · cases hf
    · cases hf
  have hmd : ∀ b b' l l', b ≠ b' → lendM m (lendB β 0 args) b = some (some l) → lendM m (lendB β 0 args) b' = some (some l') → l.g ≠ l'.g := by
    intro b b' l l' hne hl hl'
    obtain ⟨q, hq, rfl, h1⟩ := lendM_of hl
    obtain ⟨q', hq', rfl, h1'⟩ := lendM_of hl'
    obtain ⟨_, k, _, _, _, _, _, hk, _⟩ := hps q hq
    obtain ⟨_, k', _, _, _, _, _, hk', _⟩ := hps q' hq'
    exact S.sep _ _ k k' l l' hk hk' (fun e => hne (by rw [hinj q hq q' hq' e])) h1 h1'
  have hmn : ∀ b, findB ls b = none → lendM m (lendB β 0 args) b = none := by
    intro b hb
    rcases hz : lendM m (lendB β 0 args) b with _ | l
    · rfl
    · obtain ⟨q, hq, rfl, _⟩ := lendM_of hz
      obtain ⟨k, hk⟩ := hlsn q hq
      rw [hb] at hk; cases hk
  have hids : ∀ q ∈ lendB β 0 args, q.2 ∈ (lendB β 0 args).map (·.2) := fun q hq => List.mem_map.2 ⟨q, hq, rfl⟩
  obtain ⟨o1, o2⟩ := optMap_spec hds
  have hlend : ∀ A' : Nat → Prop, (∀ g, F g → A' g) → (∀ q ∈ lendB β 0 args, ∀ g s, m q.2 = some (some ⟨g, s⟩) → ¬ A' g) → LentOk A' w (lendM m (lendB β 0 args)) ls := by
    intro A' hA hnA b k hb
    obtain ⟨q, hq, rfl, hk, hsh⟩ := hlsp b k hb
    obtain ⟨j, k', g, s, vs, h1, _, hk', hsp, h2, h3, h4, h5, h6, h7, h8⟩ := hps q hq
    rw [hk] at hk'
    cases hk'
    exact ⟨by omega, hsp, g, s, vs, by rw [lendM_at hq]; exact h2, hnA q hq g s h2, h5, h6, h7, fun i u hu => shut_cont hsh hA hu (h8 i u hu)⟩
  have hptr : ∀ (A' : Nat → Prop) (i : Nat) (b : Nat) (v : Value), (8 * i + 7, b) ∈ lendB β 0 args → Rep F w m (.ptr b 0) v → Rep A' w (lendM m (lendB β 0 args)) (.ptr (8 * i + 7) 0) v := by
    intro A' i b v hmem hrep
    cases hrep with
    | ptr _ _ _ g s hm => exact .ptr _ _ _ _ _ ((lendM_at hmem).trans hm)
  -- what stays behind the call
  have fin : ∀ (F1 F2 : Nat → Prop) (w' : World) (v : Value), Keeps (fun g => ∃ b s, lendM m (lendB β 0 args) b = some (some ⟨g, s⟩)) w w' → (∀ g, F g → F2 g) → (∀ g, F2 g → F g ∨ w.heap.size ≤ g) → (∀ g, F2 g → g < w'.heap.size) →
      ResOk F2 w.heap.size w' r v → LentOk F1 w' (lendM m (lendB β 0 args)) ls' → (∀ b k, findB ls b = some k → ∃ k', findB ls' b = some k') →
      (∀ b k, findB ls' b = some k → ∀ (i : Nat) (u : LV) (x : Value) (m' : Map), k.x.vals[i]? = some u → Rep F1 w' noMap u x → Rep F2 w' m' u x) →
      ∃ v' m' F', (Ending.returned v) = .returned v' ∧ SR A w0 n m' F' ρ (updBs β ((if dst.isSome = true then bs else []) ++ cs)) a w' ∧ (∀ d, dst = some d → Rep F' w' m' u v') := by
    intro F1 F2 w' v hk hF hF' hlt hres hl2 hl3 hup
    have hc1 := optMap_mem hcs
    have hT : ∀ g, (∃ b s, lendM m (lendB β 0 args) b = some (some ⟨g, s⟩)) → ∃ p ∈ cs, ∃ k s, β p.1 = some k ∧ m p.1 = some (some ⟨g, s⟩) := by
      rintro g ⟨b, s, hb⟩
      obtain ⟨q, hq, rfl, h1⟩ := lendM_of hb
      obtain ⟨_, k, _, _, _, _, _, hk, _⟩ := hps q hq
      obtain ⟨y, hy, hf⟩ := hc1.2 q hq
      unfold backB at hf
      rcases hz : findB ls' q.1 with _ | k'
      · rw [hz] at hf; cases hf
      · rw [hz] at hf; cases hf
        exact ⟨_, hy, k, s, hk, h1⟩
    have hcs' : ∀ (m' : Map), (∀ b l, m b = some l → m' b = some l) → ∀ p ∈ cs, (∃ k, β p.1 = some k) ∧ p.2.spare = false ∧ BlkOk F2 w0.own w' m' p.1 p.2 := by
      intro m' hm p hp
      obtain ⟨q, hq, hf⟩ := hc1.1 p hp
      unfold backB at hf
      rcases hz : findB ls' q.1 with _ | k'
      · rw [hz] at hf; cases hf
      · rw [hz] at hf; cases hf
        obtain ⟨_, k, g0, s0, _, _, _, hk, hsp, h2, h3, h4, _⟩ := hps q hq
        obtain ⟨_, t1, g, s, ws, t2, t3, t4, t5, t6, t7⟩ := hl2 _ _ hz
        rw [lendM_at hq, h2] at t2
        cases t2
        have hg0 : g0 < w.heap.size := (S.old hk h2).1
        refine ⟨⟨k, hk⟩, t1, .inr ⟨g0, s0, ws, hm _ _ h2, fun hf => ?_, h4, t4, t5, fun _ => t6, Nat.le_of_eq t6, fun i u hu => hup _ _ hz i u _ m' hu (t7 i u hu)⟩⟩
        rcases hF' _ hf with hf | hf
        · exact h3 hf
        · omega
    rcases hd : dst with _ | d
    · refine ⟨v, m, F2, rfl, ?_, fun d hd => by cases hd⟩
      exact S.back (bs := []) (fun _ _ h => h) hk hT hF hF' hlt (hcs' m (fun _ _ h => h)) (by simp) (by simp) (fun b hb => absurd rfl hb) (by simp)
    · rw [hd] at hout
      obtain ⟨m', e1, e2, e3, e4, e5, e6⟩ := res_map (own := w0.own) (fun g hg => .inl (Nat.le_trans S.keeps.size hg)) m d (fun k hk => S.dom _ (hfree d hd k hk)) hres hout
      exact ⟨v, m', F2, rfl, S.back e1 hk hT hF hF' hlt (hcs' m' e1) e3 e4 e5 (fun p hp => w0.free (e6 p hp)), fun _ _ => e2⟩
  have hzip : ∀ (i : Nat) (d : LV), ds[i]? = some d → ∃ u, args[i]? = some u ∧ lendD β (hideB ((lendB β 0 args).map (·.2)) β) (u, i) = some d := by
    intro i d hd
    obtain ⟨x, hx, hf⟩ := o2 i d hd
    rw [List.getElem?_zipIdx] at hx
    rcases hq : args[i]? with _ | u
    · rw [hq] at hx; cases hx
    · rw [hq] at hx
      simp at hx
      subst hx
      exact ⟨u, rfl, hf⟩
  have hdsl : vs.size = ds.length := by rw [hsz, o1, List.length_zipIdx]
  by_cases hshut : (args.all fun u => (lentOf β u).isSome || u.shut 6) = true
  · refine (hcall w F (lendM m (lendB β 0 args)) vs hdsl S.flt (fun i d hd => ?_) (hlend F (fun _ h => h) (fun q hq g s hg => ?_)) hmn hmd S.globs).mono ?_
    · obtain ⟨u, hu, hf⟩ := hzip i d hd
      have hs := all_true hshut hu
      unfold lendD at hf
      simp only at hf
      split at hf
      · rename_i b hb
        cases hf
        obtain ⟨rfl, _⟩ := lentOf_of hb
        have hmem := lendB_mem args 0 i _ b hu hb
        rw [Nat.zero_add] at hmem
        exact hptr F i b _ hmem (hargs i _ hu)
      · rename_i hb
        have hs : u.shut 6 = true := by simpa [hb] using hs
        rw [expo_shut _ _ _ _ hs hf]
        exact (shut_rep (hargs i u hu) (fun _ h => h) hs).noMap_up _
    · obtain ⟨_, k, _, _, _, _, _, hk, _⟩ := hps q hq
      exact (S.old hk hg).2.1
    · rintro e w' ⟨v, F', rfl, hk, h1, h2, h3, h4, h5⟩
      exact fin F' F' w' v hk h1 (fun g hg => (h2 g hg).2) (fun g hg => (h2 g hg).1) h3 h4 h5 (fun b k hb i u x m' hu hx => hx.noMap_up m')
  · have hpure : r.pure = true ∧ (ls'.all fun p => p.2.x.pure) = true := by
      simp only [Bool.or_eq_true, Bool.and_eq_true] at hc
      rcases hc with hc | hc
      · exact hc
      · exact absurd hc hshut
    have hB' : ∀ b k, hideB ((lendB β 0 args).map (·.2)) β b = some k → BlkOk F w0.own w m b k := by
      intro b k hb
      unfold hideB at hb
      split at hb
      · cases hb
      · exact S.blks b k hb
    have hnew : ∀ g, w.heap.size ≤ g → ¬ F g := fun g hg hf => by have := S.flt g hf; omega
    refine (hcall w (FP F (hideB ((lendB β 0 args).map (·.2)) β) m) (lendM m (lendB β 0 args)) vs hdsl (fun g hg => ?_) (fun i d hd => ?_) (hlend _ (fun _ h => .inl h) (fun q hq g s hg => ?_)) hmn hmd (S.globs.mono (fun _ h => .inl h) fun _ _ => rfl)).mono ?_
    · rcases hg with hg | ⟨b, k, l, h1, h2, rfl⟩
      · exact S.flt g hg
      · obtain ⟨cs, q1, _⟩ := blk_cells (hB' b k h1) (g := l.g) (s := l.s) h2
        exact (Array.getElem?_eq_some_iff.1 q1).1
    · obtain ⟨u, hu, hf⟩ := hzip i d hd
      unfold lendD at hf
      simp only at hf
      split at hf
      · rename_i b hb
        cases hf
        obtain ⟨rfl, _⟩ := lentOf_of hb
        have hmem := lendB_mem args 0 i _ b hu hb
        rw [Nat.zero_add] at hmem
        exact hptr _ i b _ hmem (hargs i _ hu)
      · exact (expo_ok hB' _ _ _ _ (hargs i u hu) hf).noMap_up _
    · obtain ⟨_, k, _, _, _, _, _, hk, _⟩ := hps q hq
      rintro (hf | ⟨b', k', l', hb', hm', hg'⟩)
      · exact (S.old hk hg).2.1 hf
      · unfold hideB at hb'
        split at hb'
        · cases hb'
        · rename_i hnc
          have hne : b' ≠ q.2 := fun e => hnc (by rw [e]; simpa using hids q hq)
          exact S.sep b' q.2 k' k l' _ hb' hk hne hm' hg hg'
    · rintro e w' ⟨v, F', rfl, hk, h1, h2, h3, h4, h5⟩
      refine fin F' F w' v hk (fun _ h => h) (fun g hg => .inl hg) (fun g hg => Nat.lt_of_lt_of_le (S.flt g hg) hk.size) ?_ h4 h5 (fun b k hb i u x m' hu hx => pure_cont (List.all_eq_true.1 hpure.2 _ (findB_mem hb)) hu hx)
      cases r with
      | one r =>
        obtain ⟨gb, hgb⟩ := h3
        exact ⟨gb, hgb.pure (by simpa [LRes.pure] using hpure.1) hnew⟩
      | many l =>
        obtain ⟨ws, gbs, e1, e2, e3, e4⟩ := h3
        refine ⟨ws, gbs, e1, e2, fun i r hi => (e3 i r hi).pure ?_ hnew, e4⟩
        have hp : l.all RC.pure = true := hpure.1
        exact List.all_eq_true.1 hp r (List.mem_of_getElem? hi)
end
end Go.Proofs.YtdeigmjbcbjgeaaGreatDoor
