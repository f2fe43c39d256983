import Derived.Test.YtdeigmjbcbjgeaaGreatDoorYcME
import Derived.Test.YtdeigmjbcbjgeaaGreatDoorYcZeros
namespace Go.Proofs.YtdeigmjbcbjgeaaGreatDoor
open Go.RowKit
section
variable {P : Program} {E : Env} {A : Nat → Prop} {w0 : Fr} {n : Nat} {m : Map} {F : Nat → Prop} {ρ : Nat → LV} {β : Nat → Option Blk} {a : Act} {w : World}
theorem zero_cells (w : World) {zv : Value} {k : IntKind} (h : zeroCont zv = some (.flat k [0])) : zv.cells = (Value.int k 0).cells := by
 obtain ⟨h1, h2⟩ := zero_rep (F := fun _ => False) (w := w) (m := noMap) h
 have h3 := h2 0 (.v (.int k 0)) rfl
 have hs : zv.cells.size = 1 := h1
 apply Array.ext
 ·rw [hs]; rfl
 ·intro i hi1 hi2
  have hi : i = 0 := by omega
  subst hi
  rw [Array.getD_eq_getD_getElem?, Array.getElem?_eq_getElem hi1] at h3
  generalize hv : zv.cells[0] = v at h3 ⊢
  simp only [Option.getD_some] at h3
  cases h3
  rfl
theorem opZeros_ok (hT : ∀ t i, E.T t = some i → tiOf P t = some i) (S : SR A w0 n m F ρ β a w) {o : Oper} {t tn : Nat} {x y : Operand} (hop : o.op = .call { callee := .builtin .append, args := #[x, y], argTypes := #[t, tn] })
  {ls ly : LV} (hs : Rep F w m ls (a.eval x)) (hy : Rep F w m ly (a.eval y)) {p : Upd} (h : opZeros E β t tn ls ly = some p) {Q : Exit → Act → World → Prop} : o.wp P a w (MPost A w0 n ρ β o p) Q := by
 unfold opZeros at h
 split at h
 case h_2 => cases h
 rename_i kn _ _ _ _ kq q htn
 split at h
 case h_2 => cases h
 rename_i e z _ _ _ _ hti
 split at h
 case h_2 => cases h
 rename_i k _ by_ _ k' hte
 split at h
 case h_2 => cases h
 rename_i z' b N
 split at h
 case h_2 => cases h
 rename_i kb hk
 split at h
 case isFalse => cases h
 rename_i hc
 obtain ⟨rfl, rfl, rfl, hby, hq0, hq1, hN, hkl, hsp, hke, hf1⟩ := hc
 cases h
 obtain ⟨in1, dn, _, hdn, htdn, _, _, _, _⟩ := tiOf_spec (hT _ _ htn)
 have hdn' := td_int htdn
 subst hdn'
 obtain ⟨it, dt, hit, hdt, htd, _, _, _, _⟩ := tiOf_spec (hT _ _ hti)
 obtain ⟨rfl, j, hj, hjs⟩ := td_slice htd
 obtain ⟨i2, d2, hi2, hd2, htd2, _, hb2, _, hz2⟩ := tiOf_spec (hT _ _ hte)
 rw [hj] at hi2
 cases hi2
 obtain ⟨zv, hzv, hzc⟩ := hz2 _ rfl
 simp only at hb2
 have hbase := Nat.zero_le w.heap.size
 rw [Cont.len_vals] at hkl
 have hup : ∀ {B : Nat} {u : LV} {v : Value}, Rep F w m u v → u.ment B mentD = false → Rep F w (m.del B) u v := fun h hm => h.del _ _ hm
 generalize hve : a.eval x = vs at hs
 generalize hvy : a.eval y = vy at hy
 cases hy
 obtain ⟨cnt, rfl⟩ := Int.eq_ofNat_of_zero_le hq0
 have hrow : ∃ xs, w.ownsRow 0 e 1 vs N xs ∧ xs.length = kb.x.vals.length ∧ (∀ (i : Nat) (u : LV), kb.x.vals[i]? = some u → Rep F w (m.del b) u (xs.getD i undef)) ∧
   ∀ g, vs.ownBlock = some g → ¬ F g ∧ w0.own g ∧ ∀ b' k' l, loseβ β b b' = some k' → (m.del b) b' = some (some l) → l.g ≠ g := by
  cases hs with
  | sl _ _ _ _ _ _ g s ad c' hm ha hn' hkk hss hx =>
   have ha : ad = ⟨g, 0, none⟩ := by rcases ha with h | ⟨_, h, _⟩; exact h; omega
   subst ha
   have hs1 := hss rfl
   obtain ⟨cs, b1, b2, b3, b4⟩ := blk_cells (S.blks _ _ hk) hm
   obtain ⟨o1, o2, o3⟩ := S.old hk hm
   refine ⟨cs.toList.take (N * 1), ⟨by simp; omega, .inr ⟨g, c', cs, rfl, Nat.zero_le _, by rw [← hke]; exact b1, hn', by simpa [maxLen] using hx, by omega, rfl⟩⟩, by simp; omega, fun i u hu => ?_, fun g' hg' => ?_⟩
   ·have hi : i < N * 1 := by rw [Nat.mul_one, ← hkl]; exact lt_of_get hu
    have := hup (B := b) (b4.2 i u hu) (free_ment hf1 hu)
    rw [List.getD_eq_getElem?_getD, List.getElem?_take, if_pos hi, Array.getElem?_toList, ← Array.getD_eq_getD_getElem?]
    exact this
   ·have e : g = g' := by simpa [Value.ownBlock] using hg'
    subst e
    refine ⟨o2, o3, fun b' k' l hb' hl e => ?_⟩
    unfold loseβ at hb'
    split at hb'
    ·cases hb'
    ·rename_i hne
     rw [Map.del_of hne] at hl
     rcases hq : β b' with _ | k''
     ·rw [hq] at hb'; cases hb'
     ·exact S.sep b' b k'' kb l _ hq hk hne hl hm e
  | slNil _ _ _ _ hm hkk =>
   have hk0 : kb.x.vals = [] := List.eq_nil_of_length_eq_zero (by rw [hkl])
   exact ⟨[], World.ownsRow_nil _ _ _ _, by rw [hk0]; rfl, fun i u hu => by rw [hk0] at hu; simp at hu, fun g hg => by simp [Value.ownBlock] at hg⟩
 obtain ⟨xs, hown, hxl, hxr, hrw⟩ := hrow
 obtain ⟨v', w', hrun, ho, hg, hat⟩ := run_zeros_any (P := P) w 0 t tn o.type e j k kn kq hdt hdn hj zv hzv (zero_cells w hzc) hjs (by omega) vs N xs hown cnt (by omega) hbase
 have hrepZ : ∀ (i : Nat) (u : LV), (Cont.flat k (List.replicate cnt (0 : Int))).vals[i]? = some u → Rep F w (m.del b) u (((List.replicate cnt (0 : Int)).map (Value.int k)).getD i undef) := by
  intro i u hu
  simp only [Cont.vals, List.getElem?_map, Option.map_eq_some_iff] at hu
  obtain ⟨q, hq, rfl⟩ := hu
  rw [List.getD_eq_getElem?_getD, List.getElem?_map, hq]
  exact .v _ _ rfl
 obtain ⟨m', hS, hv⟩ := (S.lose b).appended (B := b) (x := kb.x) (y := .flat k (List.replicate cnt (0 : Int))) (by simp [loseβ]) (by
  rcases hq : w0.lend b with _ | g
  ·rfl
  ·have := (S.lent b g kb hq hk).1
   rw [hsp] at this; cases this) hrw hg ho hat (by simpa using hkl) (by simp [Cont.vals]) hxl hxr hrepZ
 refine wp_value (v := v') (w' := w') ?_ ⟨m', _, hS.put o.dst hv⟩
 simp only [execOp, hop, resolve, invoke, builtin, Sem.run_bind, Sem.run_pure, Result.andThen_ok, List.map_toArray, List.map_cons, List.map_nil, hve, hvy, hrun]
end
end Go.Proofs.YtdeigmjbcbjgeaaGreatDoor
namespace Go.Proofs.YtdeigmjbcbjgeaaGreatDoor
open Go.RowKit
section
variable {P : Program} {E : Env} {A : Nat → Prop} {w0 : Fr} {n : Nat} {m : Map} {F : Nat → Prop} {ρ : Nat → LV} {β : Nat → Option Blk} {a : Act} {w : World}
theorem opCopy_ok (hT : ∀ t i, E.T t = some i → tiOf P t = some i) (S : SR A w0 n m F ρ β a w) {o : Oper} {t : Nat} {x y : Operand} (hop : o.op = .call { callee := .builtin .copy, args := #[x, y], argTypes := #[t, t] })
  {ls ly : LV} (hs : Rep F w m ls (a.eval x)) (hy : Rep F w m ly (a.eval y)) {p : Upd} (h : opCopy E β t ls ly = some p) {Q : Exit → Act → World → Prop} : o.wp P a w (MPost A w0 n ρ β o p) Q := by
 unfold opCopy at h
 split at h
 case h_2 => cases h
 rename_i e0 z0 _ _ _ _ z b off N c hti
 split at h
 case h_2 => cases h
 rename_i yc cnt k hsh hk
 split at h
 case isFalse => cases h
 rename_i hc
 obtain ⟨rfl, hlv⟩ := hc
 split at h
 case h_2 => cases h
 rename_i y' hy'
 split at h
 case h_2 => cases h
 rename_i x' hx'
 cases h
 obtain ⟨it, dt, hit, hdt, htd, _, _, _, _⟩ := tiOf_spec (hT _ _ hti)
 obtain ⟨rfl, j, hj, hjs⟩ := td_slice htd
 obtain ⟨news, hn⟩ := news_of S.blks hy hsh hlv
 obtain ⟨y1, y2⟩ := Cont.cut_vals hy'
 have hylen : y'.vals.length = min cnt N * z := by rw [y2]; simp; omega
 have hlay := Cont.lay_vals (x := k.x) (y := y') (o := off) hx'
 generalize hve : a.eval x = vs at hs
 have fin : ∀ (w' : World), (Builtin.copy_ #[t, t] o.type #[vs, a.eval y]).run P w = .ok (goInt (min cnt N : Nat)) w' → SR A w0 n m F ρ (updBs β [(b, ⟨x', k.e, k.spare⟩)]) a w' →
   o.wp P a w (MPost A w0 n ρ β o ⟨none, none, .v (.int .i64 (min cnt N : Nat)), [(b, ⟨x', k.e, k.spare⟩)]⟩) Q := by
  intro w' hrun hS
  refine wp_value (v := goInt (min cnt N : Nat)) (w' := w') ?_ ⟨m, F, hS.put o.dst (.v _ _ rfl)⟩
  simp only [execOp, hop, resolve, invoke, builtin, Sem.run_bind, Sem.run_pure, Result.andThen_ok, List.map_toArray, List.map_cons, List.map_nil, hve, hrun]
 by_cases h0 : min cnt N * z = 0
 ·have hy0 : y'.vals = [] := List.eq_nil_of_length_eq_zero (by rw [hylen, h0])
  refine fin w ?_ (S.same hk (x := x') (by rw [hlay.2, hy0]; simp))
  have hfirst : ∀ v, (∃ ad c, v = Value.slice ad cnt c) → (Builtin.firstCells z (min cnt N) v).run P w = .ok #[] w := by
   rintro v ⟨ad, c, rfl⟩
   rcases ad with _ | ad
   ·simp [Builtin.firstCells]
   ·simp [Builtin.firstCells, loadCells, h0, loadCellsFrom]
  have hyv : ∃ ad c, a.eval y = .slice ad cnt c := by
   rcases hn.val with ⟨rfl, h⟩ | ⟨ad, c, h, _⟩
   ·exact ⟨none, 0, h⟩
   ·exact ⟨_, _, h⟩
  have hf := hfirst _ hyv
  obtain ⟨ad2, c2, hyv⟩ := hyv
  rw [hyv] at hf ⊢
  have hd : ∃ ad c, vs = .slice ad N c := by cases hs <;> exact ⟨_, _, rfl⟩
  obtain ⟨ad1, c1, rfl⟩ := hd
  have hmin : Nat.min cnt N = min cnt N := rfl
  rcases ad1 with _ | ad1
  ·simp [Builtin.copy_, run_underlying hdt, Builtin.lenOf, run_sizeOfI hj, hjs, hmin, hf]
  ·simp [Builtin.copy_, run_underlying hdt, Builtin.lenOf, run_sizeOfI hj, hjs, hmin, hf, storeCells]
 ·have hN : N ≠ 0 := by intro h; subst h; simp at h0
  have hcnt : cnt ≠ 0 := by intro h; subst h; simp at h0
  cases hs with
  | slNil => exact absurd rfl hN
  | sl _ _ _ _ _ _ g s ad c' hm ha hn' hkk hss hx =>
   have ha : ad = ⟨g, off, none⟩ := by rcases ha with h | ⟨h, _⟩; exact h; exact absurd h hN
   subst ha
   obtain ⟨cs, b1, b2, b3, b4⟩ := blk_cells (S.blks _ _ hk) hm
   rcases hn.val with ⟨h, _⟩ | ⟨ad2, c2, hyv, hcell⟩
   ·exact absurd h hcnt
   ·have hle : min cnt N * z ≤ cnt * z := Nat.mul_le_mul_right _ (Nat.min_le_left _ _)
    have hnl : (news.take (min cnt N * z)).length = min cnt N * z := by rw [List.length_take, hn.nlen]; omega
    have hld := run_loadCells_list (P := P) w ad2 (news.take (min cnt N * z)) (fun i v hv => by
     rw [List.getElem?_take] at hv
     split at hv
     ·exact hcell i v hv
     ·cases hv)
    rw [hnl] at hld
    obtain ⟨l1, l2, l3⟩ := lay_cells (F := F) (w := w) (m := m) (cs := cs) (vs := news.take (min cnt N * z)) (off := off) b4.2 (by omega) (by rw [hnl, hylen]) (fun i u hu => by
     rw [y2, List.drop_zero, List.getElem?_take] at hu
     split at hu
     ·rename_i hi
      have := hn.rep i u hu
      rw [List.getD_eq_getElem?_getD, List.getElem?_take, if_pos hi, ← List.getD_eq_getElem?_getD]
      exact this
     ·cases hu) hlay
    have hst := run_storeCells_at P g off k.e (news.take (min cnt N * z)) 0 cs w b1 (by have := hlay.1; rw [hnl, ← hylen]; omega) (fun v hv => hn.one v (List.mem_of_mem_take hv))
    rw [Nat.add_zero] at hst
    refine fin _ ?_ (S.write hk hm (x := x') (by rw [l2, b2]) l1 l3)
    have hmin : Nat.min cnt N = min cnt N := rfl
    rw [hyv]
    simp [Builtin.copy_, run_underlying hdt, Builtin.lenOf, run_sizeOfI hj, hjs, hmin, Builtin.firstCells, hld, hst]
theorem slot_map (l : List LV) (f : LV → LV) (hf : f .poison = .poison) (t : Nat) : (l.map f).getD t .poison = f (l.getD t .poison) := by
 rw [List.getD_eq_getElem?_getD, List.getD_eq_getElem?_getD, List.getElem?_map]
 rcases l[t]? with _ | u
 ·exact hf.symm
 ·rfl
theorem findB_filter (g : Blk → Blk) (B : Nat) : ∀ (l : List (Nat × Blk)) (b : Nat), findB ((l.filter fun p => p.1 != B).map fun p => (p.1, g p.2)) b = if b = B then none else (findB l b).map g
 | [], b => by simp [findB]
 | (i, k) :: l, b => by
  have ih := findB_filter g B l b
  by_cases hi : i = B
  ·subst hi
   simp only [List.filter_cons, bne_self_eq_false, Bool.false_eq_true, if_false, ih]
   by_cases hb : b = i
   ·simp [hb]
   ·have h1 : ¬ i = b := fun e => hb e.symm
    simp [hb, findB, h1]
  ·have h1 : (i != B) = true := by simpa using hi
   simp only [List.filter_cons, h1, if_true, List.map_cons, findB, ih]
   by_cases hb : i = b
   ·subst hb; simp [hi]
   ·simp [hb]
theorem findB_setB : ∀ (l : List (Nat × Blk)) (b : Nat) (k : Blk) (c : Nat), findB (setB l b k) c = if b = c then some k else findB l c
 | [], b, k, c => by simp [setB, findB]
 | (i, k') :: l, b, k, c => by
  unfold setB
  split
  ·rename_i h
   subst h
   simp only [findB]
   split <;> simp_all
  ·rename_i h
   simp only [findB, findB_setB l b k c]
   by_cases h1 : i = c
   ·subst h1
    have h1 : ¬ b = i := fun e => h e.symm
    simp [h1]
   ·simp [h1]
theorem findB_setBs : ∀ (bs l : List (Nat × Blk)), findB (setBs l bs) = updBs (findB l) bs
 | [], l => rfl
 | p :: bs, l => by
  simp only [setBs, updBs]
  rw [findB_setBs bs]
  congr 1
  funext c
  exact findB_setB l p.1 p.2 c
theorem St.lose_fn (st : St) (B : Nat) : (st.lose B).slot = (fun t => (st.slot t).lose B) ∧ (st.lose B).blk = loseβ st.blk B :=
 ⟨funext fun t => slot_map _ _ rfl t, funext fun b => findB_filter (fun k => ⟨k.x.lose B, k.e, k.spare⟩) B st.blks b⟩
theorem St.calm_fn (st : St) (B : Nat) (k : Blk) : (st.calm B k).slot = (fun t => (st.slot t).calm B k) ∧ (st.calm B k).blk = calmβ st.blk B k :=
 ⟨funext fun t => slot_map _ _ rfl t, funext fun b => findB_filter (fun j => ⟨j.x.calm B k, j.e, j.spare⟩) B st.blks b⟩
theorem St.pre_fn (st : St) (p : Upd) : (st.pre p).slot = preR st.slot st.blk p ∧ (st.pre p).blk = preB st.blk p ∧ (st.pre p).tmps.length = st.tmps.length := by
 obtain ⟨g, c, u, bs⟩ := p
 rcases g with _ | B
 ·rcases c with _ | B
  ·exact ⟨rfl, rfl, rfl⟩
  ·simp only [St.pre, preR, preB, St.calmO]
   rcases hk : st.blk B with _ | k
   ·exact ⟨rfl, rfl, rfl⟩
   ·exact ⟨(St.calm_fn st B k).1, (St.calm_fn st B k).2, by simp [St.calm]⟩
 ·exact ⟨(St.lose_fn st B).1, (St.lose_fn st B).2, by simp [St.pre, St.lose]⟩
theorem putT_slot (l : List LV) (dst : Option Nat) (u : LV) : (fun t => (putT l dst u).getD t LV.poison) = updR l.length (fun t => l.getD t LV.poison) dst u := by
 funext t
 unfold putT updR
 cases dst with
 | none => rfl
 | some d =>
  simp only [List.getD_eq_getElem?_getD, List.getElem?_set]
  by_cases h : d = t
  ·subst h
   by_cases hd : d < l.length <;> simp [hd]
  ·have h1 : ¬ t = d := fun e => h e.symm
   simp [h, h1]
theorem St.app_fn (st : St) (dst : Option Nat) (p : Upd) : (st.app dst p).slot = updR st.tmps.length (preR st.slot st.blk p) dst p.u ∧ (st.app dst p).blk = updBs (preB st.blk p) p.bs ∧ (st.app dst p).tmps.length = st.tmps.length := by
 obtain ⟨h1, h2, h3⟩ := St.pre_fn st p
 refine ⟨?_, ?_, ?_⟩
 ·have := putT_slot (st.pre p).tmps dst p.u
  rw [h3] at this
  rw [← h1]
  exact this
 ·rw [← h2]; exact findB_setBs _ _
 ·show (putT (st.pre p).tmps dst p.u).length = _
  rw [← h3]
  unfold putT
  split <;> simp
def SRs (A : Nat → Prop) (w0 : Fr) (st : St) (a : Act) (w : World) : Prop := ∃ m F, SR A w0 st.tmps.length m F st.slot st.blk a w
theorem wantL_ok {ops : List Oper} {o : Oper} {b : Bool} (hs : ∀ t, Rep F w m (ρ t) (a.tmps.getD t undef)) (h : wantL ops ρ o = some b) : Region.wanted o (yielded ops.toArray a.tmps) = b := by
 unfold wantL at h
 unfold Region.wanted
 split at h
 ·rename_i hg; rw [hg]; cases h; rfl
 ·rename_i j want hg
  rw [hg]
  split at h
  ·rename_i d hd
   have hr := hs d
   simp only [yielded]
   have hd' : (ops.toArray[j]?).bind (·.dst) = some d := by simpa using hd
   rw [hd']
   split at h
   ·rename_i b' hb
    rw [hb] at hr
    generalize hv : a.tmps.getD d undef = v at hr
    cases hr
    have h1 : a.tmps[d]? = some (.bool b') := by
     rw [Array.getD_eq_getD_getElem?] at hv
     rcases hq : a.tmps[d]? with _ | u
     ·rw [hq] at hv; simp [undef] at hv
     ·rw [hq] at hv; simp at hv; rw [hv]
    cases h
    simp [h1]
   ·rename_i hb
    rw [hb] at hr
    generalize hv : a.tmps.getD d undef = v at hr
    cases hr
    rename_i vs hl hr
    rw [Array.getD_eq_getD_getElem?] at hv
    cases h
    rcases hq : a.tmps[d]? with _ | u
    ·simp [hq]
    ·rw [hq] at hv
     simp at hv
     subst hv
     simp [hq]
   ·cases h
  ·cases h
theorem fresh_of {st : St} {o : Oper} (h : freshD st o = true) : makes o.op = true → ∀ d, o.dst = some d → ∀ k, k < 8 → st.blk (8 * d + k) = none := by
 intro hm d hd k hk
 unfold freshD at h
 rw [hm, hd] at h
 simp only [Bool.not_true, Bool.false_or, List.all_eq_true, bne_iff_ne, ne_eq] at h
 have key : ∀ l : List (Nat × Blk), (∀ p ∈ l, ¬ p.1 / 8 = d) → findB l (8 * d + k) = none := by
  intro l
  induction l with
  | nil => intro _; rfl
  | cons p l ih =>
   intro hp
   obtain ⟨i, b⟩ := p
   have h1 := hp (i, b) (List.mem_cons_self ..)
   simp only at h1
   have h2 : i ≠ 8 * d + k := by omega
   simp only [findB, if_neg h2]
   exact ih (fun p hp' => hp p (List.mem_cons_of_mem _ hp'))
 exact key _ h
theorem mopX0_ok (hE : EnvOk P E) (S : SR A w0 n m F ρ β a w) {o : Oper} {xs : List LV} (hxs : optMap (evalO ρ) (opers o.op) = some xs) {p : Upd} (h : mopX0 E β o.dst o.op xs = some p) {Q : Exit → Act → World → Prop} :
  o.wp P a w (MPost A w0 n ρ β o p) Q := by
 obtain ⟨hl, hr⟩ := opers_rep S.slots S.globs hxs
 unfold mopX0 at h
 split at h
 ·rename_i t x y lp lu hop
  rw [hop] at hr
  exact opStore_ok hE.T S hop (hr 0 _ x rfl rfl) (hr 1 _ y rfl rfl) h
 ·rename_i c ls ly hop
  obtain ⟨callee, args, ts⟩ := c
  simp only at h
  have two : (∀ f, callee ≠ .value f) → ∃ x y, args = #[x, y] ∧ Rep F w m ls (a.eval x) ∧ Rep F w m ly (a.eval y) := by
   intro hc
   have ho : opers (.call { callee := callee, args := args, argTypes := ts }) = args.toList := by
    cases callee with
    | value f => exact absurd rfl (hc f)
    | invoke r nm => rfl
    | builtin bn => rfl
   rw [hop, ho] at hl hr
   have h2 : args.size = 2 := by simpa using hl.symm
   refine ⟨args[0], args[1], ?_, hr 0 _ _ rfl (by simp [h2]), hr 1 _ _ rfl (by simp [h2])⟩
   apply Array.ext
   ·simp [h2]
   ·intro i h3 h4
    have : i = 0 ∨ i = 1 := by simp at h4; omega
    rcases this with rfl | rfl <;> rfl
  split at h
  ·rename_i t t' hts
   obtain ⟨x, y, rfl, h1, h2⟩ := two (fun f => by simp)
   split at h
   ·rename_i d hd
    split at h
    ·rename_i htt
     subst htt
     have hts' : ts = #[t, t] := by rw [← Array.toArray_toList (xs := ts), hts]
     subst hts'
     exact opAppend_ok hE.T S hop h1 h2 h
    ·have hts' : ts = #[t, t'] := by rw [← Array.toArray_toList (xs := ts), hts]
     subst hts'
     exact opZeros_ok hE.T S hop h1 h2 h
   ·cases h
  ·rename_i t t' hts
   obtain ⟨x, y, rfl, h1, h2⟩ := two (fun f => by simp)
   split at h
   ·rename_i htt
    subst htt
    have hts' : ts = #[t, t] := by rw [← Array.toArray_toList (xs := ts), hts]
    subst hts'
    exact opCopy_ok hE.T S hop h1 h2 h
   ·cases h
  ·cases h
 ·cases h
theorem mopX_ok (hE : EnvOk P E) (S : SR A w0 n m F ρ β a w) {o : Oper} {xs : List LV} (hxs : optMap (evalO ρ) (opers o.op) = some xs) (hfree : makes o.op = true → ∀ d, o.dst = some d → ∀ k, k < 8 → β (8 * d + k) = none) {p : Upd} (h : mopX E β o.dst o.op xs = some p)
  {Q : Exit → Act → World → Prop} : o.wp P a w (MPost A w0 n ρ β o p) Q := by
 unfold mopX at h
 split at h
 case h_2 => exact mopX0_ok hE S hxs h
 rename_i f ags hw
 split at h
 case isFalse => cases h
 unfold wcall at hw
 split at hw
 case h_3 => cases hw
 case h_2 =>
  rename_i t args ts hop
  split at hw
  case h_2 => cases hw
  rename_i f' l xs
  cases hw
  obtain ⟨hl, hr⟩ := opers_rep S.slots S.globs hxs
  rw [hop] at hl hr
  have h0 := hr 0 _ (.tmp t) rfl rfl
  have hl' : xs.length = args.size := by simpa [opers] using hl
  generalize hv : a.eval (.tmp t) = fv at h0
  cases h0 with
  | fn _ _ _ vs hvl hvr =>
   have hargs : ∀ (i : Nat) (u : LV), (xs ++ l)[i]? = some u → Rep F w m u ((args.map a.eval ++ vs).getD i undef) := by
    intro i u hu
    rw [Array.getD_eq_getD_getElem?]
    by_cases hi : i < xs.length
    ·rw [List.getElem?_append_left hi] at hu
     rw [Array.getElem?_append_left (by simp; omega)]
     have := hr (i + 1) u args[i] (by simpa using hu) (by simp [opers, show i < args.size by omega])
     simpa [show i < args.size by omega] using this
    ·rw [List.getElem?_append_right (by omega)] at hu
     rw [Array.getElem?_append_right (by simp; omega), ← Array.getD_eq_getD_getElem?]
     have := hvr _ u hu
     simpa [hl'] using this
   obtain ⟨g1, g2, ⟨fn, q1, q2, q3⟩, hcall⟩ := callW_ok hE S (by simp [hl', hvl]) hargs (hfree (by rw [hop]; rfl)) h
   have hrun : (execOp a.eval o).run P w = .ok (.enter f (args.map a.eval ++ vs)) w := by
    have hbn : ¬ fn.body = none := fun hb => by simp [hb] at q3
    simp [execOp, hop, resolve, hv, Deferred.ofValue, invoke, callFunc, q1, q2, hbn]
   have e1 : preR ρ β p = ρ := by unfold preR; rw [g1, g2]
   have e2 : preB β p = β := by unfold preB; rw [g1, g2]
   unfold Oper.wp
   rw [hrun, Oper.upon_enter]
   refine hcall.mono ?_
   rintro e w' ⟨v, m', F', rfl, h1, h2⟩
   refine ⟨m', F', ?_⟩
   rw [e1, e2]
   rcases hd : o.dst with _ | d
   ·exact h1
   ·exact h1.put (some d) (h2 d hd)
 rename_i f' args ts hop
 cases hw
 obtain ⟨hl, hr⟩ := opers_rep S.slots S.globs hxs
 rw [hop] at hl hr
 have hl' : xs.tail.length = args.size := by simp [opers] at hl; simp [hl]
 have hargs : ∀ (i : Nat) (u : LV), xs.tail[i]? = some u → Rep F w m u ((args.map a.eval).getD i undef) := by
  intro i u hu
  have hi : i < args.size := by rw [← hl']; exact lt_of_get hu
  have := hr (i + 1) u args[i] (by simpa [List.getElem?_tail] using hu) (by simp [opers, hi])
  simpa [Array.getD_eq_getD_getElem?, hi] using this
 obtain ⟨g1, g2, ⟨fn, q1, q2, q3⟩, hcall⟩ := callW_ok hE S (by simp [hl']) hargs (hfree (by rw [hop]; rfl)) h
 have hrun : (execOp a.eval o).run P w = .ok (.enter f (args.map a.eval)) w := by
  have hbn : ¬ fn.body = none := fun hb => by simp [hb] at q3
  simp [execOp, hop, resolve, Act.eval, Deferred.ofValue, invoke, callFunc, q1, q2, hbn]
 have e1 : preR ρ β p = ρ := by unfold preR; rw [g1, g2]
 have e2 : preB β p = β := by unfold preB; rw [g1, g2]
 unfold Oper.wp
 rw [hrun, Oper.upon_enter]
 refine hcall.mono ?_
 rintro e w' ⟨v, m', F', rfl, h1, h2⟩
 refine ⟨m', F', ?_⟩
 rw [e1, e2]
 rcases hd : o.dst with _ | d
 ·exact h1
 ·have := h1.put (some d) (h2 d hd)
  exact this
theorem opStep_ok (hE : EnvOk P E) {ops : List Oper} {st : St} {o : Oper} {p : Upd} (S : SRs A w0 st a w) (h : opStep E ops st o = some p) {Q : Exit → Act → World → Prop} :
  (Region.wanted o (yielded ops.toArray a.tmps) = true ∧ o.wp P a w (SRs A w0 (st.app o.dst p)) Q) ∨ (Region.wanted o (yielded ops.toArray a.tmps) = false ∧ SRs A w0 (st.app o.dst p) (a.put o.dst undef) w) := by
 obtain ⟨m, F, S⟩ := S
 obtain ⟨f1, f2, f3⟩ := St.app_fn st o.dst p
 unfold opStep at h
 split at h
 ·rename_i hw
  refine .inl ⟨wantL_ok S.slots hw, ?_⟩
  split at h
  ·rename_i hfr
   split at h
   ·rename_i u bs hv
    cases h
    refine Oper.wp_mono (fun a' w' hp => ?_) (vop_ok hE S (fresh_of hfr) hv)
    obtain ⟨m', F', S'⟩ := hp
    refine ⟨m', F', ?_⟩
    rw [f3, f1, f2]
    exact S'
   ·split at h
    ·rename_i xs hxs
     refine Oper.wp_mono (fun a' w' hp => ?_) (mopX_ok hE S hxs (fresh_of hfr) h)
     obtain ⟨m', F', S'⟩ := hp
     refine ⟨m', F', ?_⟩
     rw [f3, f1, f2]
     exact S'
    ·cases h
  ·cases h
 ·rename_i hw
  cases h
  refine .inr ⟨wantL_ok S.slots hw, m, F, ?_⟩
  rw [f3, f1, f2]
  exact S.put o.dst undef_rep
 ·cases h
end
end Go.Proofs.YtdeigmjbcbjgeaaGreatDoor
