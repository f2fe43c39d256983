import Derived.Laws.Sem
import Derived.Test.YtdeigmjbcbjgeaaGreatDoorYcMO
namespace Go.Proofs.YtdeigmjbcbjgeaaGreatDoor
open Go.RowKit
section
variable {P : Program} {E : Env} {A : Nat → Prop} {w0 : Fr} {a : Act} {w : World}
theorem calmO_ok {st : St} (S : SRs A w0 st a w) (b : Nat) : SRs A w0 (st.calmO b) a w := by
 obtain ⟨m, F, S⟩ := S
 unfold St.calmO
 split
 ·rename_i k hk
  refine ⟨m.del b, calmF F m b, ?_⟩
  have := S.calm hk
  have hl : (st.calm b k).tmps.length = st.tmps.length := by simp [St.calm]
  rw [hl, (St.calm_fn st b k).1, (St.calm_fn st b k).2]
  exact this
 ·exact ⟨m, F, S⟩
theorem calmAll_ok : ∀ (l : List (Nat × Blk)) {st : St}, SRs A w0 st a w → SRs A w0 (st.calmAll l) a w
 | [], _, S => S
 | (b, _) :: l, _, S => calmAll_ok l (calmO_ok S b)
theorem ready_ok {ops : List Oper} {st : St} (S : SRs A w0 st a w) : SRs A w0 (ready ops st) a w := calmAll_ok _ S
theorem SRs.drew {st : St} (S : SRs A w0 st a w) : SRs A w0 st a { w with drawn := w.drawn + 1 } := by
 obtain ⟨m, F, S⟩ := S
 exact ⟨m, F, S.world ⟨rfl, rfl, rfl, Nat.le_refl _, fun _ _ _ => rfl⟩⟩
theorem opSteps_ok (hE : EnvOk P E) {ops : List Oper} {stE : St} {Q : Exit → Act → World → Prop} (hQ : ∀ a' w', SRs A w0 stE a' w' → Q .normal a' w') :
  ∀ (l : List Oper) (st : St) (a : Act) (w : World), opSteps E ops l st = some stE → SRs A w0 st a w → wpList P ops.toArray Q l a w
 | [], st, a, w, h, S => by
  simp only [opSteps, Option.some.injEq] at h
  subst h
  exact hQ a w S
 | o :: l, st, a, w, h, S => by
  simp only [opSteps] at h
  split at h
  ·rename_i p hp
   rw [St.appK_eq] at h
   unfold wpList
   rcases opStep_ok hE S hp (Q := Q) with ⟨hw, hwp⟩ | ⟨hw, hS⟩
   ·rw [if_pos hw]
    exact .inl (Oper.wp_mono (fun a' w' hS => opSteps_ok hE hQ l _ a' w' h hS) hwp)
   ·rw [if_neg (by rw [hw]; simp)]
    exact opSteps_ok hE hQ l _ _ _ h hS
  ·cases h
theorem runR_ok (hm : P.follows .mixedOrders = true) (hE : EnvOk P E) {id : Nat} {ops : Array Oper} {draw : Bool} {st st' : St} (S : SRs A w0 st a w) (h : runR E ops.toList draw st = some st') :
  (Code.region id ops draw).wp P (fun e a' w' => e = .normal ∧ SRs A w0 st' a' w') a w := by
 unfold runR at h
 split at h
 ·rename_i hd
  subst hd
  simp only at h
  split at h
  ·rename_i hreg
   rw [readyK_eq] at h
   split at h
   ·rename_i st1 hst1
    obtain ⟨N1, t1, t2, t3, t4⟩ := tail2_spec ops.toList (ready ops.toList st) (deps ops.toList [])
    refine wp_region_any hm ?_
    have := wpAny_ok (P := P) (A := A) (w0 := w0) (a := a) (w := { w with drawn := w.drawn + 1 }) hE t1 t2 hreg t3 t4 hst1 h (ready_ok S.drew) (Q := fun e a' w' => e = .normal ∧ SRs A w0 st' a' w') (fun _ _ h => ⟨rfl, h⟩)
    simpa using this
   ·cases h
  ·cases h
 ·rename_i hd
  have hd : draw = false := by simpa using hd
  subst hd
  rw [readyK_eq] at h
  refine wp_region_list ?_
  have := opSteps_ok (P := P) (A := A) (w0 := w0) hE (ops := ops.toList) (Q := fun e a' w' => e = .normal ∧ SRs A w0 st' a' w') (fun _ _ h => ⟨rfl, h⟩) _ _ a w h (ready_ok S)
  simpa using this
def exitOf : Ex → Exit
 | .norm => .normal
 | .exit id => .exit id
 | .ret => .ret
theorem least {p : Nat → Prop} (h : ∃ k, p k) : ∃ k, p k ∧ ∀ j, p j → k ≤ j := by
 obtain ⟨k, hk⟩ := h
 induction k using Nat.strongRecOn with
 | _ k ih =>
  by_cases hc : ∃ j, j < k ∧ p j
  ·obtain ⟨j, hj, hp⟩ := hc
   exact ih j hj hp
  ·exact ⟨k, hk, fun j hj => Nat.not_lt.1 fun hlt => hc ⟨j, hlt, hj⟩⟩
noncomputable def leastOf (p : Nat → Prop) : Nat := Classical.epsilon fun k => p k ∧ ∀ j, p j → k ≤ j
theorem leastOf_spec {p : Nat → Prop} (h : ∃ k, p k) : p (leastOf p) ∧ ∀ j, p j → leastOf p ≤ j := Classical.epsilon_spec (p := fun k => p k ∧ ∀ j, p j → k ≤ j) (least h)
theorem loop_ok {c : Code} {body : St → Option (Ex × St)} {x : Ex} {st' : St}
  (hb : ∀ (st st1 : St) (y : Ex) (a : Act) (w : World), SRs A w0 st a w → body st = some (y, st1) → c.wp P (fun e a' w' => e = exitOf y ∧ SRs A w0 st1 a' w') a w)
  {n : Nat} {st : St} (S : SRs A w0 st a w) (h : loopN body n st = some (x, st')) (hx : x ≠ .norm) : (Code.loop c).wp P (fun e a' w' => e = exitOf x ∧ SRs A w0 st' a' w') a w := by
 let p : Act → World → Nat → Prop := fun a w k => ∃ st, SRs A w0 st a w ∧ loopN body k st = some (x, st')
 refine wp_loop (fun a w => ∃ k, p a w k) (fun a w => leastOf (p a w)) ⟨n, st, S, h⟩ (fun a w hI => ?_)
 obtain ⟨⟨st, S, h⟩, hmin⟩ := leastOf_spec hI
 generalize leastOf (p a w) = k at h hmin
 cases k with
 | zero => cases h
 | succ k =>
  simp only [loopN] at h
  split at h
  ·rename_i st1 hst1
   refine Code.wp_mono ?_ (hb _ _ _ a w S hst1)
   rintro e a' w' ⟨rfl, S1⟩
   have hp : p a' w' k := ⟨st1, S1, h⟩
   exact ⟨⟨k, hp⟩, Nat.lt_succ_of_le ((leastOf_spec ⟨k, hp⟩).2 k hp)⟩
  ·rename_i r hne
   refine Code.wp_mono ?_ (hb _ _ _ a w S h)
   rintro e a' w' ⟨rfl, S1⟩
   cases x with
   | norm => exact absurd rfl hx
   | exit i => exact ⟨rfl, S1⟩
   | ret => exact ⟨rfl, S1⟩
theorem loopN_ne {body : St → Option (Ex × St)} {x : Ex} {st' : St} : ∀ (n : Nat) (st : St), loopN body n st = some (x, st') → x ≠ .norm
 | 0, _, h => by cases h
 | n + 1, st, h => by
  simp only [loopN] at h
  split at h
  ·exact loopN_ne n _ h
  ·rename_i r hne
   intro hx
   subst hx
   exact hne _ h
theorem runC_ok (hm : P.follows .mixedOrders = true) (hE : EnvOk P E) (fuel : Nat) : ∀ (c : Code) (st st' : St) (x : Ex) (a : Act) (w : World), SRs A w0 st a w → runC E fuel c st = some (x, st') →
  c.wp P (fun e a' w' => e = exitOf x ∧ SRs A w0 st' a' w') a w := by
 intro c
 induction c with
 | skip =>
  intro st st' x a w S h
  simp only [runC, Option.some.injEq, Prod.mk.injEq] at h
  obtain ⟨rfl, rfl⟩ := h
  exact wp_skip ⟨rfl, S⟩
 | label l =>
  intro st st' x a w S h
  simp only [runC, Option.some.injEq, Prod.mk.injEq] at h
  obtain ⟨rfl, rfl⟩ := h
  exact wp_label ⟨rfl, S⟩
 | exit id =>
  intro st st' x a w S h
  simp only [runC, Option.some.injEq, Prod.mk.injEq] at h
  obtain ⟨rfl, rfl⟩ := h
  exact wp_exit ⟨rfl, S⟩
 | ret =>
  intro st st' x a w S h
  simp only [runC, Option.some.injEq, Prod.mk.injEq] at h
  obtain ⟨rfl, rfl⟩ := h
  exact wp_ret ⟨rfl, S⟩
 | region id ops draw =>
  intro st st' x a w S h
  simp only [runC] at h
  rcases hq : runR E ops.toList draw st with _ | st1
  ·rw [hq] at h; cases h
  ·rw [hq] at h
   cases h
   exact runR_ok hm hE S hq
 | seq c1 c2 ih1 ih2 =>
  intro st st' x a w S h
  simp only [runC] at h
  split at h
  ·rename_i st1 hst1
   refine wp_seq (Code.wp_mono ?_ (ih1 _ _ _ a w S hst1))
   rintro e a' w' ⟨rfl, S1⟩
   exact ih2 _ _ _ a' w' S1 h
  ·rename_i r hne
   refine wp_seq (Code.wp_mono ?_ (ih1 _ _ _ a w S h))
   rintro e a' w' ⟨rfl, S1⟩
   cases x with
   | norm => exact absurd h (hne _)
   | exit i => exact ⟨rfl, S1⟩
   | ret => exact ⟨rfl, S1⟩
 | cond c c1 c2 ih1 ih2 =>
  intro st st' x a w S h
  simp only [runC] at h
  have key : ∀ b, evalO st.slot c = some (.v (.bool b)) → a.eval c = .bool b := by
   intro b hb
   obtain ⟨m, F, S⟩ := S
   have := evalO_ok S.slots S.globs hb
   generalize a.eval c = v at this
   cases this
   rfl
  split at h
  ·rename_i hc
   exact wp_cond_true (key _ hc) (ih1 _ _ _ a w S h)
  ·rename_i hc
   exact wp_cond_false (key _ hc) (ih2 _ _ _ a w S h)
  ·cases h
 | block id b ih =>
  intro st st' x a w S h
  simp only [runC] at h
  split at h
  ·rename_i i st1 hst1
   split at h
   ·rename_i hi
    cases h
    refine wp_block (Code.wp_mono ?_ (ih _ _ _ a w S hst1))
    rintro e a' w' ⟨rfl, S1⟩
    show if i = id then _ else _
    rw [if_pos hi]
    exact ⟨rfl, S1⟩
   ·rename_i hi
    cases h
    refine wp_block (Code.wp_mono ?_ (ih _ _ _ a w S hst1))
    rintro e a' w' ⟨rfl, S1⟩
    show if i = id then _ else _
    rw [if_neg hi]
    exact ⟨rfl, S1⟩
  ·rename_i r hne
   refine wp_block (Code.wp_mono ?_ (ih _ _ _ a w S h))
   rintro e a' w' ⟨rfl, S1⟩
   cases x with
   | norm => exact ⟨rfl, S1⟩
   | exit i => exact absurd h (hne _ _)
   | ret => exact ⟨rfl, S1⟩
 | loop b ih =>
  intro st st' x a w S h
  simp only [runC] at h
  exact loop_ok (fun st st1 y a w S hb => ih st st1 y a w S hb) S h (loopN_ne _ _ h)
 | scope b ih =>
  intro st st' x a w S h
  simp only [runC] at h
  refine wp_scope_straight (Code.wp_mono ?_ (ih _ _ _ a w S h))
  rintro e a' w' ⟨rfl, S1⟩
  cases x <;> exact ⟨rfl, S1⟩
 | rangeFunc f ps as b ih1 ih2 => intro st st' x a w S h; simp [runC] at h
 | goto l => intro st st' x a w S h; simp [runC] at h
 | refuse s => intro st st' x a w S h; simp [runC] at h
theorem ownedB_of {β : Nat → Option Blk} {u : LV} {b : Nat} (h : ownedB β u = some b) : b % 8 ≠ 7 ∧ ∃ k, β b = some k ∧
  ((∃ z n c, u = .sl z b 0 n c ∧ n * z ≤ k.x.len ∧ (c = none ∨ (k.spare = false ∧ c.map (· * z) = some k.x.len))) ∨ (u = .ptr b 0 ∧ k.spare = false)) := by
 unfold ownedB at h
 split at h
 ·rename_i z b' n c
  split at h
  ·rename_i k hk
   split at h
   ·rename_i hc
    cases h
    exact ⟨hc.2, k, hk, .inl ⟨z, n, c, rfl, hc.1.1, hc.1.2⟩⟩
   ·cases h
  ·cases h
 ·rename_i b'
  split at h
  ·rename_i k hk
   split at h
   ·rename_i hc
    cases h
    exact ⟨hc.2, k, hk, .inr ⟨rfl, hc.1⟩⟩
   ·cases h
  ·cases h
 ·cases h
theorem hideB_of {bs : List Nat} {β : Nat → Option Blk} {b : Nat} {k : Blk} (h : hideB bs β b = some k) : b ∉ bs ∧ β b = some k := by
 unfold hideB at h
 split at h
 ·cases h
 ·rename_i hc
  exact ⟨by simpa using hc, h⟩
theorem resSlot_ok {n : Nat} {m : Map} {F : Nat → Prop} {ρ : Nat → LV} {β : Nat → Option Blk} (S : SR A w0 n m F ρ β a w) {bs : List Nat} {u : LV} {v : Value} {r : RC} (hu : Rep F w m u v) (hbs : ∀ b, ownedB β u = some b → b ∈ bs) (hn : ∀ b k l, b % 8 ≠ 7 → β b = some k → m b = some (some l) → ¬ w0.L l.g)
  (h : resSlot β (hideB bs β) u = some r) : ∃ gb, RCok (FP F (hideB bs β) m) w0.w.heap.size w r v gb ∧ ∀ l, gb = some l → ∃ b, ownedB β u = some b ∧ m b = some (some l) := by
 have hB' : ∀ b k, hideB bs β b = some k → BlkOk F w0.own w m b k := fun b k hb => S.blks b k (hideB_of hb).2
 unfold resSlot at h
 split at h
 ·rename_i b hb
  obtain ⟨hb7, k, hk, ⟨z, N, c, rfl, hlen, hcap⟩ | ⟨rfl, hsp⟩⟩ := ownedB_of hb
  case inr =>
   rw [hk] at h
   simp only at h
   cases hu with
   | ptr _ _ _ g s hm =>
    obtain ⟨o1, o2, o3⟩ := S.old hk hm
    have o4 : w0.w.heap.size ≤ g := by
     rcases o3 with o3 | o3
     ·exact o3
     ·exact absurd o3 (hn b k _ hb7 hk hm)
    have hnF : ¬ FP F (hideB bs β) m g := by
     rintro (hf | ⟨b', k', l', hb', hm', hg⟩)
     ·exact o2 hf
     ·obtain ⟨q1, q2⟩ := hideB_of hb'
      have hne : b' ≠ b := fun e => q1 (e ▸ hbs b hb)
      exact S.sep b' b k' k _ _ q2 hk hne hm' hm hg
    rcases S.blks _ _ hk with ⟨_, _, q3⟩ | ⟨g', s', cs, q1, _, _, q4, q5, q6, _, q8⟩
    ·rw [hsp] at q3; cases q3
    rw [hm] at q1
    cases q1
    have hend : ∀ y', (y'.vals.length = k.x.vals.length) → (∀ (i : Nat) (d : LV), y'.vals[i]? = some d → Rep (FP F (hideB bs β) m) w noMap d (cs.getD i undef)) →
      ∃ gb, RCok (FP F (hideB bs β) m) w0.w.heap.size w (.optr k.e y') (.pointer (some ⟨g, 0, none⟩)) gb ∧ ∀ l, gb = some l → ∃ b', ownedB β (.ptr b 0) = some b' ∧ m b' = some (some l) := by
     intro y' hy1 hy2
     exact ⟨some ⟨g, cs.size⟩, ⟨g, cs, rfl, rfl, o4, hnF, q4, by rw [hy1, q6 hsp, q5], hy2⟩, fun l hl => ⟨b, hb, by cases hl; rw [hm, q5]⟩⟩
    split at h
    ·rename_i j l hx
     cases h
     rw [hx] at q8
     exact hend _ (by rw [hx]) (fun i d hd => by
      have := q8 i d hd
      obtain ⟨q, rfl⟩ := flat_leaf hd
      exact this.pure _ _ _ 0 rfl)
    ·rename_i l hx
     split at h
     ·rename_i l' hl'
      cases h
      obtain ⟨e1, e2⟩ := optMap_spec hl'
      rw [hx] at q8
      exact hend _ (by rw [hx]; exact e1) (fun i d hd => by
       obtain ⟨x, hx', hd'⟩ := e2 i d hd
       exact expo_ok hB' _ _ _ _ (q8 i x hx') hd')
     ·cases h
  rw [hk] at h
  simp only at h
  have hout : ∀ y, k.x.cut 0 (N * z) = some y → ∀ (y' : Cont), (y'.vals.length = y.vals.length) → (∀ (i : Nat) (d : LV), y'.vals[i]? = some d → ∃ x, y.vals[i]? = some x ∧ ∀ v, Rep F w m x v → Rep (FP F (hideB bs β) m) w noMap d v) →
    ∃ gb, RCok (FP F (hideB bs β) m) w0.w.heap.size w (.own z N k.e y') v gb ∧ ∀ l, gb = some l → ∃ b', ownedB β (.sl z b 0 N c) = some b' ∧ m b' = some (some l) := by
   intro y hy y' hyl hyr
   obtain ⟨y1, y2⟩ := Cont.cut_vals hy
   have hylen : y'.vals.length = N * z := by rw [hyl, y2]; simp; omega
   cases hu with
   | slNil _ _ _ _ hm hkk => exact ⟨none, ⟨hylen, .inl ⟨rfl, rfl, rfl⟩⟩, fun l hl => by cases hl⟩
   | sl _ _ _ _ _ _ g s ad c' hm ha hnn hkk hs hx =>
    have ha : ad = ⟨g, 0, none⟩ := by rcases ha with h | ⟨_, h, _⟩; exact h; omega
    subst ha
    obtain ⟨cs, b1, b2, b3, b4⟩ := blk_cells (S.blks _ _ hk) hm
    obtain ⟨o1, o2, o3⟩ := S.old hk hm
    have o4 : w0.w.heap.size ≤ g := by
     rcases o3 with o3 | o3
     ·exact o3
     ·exact absurd o3 (hn b k _ hb7 hk hm)
    have hsz : cs.size = c' * z := by
     rcases hcap with rfl | ⟨hsp, hc⟩
     ·have := hs rfl; omega
     ·rcases hcc : c with _ | cc
      ·rw [hcc] at hc; cases hc
      ·rw [hcc] at hc
       have e := hkk cc hcc
       subst e
       simp only [Option.map_some, Option.some.injEq] at hc
       rw [hc, Cont.len_vals]
       rcases S.blks _ _ hk with ⟨q1, _⟩ | ⟨g', s', cs', q1, _, _, q4, q5, q6, _⟩
       ·rw [hm] at q1; cases q1
       ·rw [hm] at q1; cases q1
        rw [b1] at q4; cases q4
        rw [q5]; exact (q6 hsp).symm
    refine ⟨some ⟨g, cs.size⟩, ⟨hylen, .inr ⟨g, c', cs, rfl, rfl, hnn, hx, o4, ?_, b1, hsz, fun i d hd => ?_⟩⟩, fun l hl => ⟨b, hb, ?_⟩⟩
    ·rintro (hf | ⟨b', k', l', hb', hm', hg⟩)
     ·exact o2 hf
     ·obtain ⟨q1, q2⟩ := hideB_of hb'
      have hne : b' ≠ b := fun e => q1 (e ▸ hbs b hb)
      exact S.sep b' b k' k _ _ q2 hk hne hm' hm hg
    ·obtain ⟨x, hx', hd'⟩ := hyr i d hd
     refine hd' _ ?_
     rw [y2, List.drop_zero, List.getElem?_take] at hx'
     split at hx'
     ·exact b4.2 i x hx'
     ·cases hx'
    ·cases hl
     rw [hm, b2]
  split at h
  ·rename_i j l hcut
   cases h
   exact hout _ hcut _ rfl (fun i d hd => ⟨d, hd, fun v hv => by obtain ⟨q, rfl⟩ := flat_leaf hd; exact hv.pure _ _ _ 0 rfl⟩)
  ·rename_i l hcut
   split at h
   ·rename_i l' hl'
    cases h
    obtain ⟨e1, e2⟩ := optMap_spec hl'
    exact hout _ hcut _ e1 (fun i d hd => by
     obtain ⟨x, hx, hd'⟩ := e2 i d hd
     exact ⟨x, hx, fun v hv => expo_ok hB' _ _ _ _ hv hd'⟩)
   ·cases h
  ·cases h
 ·split at h
  ·rename_i d hd
   cases h
   exact ⟨none, ⟨expo_ok hB' _ _ _ _ hu hd, rfl⟩, fun l hl => by cases hl⟩
  ·cases h
theorem resVar_ok (hT : ∀ t i, E.T t = some i → tiOf P t = some i) {n : Nat} {m : Map} {F : Nat → Prop} {st : St} (S : SR A w0 n m F st.slot st.blk a w) {r : ResultVar} {u : LV} (h : resVar E st r = some u) :
  ∃ v, (match r with | .tmp t => pure (a.tmps.getD t undef) | .cell p t => do loadVar t (← asAddr (a.tmps.getD p undef)) : Sem Value).run P w = .ok v w ∧ Rep F w m u v := by
 cases r with
 | tmp t =>
  simp only [resVar, Option.some.injEq] at h
  subst h
  exact ⟨_, rfl, S.slots t⟩
 | cell p t =>
  simp only [resVar] at h
  split at h
  ·rename_i b off ti hp hti
   split at h
   ·rename_i k hk
    have hr := S.slots p
    rw [hp] at hr
    generalize hvp : a.tmps.getD p undef = vp at hr
    cases hr with
    | ptr _ _ _ g s hm =>
     obtain ⟨cs, _, _, _, hc⟩ := blk_cells (S.blks _ _ hk) hm
     obtain ⟨i, d, hi, hd, _, hs, _, hg, _⟩ := tiOf_spec (hT _ _ hti)
     rw [hs, hg] at h
     rcases hq : loadC k.x off i.size (isAggD d) with _ | ⟨u', bs⟩
     ·rw [hq] at h; cases h
     ·rw [hq] at h
      cases h
      obtain ⟨_, v', h2, h3⟩ := run_loadVar_cells hc hi hd hq
      rw [Nat.zero_add] at h2
      refine ⟨v', ?_, h3⟩
      simp only [hvp, asAddr, Sem.run_bind, Sem.run_pure, Result.andThen_ok]
      exact h2
   ·cases h
  ·cases h
theorem run_mapM {f : ResultVar → Sem Value} {w : World} : ∀ (l : List ResultVar) (vs : List Value), l.length = vs.length → (∀ (i : Nat) (r : ResultVar), l[i]? = some r → (f r).run P w = .ok (vs.getD i undef) w) →
  (l.mapM f).run P w = .ok vs w
 | [], [], _, _ => rfl
 | [], _ :: _, h, _ => by simp at h
 | _ :: _, [], h, _ => by simp at h
 | r :: l, v :: vs, hl, h => by
  have h0 := h 0 r rfl
  have ih := run_mapM l vs (by simpa using hl) (fun i r hr => by simpa using h (i + 1) r (by simpa using hr))
  simp only [List.getD_cons_zero] at h0
  simp [List.mapM_cons, h0, ih]
theorem pick {α β : Type} [Inhabited β] {p : Nat → α → β → Prop} : ∀ (l : List α), (∀ (i : Nat) (x : α), l[i]? = some x → ∃ y, p i x y) → ∃ ys : List β, ys.length = l.length ∧ ∀ (i : Nat) (x : α) (y : β), l[i]? = some x → ys[i]? = some y → p i x y := by
 intro l h
 classical
 refine ⟨(List.range l.length).map fun i => if hh : ∃ x, l[i]? = some x ∧ ∃ y, p i x y then hh.choose_spec.2.choose else default, by simp, fun i x y hx hy => ?_⟩
 rw [List.getElem?_map, List.getElem?_range (lt_of_get hx)] at hy
 simp only [Option.map_some, Option.some.injEq] at hy
 have hh : ∃ x, l[i]? = some x ∧ ∃ y, p i x y := ⟨x, hx, h i x hx⟩
 rw [dif_pos hh] at hy
 have h1 := hh.choose_spec.1
 have h2 := hh.choose_spec.2.choose_spec
 rw [hy] at h2
 generalize hh.choose = z at h1 h2
 rw [hx] at h1
 cases h1
 exact h2
end
end Go.Proofs.YtdeigmjbcbjgeaaGreatDoor
namespace Go.Proofs.YtdeigmjbcbjgeaaGreatDoor
open Go.RowKit
section
variable {P : Program} {E : Env} {A : Nat → Prop} {w0 : Fr} {a : Act} {w : World}
theorem resOf_ok (hT : ∀ t i, E.T t = some i → tiOf P t = some i) {st : St} {m : Map} {F : Nat → Prop} (S : SR A w0 st.tmps.length m F st.slot st.blk a w) (hn : ∀ b k l, b % 8 ≠ 7 → st.blk b = some k → m b = some (some l) → ¬ w0.L l.g) {fn : Func} {r : LRes} (h : resOf E st fn.results.toList = some r) :
  ∃ v us, (results fn a.tmps).run P w = .ok v w ∧ optMap (resVar E st) fn.results.toList = some us ∧ ResOk (FP F (hideB (lids st ++ us.filterMap (ownedB st.blk)) st.blk) m) w0.w.heap.size w r v := by
 unfold resOf at h
 split at h
 ·cases h
 rename_i us hus
 split at h
 case isFalse => cases h
 rename_i hap
 split at h
 ·cases h
 rename_i cs hcs
 cases h
 obtain ⟨u1, u2⟩ := optMap_spec hus
 obtain ⟨c1, c2⟩ := optMap_spec hcs
 -- the values
 obtain ⟨vs, v1, v2⟩ := pick (β := Value) (p := fun i (r : ResultVar) v => (match r with | .tmp t => pure (a.tmps.getD t undef) | .cell p t => do loadVar t (← asAddr (a.tmps.getD p undef)) : Sem Value).run P w = .ok v w ∧ ∀ u, us[i]? = some u → Rep F w m u v) fn.results.toList (fun i r hr => by
  have hi : i < us.length := by rw [u1]; exact lt_of_get hr
  obtain ⟨r', hr', hv⟩ := u2 i us[i] (List.getElem?_eq_getElem hi)
  rw [hr] at hr'
  cases hr'
  obtain ⟨v, h1, h2⟩ := resVar_ok hT S hv
  exact ⟨v, h1, fun u hu => by rw [List.getElem?_eq_getElem hi] at hu; cases hu; exact h2⟩)
 have hrun : (fn.results.mapM fun | .tmp t => pure (a.tmps.getD t undef) | .cell p t => do loadVar t (← asAddr (a.tmps.getD p undef)) : Sem (Array Value)).run P w = .ok vs.toArray w := by
  rw [Array.mapM_eq_mapM_toList]
  rw [Sem.run_map]
  rw [run_mapM _ vs v1.symm (fun i r hr => by
   have hi : i < vs.length := by rw [v1]; exact lt_of_get hr
   have := (v2 i r vs[i] hr (List.getElem?_eq_getElem hi)).1
   rw [List.getD_eq_getElem?_getD, List.getElem?_eq_getElem hi]
   exact this)]
  rfl
 have hbs : ∀ (i : Nat) (u : LV) (b : Nat), us[i]? = some u → ownedB st.blk u = some b → b ∈ lids st ++ us.filterMap (ownedB st.blk) := fun i u b hu hb => List.mem_append.2 (.inr (List.mem_filterMap.2 ⟨u, List.mem_of_getElem? hu, hb⟩))
 have hone : ∀ (i : Nat) (c : RC), cs[i]? = some c → ∃ u, us[i]? = some u ∧ ∃ gb, RCok (FP F (hideB (lids st ++ us.filterMap (ownedB st.blk)) st.blk) m) w0.w.heap.size w c (vs.toArray.getD i undef) gb ∧ ∀ l, gb = some l → ∃ b, ownedB st.blk u = some b ∧ m b = some (some l) := by
  intro i c hc
  obtain ⟨u, hu, hs⟩ := c2 i c hc
  have hr : i < fn.results.toList.length := by rw [← u1]; exact lt_of_get hu
  have hi : i < vs.length := by rw [v1]; exact hr
  have hv := (v2 i _ vs[i] (List.getElem?_eq_getElem hr) (List.getElem?_eq_getElem hi)).2 u hu
  refine ⟨u, hu, ?_⟩
  have e : vs.toArray.getD i undef = vs[i] := by simp [hi]
  rw [e]
  exact resSlot_ok S hv (fun b hb => hbs i u b hu hb) hn hs
 obtain ⟨gbs, g1, g2⟩ := pick (β := Option Loc) (p := fun i (c : RC) gb => ∃ u, us[i]? = some u ∧ RCok (FP F (hideB (lids st ++ us.filterMap (ownedB st.blk)) st.blk) m) w0.w.heap.size w c (vs.toArray.getD i undef) gb ∧ ∀ l, gb = some l → ∃ b, ownedB st.blk u = some b ∧ m b = some (some l)) cs (fun i c hc => by
  obtain ⟨u, hu, gb, h1, h2⟩ := hone i c hc
  exact ⟨gb, u, hu, h1, h2⟩)
 refine ⟨if h : vs.toArray.size = 1 then vs.toArray[0] else .tuple vs.toArray, us, ?_, hus, ?_⟩
 ·unfold results
  rw [Sem.run_bind]
  erw [hrun]
  rfl
 ·have hsz : cs.length = vs.length := by rw [c1, u1, v1]
  have hmany : ResOk (FP F (hideB (lids st ++ us.filterMap (ownedB st.blk)) st.blk) m) w0.w.heap.size w (.many cs) (.tuple vs.toArray) := by
   refine ⟨vs.toArray, fun i => (gbs[i]?).bind id, rfl, by simp [hsz], fun i c hc => ?_, fun i j l l' hne hi hj => ?_⟩
   ·have hi : i < gbs.length := by rw [g1]; exact lt_of_get hc
    obtain ⟨u, _, h1, _⟩ := g2 i c gbs[i] hc (List.getElem?_eq_getElem hi)
    show RCok _ _ _ c _ ((gbs[i]?).bind id)
    rw [List.getElem?_eq_getElem hi]
    exact h1
   ·have get : ∀ (i : Nat) (l : Loc), (gbs[i]?).bind id = some l → ∃ u b, us[i]? = some u ∧ ownedB st.blk u = some b ∧ m b = some (some l) := by
     intro i l hi
     rcases hq : gbs[i]? with _ | gb
     ·rw [hq] at hi; cases hi
     ·rw [hq] at hi
      have hil : i < cs.length := by rw [← g1]; exact lt_of_get hq
      obtain ⟨u, hu, _, h2⟩ := g2 i cs[i] gb (List.getElem?_eq_getElem hil) hq
      obtain ⟨b, hb, hm⟩ := h2 l hi
      exact ⟨u, b, hu, hb, hm⟩
    obtain ⟨u, b, hu, hb, hm⟩ := get i l hi
    obtain ⟨u', b', hu', hb', hm'⟩ := get j l' hj
    obtain ⟨_, k, hk, _⟩ := ownedB_of hb
    obtain ⟨_, k', hk', _⟩ := ownedB_of hb'
    refine S.sep b b' k k' _ _ hk hk' (fun e => ?_) hm hm'
    subst e
    unfold apartR at hap
    simp only [List.all_eq_true, List.mem_range] at hap
    have := hap i (lt_of_get hu) j (lt_of_get hu')
    rw [hu, hu'] at this
    simp [hne, hb, hb'] at this
  unfold packR
  split
  ·rename_i c
   have h1 : vs.toArray.size = 1 := by simpa using hsz.symm
   rw [dif_pos h1]
   obtain ⟨u, _, gb, h2, _⟩ := hone 0 c rfl
   refine ⟨gb, ?_⟩
   have e : vs.toArray.getD 0 undef = vs.toArray[0] := by simp [Array.getD, h1]
   rw [← e]
   exact h2
  ·rename_i hne
   have h1 : vs.toArray.size ≠ 1 := by
    intro h1
    have : cs.length = 1 := by rw [hsz]; simpa using h1
    obtain ⟨c, hc⟩ := List.length_eq_one_iff.1 this
    exact hne c hc
   rw [dif_neg h1]
   exact hmany
theorem SR.after {st : St} {m : Map} {F : Nat → Prop} (S : SR A w0 st.tmps.length m F st.slot st.blk a w) (os : List Nat) : (∀ g, A g → FP F (hideB os st.blk) m g) ∧ ∀ g, FP F (hideB os st.blk) m g → g < w.heap.size ∧ (A g ∨ w0.own g) := by
 refine ⟨fun g hg => .inl (S.sup g hg), ?_⟩
 rintro g (hg | ⟨b, k, l, hb, hm, rfl⟩)
 ·exact ⟨S.flt g hg, S.sub g hg⟩
 ·obtain ⟨o1, _, o3⟩ := S.old (hideB_of hb).2 hm
  exact ⟨o1, .inr o3⟩
theorem frame_own {w : World} {g : Nat} (h : (frame w).own g) : w.heap.size ≤ g := by
 rcases h with h | ⟨b, l, hb, _⟩
 ·exact h
 ·cases hb
theorem frame_L {w : World} {g : Nat} : ¬ (frame w).L g := fun ⟨_, _, hb, _⟩ => by cases hb
theorem resOf_frame (hT : ∀ t i, E.T t = some i → tiOf P t = some i) {st : St} {w0 : World} (S : SRs A (frame w0) st a w) {fn : Func} {r : LRes} (h : resOf E st fn.results.toList = some r) :
  ∃ v F', (results fn a.tmps).run P w = .ok v w ∧ (∀ g, A g → F' g) ∧ (∀ g, F' g → g < w.heap.size ∧ (A g ∨ w0.heap.size ≤ g)) ∧ ResOk F' w0.heap.size w r v := by
 obtain ⟨m, F, S⟩ := S
 obtain ⟨v, us, h1, _, h2⟩ := resOf_ok hT S (fun _ _ _ _ _ _ => frame_L) h
 obtain ⟨h3, h4⟩ := S.after (lids st ++ us.filterMap (ownedB st.blk))
 exact ⟨v, _, h1, h3, fun g hg => ⟨(h4 g hg).1, (h4 g hg).2.imp id frame_own⟩, h2⟩
theorem runF_ok (hm : P.follows .mixedOrders = true) (hE : EnvOk P E) {f : Nat} {fn : Func} (hf : P.funcs[f]? = some fn) {fuel : Nat} {ds : List LV} {r : LRes} (h : runF E fuel fn ds = some r) : CallOk P f ds r := by
 intro w A args hsz hA hrep hG
 unfold runF at h
 split at h
 case h_2 => cases h
 rename_i c hb
 rw [St.allK_eq] at h
 have S0 : SRs A (frame w) (enterL fn ds) { tmps := args ++ Array.replicate (fn.ntmps - args.size) undef, defers := [] } w := by
  refine ⟨noMap, A, by simp [enterL, hsz], fun t => ?_, fun b k hk => by simp [enterL, St.blk, findB] at hk, fun b b' k k' l l' hk => by simp [enterL, St.blk, findB] at hk, rfl, Keeps.refl _ _, hA, fun g hg => .inl hg, fun g hg => hg, fun b _ => rfl, fun b g k hl => (by cases hl), ⟨fun g hg => ⟨hA g hg, frame_L⟩, hG⟩⟩
  show Rep A w noMap ((ds ++ List.replicate (fn.ntmps - ds.length) noVal).getD t .poison) ((args ++ Array.replicate (fn.ntmps - args.size) undef).getD t undef)
  rw [List.getD_eq_getElem?_getD, Array.getD_eq_getD_getElem?]
  by_cases ht : t < ds.length
  ·rw [List.getElem?_append_left ht, Array.getElem?_append_left (by omega)]
   obtain ⟨u, hu⟩ := getL_of ht
   have := hrep t u hu
   rw [Array.getD_eq_getD_getElem?] at this
   rw [hu]
   exact this
  ·rw [List.getElem?_append_right (by omega), Array.getElem?_append_right (by omega), List.getElem?_replicate, Array.getElem?_replicate, hsz]
   split
   ·exact undef_rep
   ·exact .poison _ _
 have fin : ∀ (st' : St) (a' : Act) (w' : World), SRs A (frame w) st' a' w' → resOf E st' fn.results.toList = some r → a'.defers = [] ∧ ∃ v, (results fn a'.tmps).run P w' = .ok v w' ∧ ∃ v' F', (Ending.returned v) = .returned v' ∧ Keeps (fun _ => False) w w' ∧ (∀ g, A g → F' g) ∧ (∀ g, F' g → g < w'.heap.size ∧ (A g ∨ w.heap.size ≤ g)) ∧ ResOk F' w.heap.size w' r v' := by
  intro st' a' w' S hr
  obtain ⟨v, F', h1, h2, h3, h4⟩ := resOf_frame hE.T S hr
  obtain ⟨m, F, S⟩ := S
  exact ⟨S.dfr, v, h1, v, F', rfl, S.keeps.mono (fun _ _ h => absurd h frame_L), h2, h3, h4⟩
 refine calls_of_wp hf hb ?_
 split at h
 ·rename_i st' hst
  refine Code.wp_mono ?_ (runC_ok hm hE fuel c _ _ _ _ _ S0 hst)
  rintro e a' w' ⟨rfl, S⟩
  exact fin st' a' w' S h
 ·rename_i st' hst
  refine Code.wp_mono ?_ (runC_ok hm hE fuel c _ _ _ _ _ S0 hst)
  rintro e a' w' ⟨rfl, S⟩
  exact fin st' a' w' S h
 ·cases h
def Known (P : Program) (o : Nat → List LV → Option LRes) : Prop := ∀ f ds r, o f ds = some r → ((∃ fn, P.funcs[f]? = some fn ∧ fn.name ≠ "runtime.NumGoroutine" ∧ fn.body.isSome = true) ∧ CallOk P f ds r) ∨ Ext P f ds r
def Types (P : Program) (T : Nat → Option TI) : Prop := ∀ t i, T t = some i → tiOf P t = some i
theorem CallOk.val {f : Nat} {ds : List LV} {u : LV} (h : CallOk P f ds (.one (.val u))) (w : World) (args : Array Value) (hsz : args.size = ds.length) (A : Nat → Prop) (hA : ∀ g, A g → g < w.heap.size) (hG : GlobOk A w)
  (hrep : ∀ (i : Nat) (u : LV), ds[i]? = some u → Rep A w noMap u (args.getD i undef)) : Calls P f args w fun e w' => ∃ v F', e = .returned v ∧ Keeps (fun _ => False) w w' ∧ Rep F' w' noMap u v :=
 (h w A args hsz hA hrep hG).mono fun _ _ ⟨v, F', h1, h2, _, _, _, h4, _⟩ => ⟨v, F', h1, h2, h4⟩
theorem CallOk.plain {f : Nat} {ds : List LV} {x : Value} (h : CallOk P f ds (.one (.val (.v x)))) (w : World) (args : Array Value) (hsz : args.size = ds.length) (A : Nat → Prop) (hA : ∀ g, A g → g < w.heap.size) (hG : GlobOk A w)
  (hrep : ∀ (i : Nat) (u : LV), ds[i]? = some u → Rep A w noMap u (args.getD i undef)) : Calls P f args w fun e w' => e = .returned x ∧ Keeps (fun _ => False) w w' :=
 (h.val w args hsz A hA hG hrep).mono fun _ _ ⟨v, F', h1, h2, h3⟩ => by cases h3; exact ⟨h1, h2⟩
end
end Go.Proofs.YtdeigmjbcbjgeaaGreatDoor
