/-
  The machine of plain values: a region whose order is drawn keeps what the machine says, whatever the order.
-/
import Derived.Test.YtdeigmjbcbjgeaaGreatDoorYdMG
namespace Go.Proofs.YtdeigmjbcbjgeaaGreatDoor
open Go.RowKit

section
variable {P : Program} {E : Env} {A : Nat → Prop} {w0 : Fr} {a : Act} {w : World}

theorem vis_mono {ops : List Oper} {S S' : Nat → Bool} (h : ∀ j, S j = true → S' j = true) {t : Nat} (hv : vis ops S t = true) : vis ops S' t = true :=
  vis_iff.2 fun j o hj hd => h j (vis_iff.1 hv j o hj hd)
theorem updBs_other : ∀ (bs : List (Nat × Blk)) (β : Nat → Option Blk) (b : Nat), (∀ q ∈ bs, q.1 ≠ b) → updBs β bs b = β b
  | [], _, _, _ => rfl
  | p :: bs, β, b, h => by
    unfold updBs
    rw [updBs_other bs _ b (fun q hq => h q (List.mem_cons_of_mem _ hq))]
    rw [if_neg (h p (List.mem_cons_self ..))]
theorem updBs_congr : ∀ (bs : List (Nat × Blk)) (β β' : Nat → Option Blk) (b : Nat), β b = β' b → updBs β bs b = updBs β' bs b
  | [], _, _, _, h => h
  | p :: bs, β, β', b, h => by
    unfold updBs
    refine updBs_congr bs _ _ b ?_
    split
    · rfl
    · exact h

theorem updR_ne {n : Nat} {ρ : Nat → LV} {dst : Option Nat} {u : LV} {t : Nat} (h : dst ≠ some t) : updR n ρ dst u t = ρ t := by
  rcases dst with _ | d
  · rfl
  · exact if_neg (fun e => h (by rw [e.1]))
theorem updR_same {n : Nat} {ρ : Nat → LV} {d : Nat} {u : LV} : updR n ρ (some d) u d = if d < n then u else ρ d := by simp [updR]
theorem updB_ne {S : Nat → Bool} {i j : Nat} (h : j ≠ i) : (fun j => if j = i then true else S j) j = S j := if_neg h

abbrev maskR (pre : List Oper) (m : Nat) (st : St) : Nat → LV := fun t => if vis pre (Nat.testBit m) t then st.slot t else .poison
abbrev maskB (pre : List Oper) (m : Nat) (st : St) : Nat → Option Blk := fun b => if vis pre (Nat.testBit m) (b / 8) then st.blk b else none
theorem preStep_of {ops pre : List Oper} {m : Nat} {st : St} {o : Oper} {p : Upd} (h : preStep E ops pre m st o = some p) :
    freshA st o = true ∧ ∃ u bs, p = ⟨none, none, u, bs⟩ ∧ (∀ q ∈ bs, ∃ d, o.dst = some d ∧ q.1 / 8 = d) ∧
    ((wantL ops (maskR pre m st) o = some true ∧ ∃ bs', vop E (maskR pre m st) (maskB pre m st) (o.dst.getD 0) o.op = some (u, bs') ∧ bs = if o.dst.isSome then bs' else []) ∨
     (wantL ops (maskR pre m st) o = some false ∧ u = noVal ∧ bs = [])) := by
  unfold preStep at h
  simp only at h
  split at h
  · rename_i hw
    split at h
    · rename_i hfr
      split at h
      · rename_i u bs hv
        cases h
        refine ⟨hfr, u, _, rfl, fun q hq => ?_, .inl ⟨hw, bs, hv, rfl⟩⟩
        rcases hd : o.dst with _ | d
        · rw [hd] at hq; simp at hq
        · rw [hd] at hq hv
          simp only [Option.isSome_some, if_true] at hq
          exact ⟨d, rfl, vop_ids hv q hq⟩
      · cases h
    · cases h
  · rename_i hw
    split at h
    · rename_i hfr
      cases h
      exact ⟨hfr, _, _, rfl, by simp, .inr ⟨hw, rfl, rfl⟩⟩
    · cases h
  · cases h
theorem preSteps_chain {ops pre : List Oper} : ∀ (ms : List Nat) (l : List Oper) (st stF : St), ms.length = l.length → preSteps E ops pre ms l st = some stF →
    ∃ (sts : Nat → St) (ps : Nat → Upd), sts 0 = st ∧ sts l.length = stF ∧ ∀ (i : Nat) (o : Oper) (m : Nat), l[i]? = some o → ms[i]? = some m → preStep E ops pre m (sts i) o = some (ps i) ∧ sts (i + 1) = (sts i).app o.dst (ps i)
  | [], [], st, stF, _, h => by
    simp [preSteps] at h
    exact ⟨fun _ => st, fun _ => ⟨none, none, noVal, []⟩, rfl, h, by simp⟩
  | [], _ :: _, _, _, hl, _ => by simp at hl
  | _ :: _, [], _, _, hl, _ => by simp at hl
  | m :: ms, o :: l, st, stF, hl, h => by
    simp only [preSteps] at h
    split at h
    · rename_i p hp
      rw [St.appK_eq] at h
      obtain ⟨sts, ps, h0, hF, hs⟩ := preSteps_chain ms l _ stF (by simpa using hl) h
      refine ⟨fun i => match i with | 0 => st | i + 1 => sts i, fun i => match i with | 0 => p | i + 1 => ps i, rfl, hF, ?_⟩
      intro i o' m' ho hm
      cases i with
      | zero => simp at ho hm; subst ho; subst hm; exact ⟨hp, h0⟩
      | succ i => exact hs i o' m' (by simpa using ho) (by simpa using hm)
    · cases h
theorem opSteps_chain {ops : List Oper} : ∀ (l : List Oper) (st stF : St), opSteps E ops l st = some stF →
    ∃ (sts : Nat → St) (ps : Nat → Upd), sts 0 = st ∧ sts l.length = stF ∧ ∀ (i : Nat) (o : Oper), l[i]? = some o → opStep E ops (sts i) o = some (ps i) ∧ sts (i + 1) = (sts i).app o.dst (ps i)
  | [], st, stF, h => by
    simp [opSteps] at h
    exact ⟨fun _ => st, fun _ => ⟨none, none, noVal, []⟩, rfl, h, by simp⟩
  | o :: l, st, stF, h => by
    simp only [opSteps] at h
    split at h
    · rename_i p hp
      rw [St.appK_eq] at h
      obtain ⟨sts, ps, h0, hF, hs⟩ := opSteps_chain l _ stF h
      refine ⟨fun i => match i with | 0 => st | i + 1 => sts i, fun i => match i with | 0 => p | i + 1 => ps i, rfl, hF, ?_⟩
      intro i o' ho
      cases i with
      | zero => simp at ho; subst ho; exact ⟨hp, h0⟩
      | succ i => exact hs i o' (by simpa using ho)
    · cases h
theorem chain_frame {sts : Nat → St} {pre : List Oper} (hs : ∀ i o, pre[i]? = some o → ∃ u bs, (∀ q ∈ bs, ∃ d, o.dst = some d ∧ q.1 / 8 = d) ∧ sts (i + 1) = (sts i).app o.dst ⟨none, none, u, bs⟩) (i : Nat) :
    ∀ k, i ≤ k → k ≤ pre.length → (sts k).tmps.length = (sts i).tmps.length ∧ ∀ t, (∀ j o, i ≤ j → j < k → pre[j]? = some o → o.dst ≠ some t) → (sts k).slot t = (sts i).slot t ∧ ∀ b, b / 8 = t → (sts k).blk b = (sts i).blk b := by
  intro k
  induction k with
  | zero => intro h _; have : i = 0 := by omega
            subst this; exact ⟨rfl, fun _ _ => ⟨rfl, fun _ _ => rfl⟩⟩
  | succ k ih =>
    intro hik hk
    by_cases he : i = k + 1
    · subst he; exact ⟨rfl, fun _ _ => ⟨rfl, fun _ _ => rfl⟩⟩
    · obtain ⟨h1, h2⟩ := ih (by omega) (by omega)
      have ho : pre[k]? = some pre[k] := List.getElem?_eq_getElem (by omega)
      obtain ⟨u, bs, hb, e⟩ := hs k _ ho
      obtain ⟨f1, f2, f3⟩ := St.app_fn (sts k) (pre[k]).dst ⟨none, none, u, bs⟩
      rw [e]
      refine ⟨by rw [f3, h1], fun t ht => ?_⟩
      obtain ⟨g1, g2⟩ := h2 t (fun j o hj hjk => ht j o hj (by omega))
      have hne := ht k _ (by omega) (by omega) ho
      refine ⟨?_, fun b hbt => ?_⟩
      · rw [f1, ← g1]
        exact updR_ne hne
      · rw [f2, ← g2 b hbt]
        refine updBs_other _ _ _ (fun q hq e' => ?_)
        obtain ⟨d, hd, hqd⟩ := hb q hq
        rw [e', hbt] at hqd
        exact hne (by rw [hd, hqd])

/-- What is seen of a state while the operations of S alone have been carried out. -/
abbrev seenR (pre : List Oper) (S : Nat → Bool) (st : St) : Nat → LV := fun t => if vis pre S t then st.slot t else .poison
abbrev seenB (pre : List Oper) (S : Nat → Bool) (st : St) : Nat → Option Blk := fun b => if vis pre S (b / 8) then st.blk b else none
theorem freshA_blk {st : St} {o : Oper} (h : freshA st o = true) {d : Nat} (hd : o.dst = some d) {b : Nat} (hb : b / 8 = d) : st.blk b = none := by
  unfold freshA at h
  rw [hd] at h
  simp only [List.all_eq_true, bne_iff_ne, ne_eq] at h
  have key : ∀ l : List (Nat × Blk), (∀ p ∈ l, ¬ p.1 / 8 = d) → findB l b = none := by
    intro l
    induction l with
    | nil => intro _; rfl
    | cons p l ih =>
      intro hp
      obtain ⟨i, k⟩ := p
      have h1 := hp (i, k) (List.mem_cons_self ..)
      simp only at h1
      have h2 : i ≠ b := fun e => h1 (by rw [e, hb])
      simp only [findB, if_neg h2]
      exact ih (fun p hp' => hp p (List.mem_cons_of_mem _ hp'))
  exact key _ h
theorem slot_out (st : St) {t : Nat} (h : st.tmps.length ≤ t) : st.slot t = .poison := by
  show st.tmps.getD t .poison = _
  rw [List.getD_eq_getElem?_getD, List.getElem?_eq_none h]; rfl

theorem vis_false {ops : List Oper} {S : Nat → Bool} {t : Nat} (h : vis ops S t = false) : ∃ (j : Nat) (o : Oper), ops[j]? = some o ∧ o.dst = some t ∧ S j = false := by
  refine Classical.byContradiction fun hn => ?_
  have : vis ops S t = true := vis_iff.2 fun j o hj hd => by
    rcases hq : S j with _ | _
    · exact absurd ⟨j, o, hj, hd, hq⟩ hn
    · rfl
  rw [this] at h; cases h
theorem vop_gen {ρ : Nat → LV} {β : Nat → Option Blk} {d : Nat} {op : Op} {r : LV × List (Nat × Blk)} (hp : (∀ c a b, op ≠ .pick c a b)) (h : vop E ρ β d op = some r) : ∃ xs, vopX E β d op xs = some r := by
  unfold vop at h
  split at h
  · rename_i c a b; exact absurd rfl (hp c a b)
  · split at h
    · exact ⟨_, h⟩
    · cases h
theorem opExtract_blks {q : Nat} {x u : LV} {bs : List (Nat × Blk)} (h : opExtract q x = some (u, bs)) : bs = [] := by
  unfold opExtract at h
  split at h
  · exact (just_ok h).2
  · cases h
theorem opBin_blks {op : BinOp} {t : Nat} {x y u : LV} {bs : List (Nat × Blk)} (h : opBin E op t x y = some (u, bs)) : bs = [] := by
  unfold opBin at h
  split at h
  · split at h
    · exact (just_ok h).2
    · cases h
  · split at h
    · split at h
      · split at h
        · exact (just_ok h).2
        · cases h
      · cases h
    · cases h
  · exact (just_ok h).2
theorem opLoad_blks {β : Nat → Option Blk} {t : Nat} {x u : LV} {bs : List (Nat × Blk)} (h : opLoad E β t x = some (u, bs)) : bs = [] := by
  have hl : ∀ (x : Cont) (off s : Nat) (g : Bool), loadC x off s g = some (u, bs) → bs = [] := by
    intro x off s g hq
    unfold loadC at hq
    split at hq
    · unfold justA at hq
      split at hq <;> cases hq
      rfl
    · exact (just_ok hq).2
  unfold opLoad at h
  split at h
  · split at h
    · split at h
      · exact hl _ _ _ _ h
      · cases h
    · exact hl _ _ _ _ h
    · cases h
  · cases h
theorem justP_blks {o : Option Cont} {u : LV} {bs : List (Nat × Blk)} (h : justP o = some (u, bs)) : bs = [] := by
  unfold justP at h
  split at h <;> cases h
  rfl
theorem opFieldAddr_blks {s f : Nat} {x u : LV} {bs : List (Nat × Blk)} (h : opFieldAddr E s f x = some (u, bs)) : bs = [] := by
  unfold opFieldAddr at h
  split at h
  · split at h
    · split at h
      · cases h
      · split at h
        · exact (congrArg Prod.snd (Option.some.inj h)).symm
        · exact justP_blks h
        · cases h
    · cases h
  · cases h
theorem opIndexAddr_blks {t : Nat} {x i u : LV} {bs : List (Nat × Blk)} (h : opIndexAddr E t x i = some (u, bs)) : bs = [] := by
  unfold opIndexAddr at h
  split at h
  · split at h
    · split at h
      · exact (congrArg Prod.snd (Option.some.inj h)).symm
      · exact justP_blks h
      · cases h
    · cases h
  · split at h
    · split at h
      · exact (congrArg Prod.snd (Option.some.inj h)).symm
      · cases h
    · split at h
      · exact justP_blks h
      · cases h
    · cases h
  · cases h
theorem vop_xs {ρ : Nat → LV} {β : Nat → Option Blk} {d : Nat} {op : Op} {r : LV × List (Nat × Blk)} (hp : (∀ c a b, op ≠ .pick c a b)) (h : vop E ρ β d op = some r) : ∃ xs, optMap (evalO ρ) (opers op) = some xs ∧ vopX E β d op xs = some r := by
  unfold vop at h
  split at h
  · rename_i c a b; exact absurd rfl (hp c a b)
  · split at h
    · rename_i xs hxs; exact ⟨xs, hxs, h⟩
    · cases h
theorem indexAddr_ptr {ρ : Nat → LV} {β : Nat → Option Blk} {d t z b o : Nat} {i : Operand} {u : LV} {bs : List (Nat × Blk)} (hz : ρ z = .ptr b o) (h : vop E ρ β d (.indexAddr t (.tmp z) i) = some (u, bs)) : ∃ o', u = .ptr b o' := by
  obtain ⟨xs, hxs, h⟩ := vop_xs (by intro _ _ _ e; cases e) h
  obtain ⟨x, i', rfl, h⟩ := with2_of h
  obtain ⟨y, hy, he⟩ := (optMap_spec hxs).2 0 x rfl
  cases hy
  simp only [evalO, hz] at he
  cases he
  have h : opIndexAddr E t (.ptr b o) i' = some (u, bs) := h
  unfold opIndexAddr at h
  split at h
  · split at h
    · exact ⟨_, (congrArg Prod.fst (Option.some.inj h)).symm⟩
    · cases h
  · cases h
  · cases h
theorem fieldAddr_ptr {ρ : Nat → LV} {β : Nat → Option Blk} {d t z b o f : Nat} {u : LV} {bs : List (Nat × Blk)} (hz : ρ z = .ptr b o) (h : vop E ρ β d (.fieldAddr t (.tmp z) f) = some (u, bs)) : ∃ o', u = .ptr b o' := by
  obtain ⟨xs, hxs, h⟩ := vop_xs (by intro _ _ _ e; cases e) h
  obtain ⟨x, rfl, h⟩ := with1_of h
  obtain ⟨y, hy, he⟩ := (optMap_spec hxs).2 0 x rfl
  cases hy
  simp only [evalO, hz] at he
  cases he
  have h : opFieldAddr E t f (.ptr b o) = some (u, bs) := h
  unfold opFieldAddr at h
  split at h
  · split at h
    · split at h
      · cases h
      · exact ⟨_, (congrArg Prod.fst (Option.some.inj h)).symm⟩
    · cases h
  · cases h
theorem load_np {ρ : Nat → LV} {β : Nat → Option Blk} {d t y : Nat} {r : LV × List (Nat × Blk)} (h : vop E ρ β d (.load t (.tmp y)) = some r) : ρ y ≠ .poison := by
  intro e
  obtain ⟨xs, hxs, h⟩ := vop_xs (by intro _ _ _ e; cases e) h
  obtain ⟨x, rfl, h⟩ := with1_of h
  obtain ⟨z, hz, he⟩ := (optMap_spec hxs).2 0 x rfl
  cases hz
  simp only [evalO, e] at he
  cases he
theorem AddrAt.uniq {ops : List Oper} {n n' : Nat} {st : St} {y b b' : Nat} (hu : ∀ (i j : Nat) (o p : Oper) (d : Tmp), ops[i]? = some o → ops[j]? = some p → o.dst = some d → p.dst = some d → i = j) (h : AddrAt ops n st y b) (h' : AddrAt ops n' st y b') : b = b' := by
  rcases h with ⟨o, h1, h2⟩ | ⟨j, q, z, o, _, hq, hd, _, _, hop, hz, _⟩ <;> rcases h' with ⟨o', h1', h2'⟩ | ⟨j', q', z', o', _, hq', hd', _, _, hop', hz', _⟩
  · rw [h1] at h1'; cases h1'; rfl
  · exact absurd hd' (h2 j' q' hq')
  · exact absurd hd (h2' j q hq)
  · have := hu j j' q q' y hq hq' hd hd'
    subst this
    rw [hq] at hq'; cases hq'
    have hzz : z = z' := by
      rcases hop with ⟨t, i, e⟩ | ⟨t, f, e⟩ <;> rcases hop' with ⟨t', i', e'⟩ | ⟨t', f', e'⟩ <;> rw [e] at e' <;> cases e' <;> rfl
    subst hzz
    rw [hz] at hz'; cases hz'; rfl
theorem opBuild_blks {t : Nat} {is : List Nat} {xs : List LV} {u : LV} {bs : List (Nat × Blk)} (h : opBuild E t is xs = some (u, bs)) : bs = [] := by
  unfold opBuild at h
  split at h
  · split at h
    · exact (congrArg Prod.snd (Option.some.inj h)).symm
    · cases h
  · unfold justA at h
    split at h
    · exact (congrArg Prod.snd (Option.some.inj h)).symm
    · cases h
  · cases h
theorem float_blks {ops : List Oper} {n : Nat} {st : St} {x : Operand} {ρ : Nat → LV} {β : Nat → Option Blk} {d : Nat} {op : Op} {u : LV} {bs : List (Nat × Blk)} (hf : Floats ops n st op x) (h : vop E ρ β d op = some (u, bs)) : bs = [] := by
  rcases hf with hf | ⟨t, y, x', b, b', rfl, _⟩
  · cases op <;> simp only [pureT, Bool.false_eq_true] at hf
    case extract =>
      obtain ⟨xs, h⟩ := vop_gen (by intro _ _ _ e; cases e) h
      obtain ⟨x, rfl, h⟩ := with1_of h
      exact opExtract_blks h
    case binOp =>
      obtain ⟨xs, h⟩ := vop_gen (by intro _ _ _ e; cases e) h
      obtain ⟨x, y, rfl, h⟩ := with2_of h
      exact opBin_blks h
    case unOp =>
      obtain ⟨xs, h⟩ := vop_gen (by intro _ _ _ e; cases e) h
      obtain ⟨x, rfl, h⟩ := with1_of h
      exact (just_ok h).2
    case move =>
      obtain ⟨xs, h⟩ := vop_gen (by intro _ _ _ e; cases e) h
      obtain ⟨x, rfl, h⟩ := with1_of h
      exact (congrArg Prod.snd (Option.some.inj h)).symm
    case assign =>
      obtain ⟨xs, h⟩ := vop_gen (by intro _ _ _ e; cases e) h
      obtain ⟨x, rfl, h⟩ := with1_of h
      exact (congrArg Prod.snd (Option.some.inj h)).symm
    case build =>
      obtain ⟨xs, h⟩ := vop_gen (by intro _ _ _ e; cases e) h
      exact opBuild_blks h
    case indexAddr =>
      obtain ⟨xs, h⟩ := vop_gen (by intro _ _ _ e; cases e) h
      obtain ⟨x, y, rfl, h⟩ := with2_of h
      exact opIndexAddr_blks h
    case fieldAddr =>
      obtain ⟨xs, h⟩ := vop_gen (by intro _ _ _ e; cases e) h
      obtain ⟨x, rfl, h⟩ := with1_of h
      exact opFieldAddr_blks h
  · obtain ⟨xs, h⟩ := vop_gen (by intro _ _ _ e; cases e) h
    obtain ⟨x, rfl, h⟩ := with1_of h
    exact opLoad_blks h
theorem pure_vop {ρ : Nat → LV} {β β' : Nat → Option Blk} {d : Nat} {op : Op} (hf : pureT op = true) : vop E ρ β d op = vop E ρ β' d op := by
  cases op <;> simp only [pureT, Bool.false_eq_true] at hf
  all_goals rfl
theorem float_makes {ops : List Oper} {n : Nat} {st : St} {x : Operand} {op : Op} (hf : Floats ops n st op x) : makes op = false := by
  rcases hf with hf | ⟨t, y, x', b, b', rfl, _⟩
  · cases op <;> simp only [pureT, Bool.false_eq_true] at hf
    all_goals rfl
  · rfl
theorem store_plain {β : Nat → Option Blk} {dst : Option Nat} {t : Nat} {x v : Operand} {xs : List LV} {p : Upd} (h : mopX E β dst (.store t x v) xs = some p) : p.gone = none ∧ p.calm = none := by
  change mopX0 E β dst (.store t x v) xs = some p at h
  unfold mopX0 at h
  split at h
  · rename_i heq
    unfold opStore at h
    split at h
    · split at h
      · split at h
        · split at h
          · cases h; exact ⟨rfl, rfl⟩
          · cases h
        · cases h
      · cases h
    · cases h
  · rename_i heq; cases heq
  · cases h
theorem store_blk {ops : List Oper} {st : St} {o : Oper} {p : Upd} {t x b off : Nat} {v : Operand} (h : opStep E ops st o = some p) (hop : o.op = .store t (.tmp x) v) (hg : o.guard = none) (hx : st.slot x = .ptr b off) :
    ∃ k, updBs (preB st.blk p) p.bs = updBs st.blk [(b, k)] := by
  unfold opStep wantL at h
  rw [hg] at h
  simp only at h
  split at h
  case isFalse => cases h
  rw [hop] at h
  have hno : vop E st.slot st.blk (o.dst.getD 0) (.store t (.tmp x) v) = none := by
    show (match optMap (evalO st.slot) (opers (.store t (.tmp x) v)) with
      | some xs => vopX E st.blk (o.dst.getD 0) (.store t (.tmp x) v) xs
      | none => none) = none
    split <;> rfl
  rw [hno] at h
  simp only at h
  split at h
  case h_2 => cases h
  rename_i xs hxs
  change optMap (evalO st.slot) [.tmp x, v] = some xs at hxs
  simp only [optMap, evalO, hx] at hxs
  split at hxs
  case h_2 => cases hxs
  rename_i y l hy hl
  cases hy
  cases hxs
  change mopX0 E st.blk o.dst (.store t (.tmp x) v) (.ptr b off :: l) = some p at h
  unfold mopX0 at h
  split at h
  · rename_i heq1 heq2
    cases heq1
    cases heq2
    unfold opStore at h
    simp only at h
    split at h
    · split at h
      · split at h
        · cases h
          exact ⟨_, rfl⟩
        · cases h
      · cases h
    · cases h
  · rename_i heq _; cases heq
  · cases h
theorem load_same {ρ ρ' : Nat → LV} {β β' : Nat → Option Blk} {d t y b off : Nat} {r : LV × List (Nat × Blk)} (h1 : ρ y = .ptr b off) (h2 : ρ' y = .ptr b off) (hb : ∀ k, β b = some k → β' b = some k) (h : vop E ρ β d (.load t (.tmp y)) = some r) :
    vop E ρ' β' d (.load t (.tmp y)) = some r := by
  change (match optMap (evalO ρ) [.tmp y] with
    | some xs => vopX E β d (.load t (.tmp y)) xs
    | none => none) = some r at h
  change (match optMap (evalO ρ') [.tmp y] with
    | some xs => vopX E β' d (.load t (.tmp y)) xs
    | none => none) = some r
  simp only [optMap, evalO, h1] at h
  simp only [optMap, evalO, h2]
  change opLoad E β t (.ptr b off) = some r at h
  change opLoad E β' t (.ptr b off) = some r
  unfold opLoad at h ⊢
  split at h
  · rename_i ti hti
    simp only at h ⊢
    split at h
    · rename_i k hk
      rw [hb k hk]
      exact h
    · cases h
  · cases h
theorem wpOp_one {ops : Array Oper} {Q : Exit → Act → World → Prop} {i : Nat} {o : Oper} {K : Act → World → Prop} (ho : ops[i]? = some o) (hw : Region.wanted o (yielded ops a.tmps) = true) (h : o.wp P a w K Q) : wpOp P ops Q i K a w := by
  unfold wpOp
  rw [ho]
  simp only
  rw [if_pos hw]
  exact .inl h
theorem opStep_plain {ops : List Oper} {st : St} {o : Oper} {q : Upd} {t : Nat} {x v : Operand} (h1 : opStep E ops st o = some q) (hop : o.op = .store t x v) (hg : o.guard = none) : q.gone = none ∧ q.calm = none := by
  unfold opStep wantL at h1
  rw [hg] at h1
  simp only at h1
  split at h1
  case isFalse => cases h1
  split at h1
  · rw [← Option.some.inj h1]; exact ⟨rfl, rfl⟩
  · split at h1
    · rw [hop] at h1; exact store_plain h1
    · cases h1
theorem wpAny_ok (hE : EnvOk P E) {ops : List Oper} {st st1 stE : St} {N N1 : Nat} (hN1 : N ≤ N1) (hNl : N1 ≤ ops.length) (hreg : regB ops = true) (hfl : ∀ k, N ≤ k → k < N1 → floatAt ops st (deps ops []) k = true) (htail : ∀ k, N1 ≤ k → k < ops.length → (deps ops []).getD k 0 = 2 ^ k - 1)
    (hpre : preSteps E ops (ops.take N) ((deps ops []).take N) (ops.take N) st = some st1) (htl : opSteps E ops (ops.drop N) st1 = some stE) (S0 : SRs A w0 st a w) {Q : Exit → Act → World → Prop}
    (hQ : ∀ a' w', SRs A w0 stE a' w' → Q .normal a' w') : wpAny P .any ops.toArray Q ops.toArray.size (Array.replicate ops.toArray.size false) a w := by
  have hN : N ≤ ops.length := Nat.le_trans hN1 hNl
  obtain ⟨huniq, hback⟩ := regB_of hreg
  obtain ⟨dlen, _, _⟩ := deps_spec ops []
  simp only [List.length_nil, Nat.zero_add] at dlen
  have hplen : (ops.take N).length = N := by simp; omega
  obtain ⟨sts, ps, s0, sN, hs⟩ := preSteps_chain _ _ _ _ (by simp [dlen]) hpre
  obtain ⟨ts, qs, t0, tN, ht⟩ := opSteps_chain _ _ _ htl
  rw [hplen] at sN
  have hop : ∀ i o, (ops.take N)[i]? = some o ↔ (i < N ∧ ops[i]? = some o) := by
    intro i o
    rw [List.getElem?_take]
    split <;> simp [*]
  have hmask : ∀ i, i < N → ((deps ops []).take N)[i]? = some ((deps ops []).getD i 0) := by
    intro i hi
    rw [List.getElem?_take, if_pos hi, List.getD_eq_getElem?_getD, List.getElem?_eq_getElem (by omega)]
    rfl
  have hstep : ∀ i o, (ops.take N)[i]? = some o → ∃ u bs, (∀ q ∈ bs, ∃ d, o.dst = some d ∧ q.1 / 8 = d) ∧ sts (i + 1) = (sts i).app o.dst ⟨none, none, u, bs⟩ := by
    intro i o ho
    obtain ⟨h1, h2⟩ := hs i o _ ho (hmask i ((hop i o).1 ho).1)
    obtain ⟨_, u, bs, hp, hb, _⟩ := preStep_of h1
    exact ⟨u, bs, hb, by rw [h2, hp]⟩
  have frame := chain_frame (sts := sts) (pre := ops.take N) hstep
  have hlenS : ∀ k, k ≤ N → (sts k).tmps.length = st.tmps.length := fun k hk => by
    have := (frame 0 k (by omega) (by omega)).1
    rwa [s0] at this
  have hfull : ∀ (S : Nat → Bool), (∀ (i : Nat) (o : Oper), ops[i]? = some o → S i = true → ∀ e ∈ o.after, Region.binds .any e = true → S e.on = true) → ∀ i o, N1 ≤ i → ops[i]? = some o →
      (∀ e ∈ o.after, Region.binds .any e = true → S e.on = true) → ∀ j, j < i → S j = true := by
    intro S hS i o hi ho hd j hj
    refine deps_in hback hS i o ho hd j ?_
    rw [htail i hi (lt_of_get ho), Nat.testBit_two_pow_sub_one]
    simpa using hj
  have hmust : ∀ (S : Nat → Bool), (∀ (i : Nat) (o : Oper), ops[i]? = some o → S i = true → ∀ e ∈ o.after, Region.binds .any e = true → S e.on = true) → ∀ i o, ops[i]? = some o →
      (∀ e ∈ o.after, Region.binds .any e = true → S e.on = true) → ∀ j, N ≤ j → j < i → S j = true := by
    intro S hS i o ho hd j hNj hj
    rcases Nat.lt_or_ge i N1 with h | h
    · refine deps_in hback hS i o ho hd j ?_
      obtain ⟨_, _, _, _, _, _, _, _, hext⟩ := floatAt_of (hfl i (by omega) h)
      rcases hq : Nat.testBit ((deps ops []).getD i 0) j with _ | _
      · exfalso
        obtain ⟨p, d, hp, _, hpd, _⟩ := hext j hj hq
        obtain ⟨p', _, _, _, hp', _, hpd', _⟩ := floatAt_of (hfl j hNj (by omega))
        rw [hp] at hp'; cases hp'
        rw [hpd] at hpd'; cases hpd'
      · rfl
    · exact hfull S hS i o h ho hd j hj
  have hst : ∀ r, N + r ≤ N1 → (ts r).slot = (ts 0).slot ∧ (ts r).tmps.length = st.tmps.length := by
    intro r
    induction r with
    | zero => exact fun _ => ⟨rfl, by rw [t0, ← sN]; exact hlenS N (Nat.le_refl _)⟩
    | succ r ih =>
      intro hr
      obtain ⟨g1, g2⟩ := ih (by omega)
      obtain ⟨o, t, x, v, ho, hop', hd, hg, _⟩ := floatAt_of (hfl (N + r) (by omega) (by omega))
      obtain ⟨h1, h2⟩ := ht r o (by rw [List.getElem?_drop]; exact ho)
      have hpl := opStep_plain h1 hop' hg
      obtain ⟨f1, _, f3⟩ := St.app_fn (ts r) o.dst (qs r)
      refine ⟨?_, by rw [h2, f3, g2]⟩
      rw [h2, f1, hd]
      unfold preR
      rw [hpl.1, hpl.2]
      exact g1
  have hmlt : ∀ i o, ops[i]? = some o → ∀ j, Nat.testBit ((deps ops []).getD i 0) j = true → j < i := by
    intro i o ho j hj
    have := deps_in (S := fun j => decide (j < i)) hback (fun k o' hk hSk e he hb => by
      have := hback k o' e hk he hb
      simp at hSk ⊢
      omega) i o ho (fun e he hb => by simpa using hback i o e ho he hb) j hj
    simpa using this
  let I : (Nat → Bool) → Act → World → Prop := fun S a w =>
    (∀ (i : Nat) (o : Oper), ops[i]? = some o → S i = true → ∀ e ∈ o.after, Region.binds .any e = true → S e.on = true) ∧
    (((∀ j, N ≤ j → S j = false) ∧ ∃ m F, SR A w0 st.tmps.length m F (seenR (ops.take N) S (sts N)) (seenB (ops.take N) S (sts N)) a w) ∨
     (∃ k, N < k ∧ k ≤ ops.length ∧ (∀ j, S j = true ↔ j < k) ∧ SRs A w0 (ts (k - N)) a w) ∨
     (∃ k, N < k ∧ k ≤ N1 ∧ (∀ j, N ≤ j → j < k → S j = true) ∧ (∀ j, k ≤ j → S j = false) ∧ ∃ m F, SR A w0 st.tmps.length m F (seenR (ops.take N) S (sts N)) (ts (k - N)).blk a w))
  have hall : ∀ (S : Nat → Bool) (a : Act) (w : World), (∀ j, j < N → S j = true) → (∃ m F, SR A w0 st.tmps.length m F (seenR (ops.take N) S (sts N)) (seenB (ops.take N) S (sts N)) a w) → SRs A w0 (ts 0) a w := by
    intro S a w hS ⟨m, F, h⟩
    have hv : ∀ t, vis (ops.take N) S t = true := fun t => vis_iff.2 fun j o hj _ => hS j ((hop j o).1 hj).1
    have e1 : seenR (ops.take N) S (sts N) = (ts 0).slot := funext fun t => by simp only [seenR, hv, if_true, sN, t0]
    have e2 : seenB (ops.take N) S (sts N) = (ts 0).blk := funext fun t => by simp only [seenB, hv, if_true, sN, t0]
    rw [e1, e2] at h
    refine ⟨m, F, ?_⟩
    have : (ts 0).tmps.length = st.tmps.length := by rw [t0, ← sN]; exact hlenS N (Nat.le_refl _)
    rw [this]
    exact h
  have hallK : ∀ (k : Nat) (S : Nat → Bool) (a : Act) (w : World), k ≤ N1 → N ≤ k → (∀ j, j < N → S j = true) → (∃ m F, SR A w0 st.tmps.length m F (seenR (ops.take N) S (sts N)) (ts (k - N)).blk a w) → SRs A w0 (ts (k - N)) a w := by
    intro k S a w hk hNk hS ⟨m, F, h⟩
    have hv : ∀ t, vis (ops.take N) S t = true := fun t => vis_iff.2 fun j o hj _ => hS j ((hop j o).1 hj).1
    obtain ⟨g1, g2⟩ := hst (k - N) (by omega)
    have e1 : seenR (ops.take N) S (sts N) = (ts (k - N)).slot := funext fun t => by
      simp only [seenR, hv, if_true]
      rw [g1, sN, t0]
    rw [e1] at h
    refine ⟨m, F, ?_⟩
    rw [g2]
    exact h
  have tailstep : ∀ (k : Nat) (o : Oper) (a : Act) (w : World) (S : Nat → Bool), N ≤ k → ops[k]? = some o → SRs A w0 (ts (k - N)) a w →
      (∀ a' w', SRs A w0 (ts (k + 1 - N)) a' w' → I (fun j => if j = k then true else S j) a' w') → wpOp P ops.toArray Q k (I fun j => if j = k then true else S j) a w := by
    intro k o a w S hk ho hSR hnext
    obtain ⟨h1, h2⟩ := ht (k - N) o (by rw [List.getElem?_drop, show N + (k - N) = k by omega]; exact ho)
    have hnext' : ∀ a' w', SRs A w0 ((ts (k - N)).app o.dst (qs (k - N))) a' w' → I (fun j => if j = k then true else S j) a' w' := by
      intro a' w' h
      refine hnext a' w' ?_
      rw [show k + 1 - N = (k - N) + 1 by omega, h2]
      exact h
    unfold wpOp
    rw [show ops.toArray[k]? = some o by simpa using ho]
    simp only
    rcases opStep_ok hE hSR h1 (Q := Q) with ⟨hw, hwp⟩ | ⟨hw, hSR'⟩
    · rw [if_pos hw]
      exact .inl (Oper.wp_mono hnext' hwp)
    · rw [if_neg (by rw [hw]; simp)]
      exact hnext' _ _ hSR'
  have storestep : ∀ (n : Nat) (o : Oper) (a : Act) (w : World) (S : Nat → Bool), N ≤ n → n < N1 → ops[n]? = some o → (∀ (i : Nat) (o : Oper), ops[i]? = some o → S i = true → ∀ e ∈ o.after, Region.binds .any e = true → S e.on = true) →
      (∀ e ∈ o.after, Region.binds .any e = true → S e.on = true) → (∀ (i' : Nat) (o' : Oper), ops[i']? = some o' → (if i' = n then true else S i') = true → ∀ e ∈ o'.after, Region.binds .any e = true → (if e.on = n then true else S e.on) = true) →
      (∀ j, N ≤ j → j < n → S j = true) → (∀ j, n ≤ j → S j = false) → (∃ m F, SR A w0 st.tmps.length m F (seenR (ops.take N) S (sts N)) (ts (n - N)).blk a w) → wpOp P ops.toArray Q n (I fun j => if j = n then true else S j) a w := by
    intro n o a w S hNn hn1 ho' hcl hdep hcl' hS1 hN0 hSR
    obtain ⟨o', t, x, v, ho2, hop', hdst, hgd, hext⟩ := floatAt_of (hfl n hNn hn1)
    rw [ho'] at ho2; cases ho2
    obtain ⟨m, F, hSR⟩ := hSR
    have hdin := deps_in hback hcl n o ho' hdep
    obtain ⟨h1, h2⟩ := ht (n - N) o (by rw [List.getElem?_drop, show N + (n - N) = n by omega]; exact ho')
    unfold opStep wantL at h1
    rw [hgd] at h1
    simp only at h1
    split at h1
    case isFalse => cases h1
    rw [hop'] at h1
    have hno : vop E (ts (n - N)).slot (ts (n - N)).blk (o.dst.getD 0) (.store t x v) = none := by
      show (match optMap (evalO (ts (n - N)).slot) (opers (.store t x v)) with
        | some xs => vopX E (ts (n - N)).blk (o.dst.getD 0) (.store t x v) xs
        | none => none) = none
      split <;> rfl
    rw [hno] at h1
    simp only at h1
    split at h1
    case h_2 => cases h1
    rename_i xs hxs
    have hxs' : optMap (evalO (seenR (ops.take N) S (sts N))) (opers o.op) = some xs := by
      rw [hop']
      refine Eq.trans ?_ hxs
      have hev : ∀ z, (z = x ∨ z = v) → evalO (seenR (ops.take N) S (sts N)) z = evalO (ts (n - N)).slot z := by
        intro z hz
        cases z with
        | tmp t' =>
          have hv : vis (ops.take N) S t' = true := by
            rcases hq : vis (ops.take N) S t' with _ | _
            · exfalso
              obtain ⟨j, oj, hj, hjd, hjS⟩ := vis_false hq
              obtain ⟨hji, hj'⟩ := (hop j oj).1 hj
              have hbit : Nat.testBit ((deps ops []).getD n 0) j = false := by
                rcases hq : Nat.testBit ((deps ops []).getD n 0) j with _ | _
                · rfl
                · rw [hdin j hq] at hjS; cases hjS
              obtain ⟨p, d, hp, _, hpd, _, hx, hv⟩ := hext j (by omega) hbit
              rw [hj'] at hp; cases hp
              rw [hjd] at hpd; cases hpd
              rcases hz with hz | hz
              · exact hx hz.symm
              · exact hv hz.symm
            · rfl
          have : seenR (ops.take N) S (sts N) t' = (ts (n - N)).slot t' := by
            simp only [seenR, hv, if_true]
            rw [(hst (n - N) (by omega)).1, t0, sN]
          simp only [evalO, this]
        | const _ | func _ | «global» _ => rfl
      simp only [opers, optMap, hev x (.inl rfl), hev v (.inr rfl)]
    have hp : (qs (n - N)).gone = none ∧ (qs (n - N)).calm = none := store_plain h1
    refine (wpOp_one (by simpa using ho') (by unfold Region.wanted; rw [hgd]) ?_)
    rw [← hop'] at h1
    refine Oper.wp_mono (fun a' w' hq => ?_) (mopX_ok hE hSR hxs' (fun hm => by rw [hop'] at hm; cases hm) h1)
    obtain ⟨m', F', hq⟩ := hq
    obtain ⟨_, f2, _⟩ := St.app_fn (ts (n - N)) o.dst (qs (n - N))
    have e1 : preR (seenR (ops.take N) S (sts N)) (ts (n - N)).blk (qs (n - N)) = seenR (ops.take N) S (sts N) := by unfold preR; rw [hp.1, hp.2]
    rw [e1, hdst] at hq
    have e2 : seenR (ops.take N) (fun j => if j = n then true else S j) (sts N) = seenR (ops.take N) S (sts N) := by
      funext t'
      simp only [seenR]
      have : vis (ops.take N) (fun j => if j = n then true else S j) t' = vis (ops.take N) S t' := by
        rw [Bool.eq_iff_iff, vis_iff, vis_iff]
        refine ⟨fun h j o'' hj hd => ?_, fun h j o'' hj hd => ?_⟩
        · have := h j o'' hj hd
          rwa [if_neg (by have := ((hop j o'').1 hj).1; omega)] at this
        · split
          · rfl
          · exact h j o'' hj hd
      rw [this]
    refine ⟨hcl', .inr (.inr ⟨n + 1, by omega, by omega, fun j hj1 hj2 => ?_, fun j hj => ?_, m', F', ?_⟩)⟩
    · by_cases e : j = n
      · simp [e]
      · rw [updB_ne e]; exact hS1 j hj1 (by omega)
    · rw [updB_ne (by omega)]
      exact hN0 j (by omega)
    · rw [e2, show (ts (n + 1 - N)).blk = updBs (preB (ts (n - N)).blk (qs (n - N))) (qs (n - N)).bs by rw [show n + 1 - N = (n - N) + 1 by omega, h2, f2]]
      exact hq
  refine wpAny_inv I (fun i o e ho he hb => hback i o e (by simpa using ho) he hb) (fun S i o a w hI ho hSi hdep => ?_) (fun S a w hI hS => ?_) _ _ _ _ (by simp) ?_ ?_
  · obtain ⟨hcl, hI⟩ := hI
    have ho' : ops[i]? = some o := by simpa using ho
    have hcl' : ∀ (i' : Nat) (o' : Oper), ops[i']? = some o' → (if i' = i then true else S i') = true → ∀ e ∈ o'.after, Region.binds .any e = true → (if e.on = i then true else S e.on) = true := by
      intro i' o' hi' hS' e he hb
      by_cases hei : e.on = i
      · simp [hei]
      · rw [if_neg hei]
        by_cases hii : i' = i
        · subst hii
          rw [ho'] at hi'; cases hi'
          exact hdep e he hb
        · rw [if_neg hii] at hS'
          exact hcl i' o' hi' hS' e he hb
    rcases hI with ⟨hN0, hSR⟩ | ⟨k, hk, hkl, hSk, hSR⟩ | ⟨k, hk, hk1, hSN, hN0, hSR⟩
    · by_cases hi : i < N
      · obtain ⟨m, F, hSR⟩ := hSR
        have hpo : (ops.take N)[i]? = some o := (hop i o).2 ⟨hi, ho'⟩
        obtain ⟨h1, h2⟩ := hs i o _ hpo (hmask i hi)
        obtain ⟨hfr, u, bs, hp, hb, hcase⟩ := preStep_of h1
        rw [hp] at h2
        have hdin := deps_in hback hcl i o ho' hdep
        have hsame : ∀ t, vis (ops.take N) (Nat.testBit ((deps ops []).getD i 0)) t = true → vis (ops.take N) S t = true ∧ (sts i).slot t = (sts N).slot t ∧ ∀ b, b / 8 = t → (sts i).blk b = (sts N).blk b := by
          intro t hv
          obtain ⟨g1, g2⟩ := (frame i N (by omega) (by omega)).2 t (fun j o'' hij _ hj hd => by
            have := vis_iff.1 hv j o'' hj hd
            have := hmlt i o ho' j this
            omega)
          exact ⟨vis_mono hdin hv, g1.symm, fun b hb => (g2 b hb).symm⟩
        have hρ : ∀ t, maskR (ops.take N) ((deps ops []).getD i 0) (sts i) t = .poison ∨ maskR (ops.take N) ((deps ops []).getD i 0) (sts i) t = seenR (ops.take N) S (sts N) t := by
          intro t
          simp only [maskR, seenR]
          by_cases hv : vis (ops.take N) (Nat.testBit ((deps ops []).getD i 0)) t = true
          · obtain ⟨g1, g2, _⟩ := hsame t hv
            right
            rw [if_pos hv, if_pos g1, g2]
          · left; rw [if_neg hv]
        have hβ : ∀ b, maskB (ops.take N) ((deps ops []).getD i 0) (sts i) b = none ∨ maskB (ops.take N) ((deps ops []).getD i 0) (sts i) b = seenB (ops.take N) S (sts N) b := by
          intro b
          simp only [maskB, seenB]
          by_cases hv : vis (ops.take N) (Nat.testBit ((deps ops []).getD i 0)) (b / 8) = true
          · obtain ⟨g1, _, g2⟩ := hsame _ hv
            right
            rw [if_pos hv, if_pos g1, g2 b rfl]
          · left; rw [if_neg hv]
        have hvis : ∀ t, o.dst ≠ some t → vis (ops.take N) (fun j => if j = i then true else S j) t = vis (ops.take N) S t := by
          intro t hne
          rw [Bool.eq_iff_iff, vis_iff, vis_iff]
          refine ⟨fun h j o'' hj hd => ?_, fun h j o'' hj hd => ?_⟩
          · have := h j o'' hj hd
            by_cases e : j = i
            · subst e; rw [hpo] at hj; cases hj; exact absurd hd hne
            · rwa [if_neg e] at this
          · split
            · rfl
            · exact h j o'' hj hd
        have hvis1 : ∀ d, o.dst = some d → vis (ops.take N) (fun j => if j = i then true else S j) d = true ∧ vis (ops.take N) S d = false := by
          intro d hd
          refine ⟨vis_iff.2 fun j o'' hj hd' => ?_, ?_⟩
          · have := huniq j i o'' o d ((hop _ _).1 hj).2 ho' hd' hd
            rw [if_pos this]
          · rcases hq : vis (ops.take N) S d with _ | _
            · rfl
            · have := vis_iff.1 hq i o hpo hd
              rw [hSi] at this; cases this
        obtain ⟨f1, f2, f3⟩ := St.app_fn (sts i) o.dst ⟨none, none, u, bs⟩
        have hafter : ∀ d, o.dst = some d → (sts N).slot d = (sts (i + 1)).slot d ∧ ∀ b, b / 8 = d → (sts N).blk b = (sts (i + 1)).blk b := by
          intro d hd
          refine (frame (i + 1) N (by omega) (by omega)).2 d (fun j o'' hij _ hj hd' => ?_)
          have := huniq j i o'' o d ((hop _ _).1 hj).2 ho' hd' hd
          omega
        have eρ : updR st.tmps.length (seenR (ops.take N) S (sts N)) o.dst u = seenR (ops.take N) (fun j => if j = i then true else S j) (sts N) := by
          funext t
          by_cases hd : o.dst = some t
          · obtain ⟨v1, v2⟩ := hvis1 t hd
            have hl := hlenS i (Nat.le_of_lt hi)
            rw [hd, updR_same]
            simp only [seenR, v1, v2, if_true]
            rw [(hafter t hd).1, h2, f1, hd]
            have e1 : preR (sts i).slot (sts i).blk ⟨none, none, u, bs⟩ = (sts i).slot := rfl
            rw [e1, hl]
            simp only [updR_same]
            by_cases hlt : t < st.tmps.length
            · rw [if_pos hlt, if_pos hlt]
            · rw [if_neg hlt, if_neg hlt, slot_out (sts i) (t := t) (by rw [hl]; exact Nat.not_lt.1 hlt)]
              rfl
          · rw [updR_ne hd]
            simp only [seenR, hvis t hd]
        have eβ : updBs (seenB (ops.take N) S (sts N)) bs = seenB (ops.take N) (fun j => if j = i then true else S j) (sts N) := by
          funext b
          by_cases hd : o.dst = some (b / 8)
          · obtain ⟨v1, v2⟩ := hvis1 _ hd
            simp only [seenB, v1, if_true]
            rw [(hafter _ hd).2 b rfl, h2, f2]
            refine updBs_congr _ _ _ _ ?_
            show seenB _ _ _ b = (sts i).blk b
            rw [freshA_blk hfr hd rfl]
            simp only [seenB, v2]
            rfl
          · rw [updBs_other _ _ _ (fun q hq e' => ?_)]
            · simp only [seenB, hvis _ hd]
            · obtain ⟨d, hd', hqd⟩ := hb q hq
              rw [e'] at hqd
              exact hd (by rw [hd', hqd])
        have hnew : ∀ a' w', (∃ m' F', SR A w0 st.tmps.length m' F' (updR st.tmps.length (seenR (ops.take N) S (sts N)) o.dst u) (updBs (seenB (ops.take N) S (sts N)) bs) a' w') → I (fun j => if j = i then true else S j) a' w' := by
          rintro a' w' ⟨m', F', h⟩
          rw [eρ, eβ] at h
          refine ⟨hcl', .inl ⟨fun j hj => ?_, m', F', h⟩⟩
          rw [updB_ne (by omega)]
          exact hN0 j hj
        unfold wpOp
        rw [ho]
        simp only
        rcases hcase with ⟨hw, bs', hv, hbs⟩ | ⟨hw, hu, hbs⟩
        · rw [if_pos (wantL_ok hSR.slots (wantL_mono hρ hw))]
          refine .inl (Oper.wp_mono (fun a' w' hp => hnew a' w' ?_) (vop_ok hE hSR (fun _ d hd k hk => ?_) (vop_mono hρ hβ hv)))
          · obtain ⟨m', F', hp⟩ := hp
            refine ⟨m', F', ?_⟩
            rw [hbs]
            exact hp
          · have e8 : (8 * d + k) / 8 = d := by
              have : ∀ d k : Nat, k < 8 → (8 * d + k) / 8 = d := by intros; omega
              exact this d k hk
            simp only [seenB]
            rw [e8, (hvis1 d hd).2]
            rfl
        · rw [if_neg (by rw [wantL_ok hSR.slots (wantL_mono hρ hw)]; simp)]
          refine hnew _ _ ⟨m, F, ?_⟩
          rw [hbs, hu]
          exact hSR.put o.dst undef_rep
      · have hiN : i = N := by
          rcases Nat.lt_or_ge N i with h | h
          · have := hmust S hcl i o ho' hdep N (Nat.le_refl _) h
            rw [hN0 N (Nat.le_refl _)] at this; cases this
          · omega
        subst hiN
        rcases Nat.lt_or_ge i N1 with hlt1 | hge1
        · obtain ⟨o', t, x, v, ho2, hop', hdst, hgd, hext⟩ := floatAt_of (hfl i (Nat.le_refl _) hlt1)
          rw [ho'] at ho2; cases ho2
          have hdin := deps_in hback hcl i o ho' hdep
          have hblk : seenB (ops.take i) S (sts i) = (ts 0).blk := by
            funext b
            rw [t0, ← sN]
            simp only [seenB]
            split
            · rfl
            · rename_i hv
              have hv : vis (ops.take i) S (b / 8) = false := by simpa using hv
              obtain ⟨j, oj, hj, hjd, hjS⟩ := vis_false hv
              obtain ⟨hji, hj'⟩ := (hop j oj).1 hj
              have hbit : Nat.testBit ((deps ops []).getD i 0) j = false := by
                rcases hq : Nat.testBit ((deps ops []).getD i 0) j with _ | _
                · rfl
                · rw [hdin j hq] at hjS; cases hjS
              obtain ⟨p, d, hp, hpf, hpd, hpg, _, _⟩ := hext j hji hbit
              rw [hj'] at hp; cases hp
              obtain ⟨h1, h2⟩ := hs j oj _ hj (hmask j hji)
              have h3 := (frame (j + 1) i (by omega) (by omega)).2 (b / 8) (fun j2 o2 hij _ hj2 hd' => by
                have := huniq j2 j o2 oj (b / 8) ((hop _ _).1 hj2).2 hj' hd' hjd
                omega)
              rw [h3.2 b rfl]
              obtain ⟨hfr, u, bs, hps, hb, hcase⟩ := preStep_of h1
              have hbs : bs = [] := by
                rcases hcase with ⟨_, bs', hv', hbs⟩ | ⟨_, _, hbs⟩
                · rw [hbs, float_blks hpf hv']
                  split <;> rfl
                · exact hbs
              obtain ⟨_, f2, _⟩ := St.app_fn (sts j) oj.dst ⟨none, none, u, bs⟩
              rw [h2, hps, f2, hbs]
              show (none : Option Blk) = (sts j).blk b
              rw [freshA_blk hfr hjd rfl]
          rw [hblk] at hSR
          exact storestep i o a w S (Nat.le_refl _) hlt1 ho' hcl hdep hcl' (fun j h1 h2 => by omega) hN0 (by rw [Nat.sub_self]; exact hSR)
        · have hlt := hfull S hcl i o hge1 ho' hdep
          refine tailstep i o a w S (Nat.le_refl _) ho' (by rw [Nat.sub_self]; exact hall S a w hlt hSR) (fun a' w' h => ⟨hcl', .inr (.inl ⟨i + 1, by omega, lt_of_get ho', fun j => ?_, h⟩)⟩)
          by_cases e : j = i
          · simp [e]
          · rw [updB_ne e]
            constructor
            · intro h'
              rcases Nat.lt_or_ge j i with h2 | h2
              · omega
              · rw [hN0 j h2] at h'; cases h'
            · intro h'; exact hlt j (by omega)
    · have hik : k ≤ i := by
        rcases Nat.lt_or_ge i k with h | h
        · rw [(hSk i).2 h] at hSi; cases hSi
        · exact h
      have hki : i = k := by
        rcases Nat.lt_or_ge k i with h | h
        · have := (hSk k).1 (hmust S hcl i o ho' hdep k (by omega) h); omega
        · omega
      subst hki
      refine tailstep i o a w S (by omega) ho' hSR (fun a' w' h => ⟨hcl', .inr (.inl ⟨i + 1, by omega, lt_of_get ho', fun j => ?_, h⟩)⟩)
      by_cases e : j = i
      · simp [e]
      · rw [updB_ne e, hSk]
        omega
    · rcases Nat.lt_or_ge i N with hi | hiN
      case inr =>
        have hik : k ≤ i := by
          rcases Nat.lt_or_ge i k with h | h
          · rw [hSN i hiN h] at hSi; cases hSi
          · exact h
        have hki : i = k := by
          rcases Nat.lt_or_ge k i with h | h
          · have := hmust S hcl i o ho' hdep k (by omega) h
            rw [hN0 k (Nat.le_refl _)] at this; cases this
          · omega
        subst hki
        rcases Nat.lt_or_ge i N1 with hlt1 | hge1
        · exact storestep i o a w S hiN hlt1 ho' hcl hdep hcl' hSN hN0 hSR
        · have hlt := hfull S hcl i o hge1 ho' hdep
          refine tailstep i o a w S hiN ho' (hallK i S a w hk1 hiN (fun j hj => hlt j (by omega)) hSR) (fun a' w' h => ⟨hcl', .inr (.inl ⟨i + 1, by omega, lt_of_get ho', fun j => ?_, h⟩)⟩)
          by_cases e : j = i
          · simp [e]
          · rw [updB_ne e]
            constructor
            · intro h'
              rcases Nat.lt_or_ge j i with h2 | h2
              · omega
              · rw [hN0 j h2] at h'; cases h'
            · intro h'; exact hlt j (by omega)
      case inl =>
        have hfloat : ∀ n, N ≤ n → n < k → ∃ oN t x v p d, ops[n]? = some oN ∧ oN.op = .store t x v ∧ oN.guard = none ∧ ops[i]? = some p ∧ Floats ops n st p.op x ∧ p.dst = some d ∧ p.guard = none := by
          intro n hNn hnk
          obtain ⟨oN, t, x, v, hoN, hNop, hNd, hNg, hext⟩ := floatAt_of (hfl n hNn (by omega))
          have hdN := deps_in hback hcl n oN hoN (fun e he hb => hcl n oN hoN (hSN n hNn hnk) e he hb)
          have hbit : Nat.testBit ((deps ops []).getD n 0) i = false := by
            rcases hq : Nat.testBit ((deps ops []).getD n 0) i with _ | _
            · rfl
            · rw [hdN i hq] at hSi; cases hSi
          obtain ⟨p, d, hp, hpf, hpd, hpg, _, _⟩ := hext i (by omega) hbit
          exact ⟨oN, t, x, v, p, d, hoN, hNop, hNg, hp, hpf, hpd, hpg⟩
        obtain ⟨_, _, _, _, p, d, _, _, _, hp, hpf, hpd, hpg⟩ := hfloat N (Nat.le_refl _) hk
        rw [ho'] at hp; cases hp
        obtain ⟨m, F, hSR⟩ := hSR
        have hpo : (ops.take N)[i]? = some o := (hop i o).2 ⟨hi, ho'⟩
        obtain ⟨h1, h2⟩ := hs i o _ hpo (hmask i hi)
        obtain ⟨hfr, u, bs, hp, hb, hcase⟩ := preStep_of h1
        rw [hp] at h2
        have hdin := deps_in hback hcl i o ho' hdep
        have hρ : ∀ t, maskR (ops.take N) ((deps ops []).getD i 0) (sts i) t = .poison ∨ maskR (ops.take N) ((deps ops []).getD i 0) (sts i) t = seenR (ops.take N) S (sts N) t := by
          intro t
          simp only [maskR, seenR]
          by_cases hv : vis (ops.take N) (Nat.testBit ((deps ops []).getD i 0)) t = true
          · obtain ⟨g1, _⟩ := (frame i N (by omega) (by omega)).2 t (fun j o'' hij _ hj hd => by
              have := vis_iff.1 hv j o'' hj hd
              have := hmlt i o ho' j this
              omega)
            right
            rw [if_pos hv, if_pos (vis_mono hdin hv), g1]
          · left; rw [if_neg hv]
        have hvis : ∀ t, o.dst ≠ some t → vis (ops.take N) (fun j => if j = i then true else S j) t = vis (ops.take N) S t := by
          intro t hne
          rw [Bool.eq_iff_iff, vis_iff, vis_iff]
          refine ⟨fun h j o'' hj hd => ?_, fun h j o'' hj hd => ?_⟩
          · have := h j o'' hj hd
            by_cases e : j = i
            · subst e; rw [hpo] at hj; cases hj; exact absurd hd hne
            · rwa [if_neg e] at this
          · split
            · rfl
            · exact h j o'' hj hd
        have hv1 : vis (ops.take N) (fun j => if j = i then true else S j) d = true := vis_iff.2 fun j o'' hj hd' => by
          have := huniq j i o'' o d ((hop _ _).1 hj).2 ho' hd' hpd
          rw [if_pos this]
        have hv2 : vis (ops.take N) S d = false := by
          rcases hq : vis (ops.take N) S d with _ | _
          · rfl
          · have := vis_iff.1 hq i o hpo hpd
            rw [hSi] at this; cases this
        obtain ⟨f1, _, _⟩ := St.app_fn (sts i) o.dst ⟨none, none, u, bs⟩
        have hafter : (sts N).slot d = (sts (i + 1)).slot d := by
          refine ((frame (i + 1) N (by omega) (by omega)).2 d (fun j o'' hij _ hj hd' => ?_)).1
          have := huniq j i o'' o d ((hop _ _).1 hj).2 ho' hd' hpd
          omega
        have eρ : updR st.tmps.length (seenR (ops.take N) S (sts N)) o.dst u = seenR (ops.take N) (fun j => if j = i then true else S j) (sts N) := by
          funext t
          by_cases hd : o.dst = some t
          · rw [hpd] at hd
            cases hd
            have hl := hlenS i (Nat.le_of_lt hi)
            rw [hpd, updR_same]
            simp only [seenR, hv1, hv2, if_true]
            rw [hafter, h2, f1, hpd]
            have e1 : preR (sts i).slot (sts i).blk ⟨none, none, u, bs⟩ = (sts i).slot := rfl
            rw [e1, hl]
            simp only [updR_same]
            by_cases hlt : d < st.tmps.length
            · rw [if_pos hlt, if_pos hlt]
            · rw [if_neg hlt, if_neg hlt, slot_out (sts i) (t := d) (by rw [hl]; exact Nat.not_lt.1 hlt)]
              rfl
          · rw [updR_ne hd]
            simp only [seenR, hvis t hd]
        have hw : wantL ops (maskR (ops.take N) ((deps ops []).getD i 0) (sts i)) o = some true := by unfold wantL; rw [hpg]
        rcases hcase with ⟨_, bs', hv', _⟩ | ⟨hwf, _⟩
        case inr => rw [hw] at hwf; cases hwf
        refine (wpOp_one (by simpa using ho') (by unfold Region.wanted; rw [hpg]) ?_)
        have hv3 : vop E (seenR (ops.take N) S (sts N)) (ts (k - N)).blk (o.dst.getD 0) o.op = some (u, bs') := by
          rcases hpf with hpf | ⟨lt, y, _, b, _, hpop, _, hy, _, _⟩
          · rw [pure_vop (β' := fun _ => none) hpf] at hv' ⊢
            exact vop_mono hρ (fun _ => .inl rfl) hv'
          · -- a load from another block than the ones that are stored to
            have keepS : ∀ k t', k ≤ N → (∀ (j : Nat) (q : Oper), ops[j]? = some q → q.dst ≠ some t') → (sts k).slot t' = st.slot t' := fun k t' hk hn => by
              have := ((frame 0 k (by omega) (by omega)).2 t' (fun j o'' _ _ hj hd => hn j o'' ((hop _ _).1 hj).2 hd)).1
              rw [this, s0]
            have hnp : maskR (ops.take N) ((deps ops []).getD i 0) (sts i) y ≠ .poison := by
              rw [hpop] at hv'
              exact load_np hv'
            have hyi : ∃ off, maskR (ops.take N) ((deps ops []).getD i 0) (sts i) y = .ptr b off := by
              rcases hy with ⟨off, hy, hny⟩ | ⟨j, q, z, off, hjn, hjq, hqd, hqg, hyl, hqop, hz, hnz⟩
              · have : vis (ops.take N) (Nat.testBit ((deps ops []).getD i 0)) y = true := vis_iff.2 fun j o'' hj hd => absurd hd (hny j o'' ((hop _ _).1 hj).2)
                refine ⟨off, ?_⟩
                simp only [maskR, this, if_true]
                rw [keepS i y (by omega) hny, hy]
              · have hjN : j < N := by
                  rcases Nat.lt_or_ge j N with h | h
                  · exact h
                  · obtain ⟨q', _, _, _, hq', _, hqd', _⟩ := floatAt_of (hfl j h (by omega))
                    rw [hjq] at hq'; cases hq'
                    rw [hqd] at hqd'; cases hqd'
                have hv : vis (ops.take N) (Nat.testBit ((deps ops []).getD i 0)) y = true := by
                  rcases hq : vis (ops.take N) (Nat.testBit ((deps ops []).getD i 0)) y with _ | _
                  · simp only [maskR, hq] at hnp
                    exact absurd rfl hnp
                  · rfl
                have hjo : (ops.take N)[j]? = some q := (hop j q).2 ⟨hjN, hjq⟩
                have hji : j < i := hmlt i o ho' j (vis_iff.1 hv j q hjo hqd)
                obtain ⟨q1, q2⟩ := hs j q _ hjo (hmask j hjN)
                obtain ⟨_, u', bs'', qp, _, qcase⟩ := preStep_of q1
                have hzj : maskR (ops.take N) ((deps ops []).getD j 0) (sts j) z = .ptr b off := by
                  have : vis (ops.take N) (Nat.testBit ((deps ops []).getD j 0)) z = true := vis_iff.2 fun j o'' hj hd => absurd hd (hnz j o'' ((hop _ _).1 hj).2)
                  simp only [maskR, this, if_true]
                  rw [keepS j z (by omega) hnz, hz]
                rcases qcase with ⟨_, bs3, qv, _⟩ | ⟨qw, _⟩
                · obtain ⟨o', eu⟩ : ∃ o', u' = .ptr b o' := by
                    rcases hqop with ⟨t1, i1, e1⟩ | ⟨t1, f1, e1⟩
                    · rw [e1] at qv; exact indexAddr_ptr hzj qv
                    · rw [e1] at qv; exact fieldAddr_ptr hzj qv
                  refine ⟨o', ?_⟩
                  simp only [maskR, hv, if_true]
                  have g5 := ((frame (j + 1) i (by omega) (by omega)).2 y (fun j2 o2 hij _ hj2 hd' => by
                    have := huniq j2 j o2 q y ((hop _ _).1 hj2).2 hjq hd' hqd
                    omega)).1
                  obtain ⟨f1, _, _⟩ := St.app_fn (sts j) q.dst ⟨none, none, u', bs''⟩
                  rw [g5, q2, qp, f1, hqd, updR_same, hlenS j (by omega), if_pos hyl, eu]
                · unfold wantL at qw
                  rw [hqg] at qw
                  cases qw
            obtain ⟨off, hyi⟩ := hyi
            have hyN : (seenR (ops.take N) S (sts N)) y = .ptr b off := by
              rcases hρ y with h | h
              · exact absurd h hnp
              · rw [← h, hyi]
            have hone : ∀ n, N ≤ n → n < k → (ts (n + 1 - N)).blk b = (ts (n - N)).blk b := by
              intro n hNn hnk
              obtain ⟨oN, tN, xN, vN, p2, d2, hoN, hNop, hNg, hp2, hpf2, _, _⟩ := hfloat n hNn hnk
              rw [ho'] at hp2; cases hp2
              rcases hpf2 with hq | ⟨lt2, y2, x2, b2, b2', hpop2, rfl, hy2, hbb2, hnx2⟩
              · rw [hpop] at hq; cases hq
              · rw [hpop] at hpop2; cases hpop2
                obtain rfl := AddrAt.uniq huniq hy hy2
                have hx0 : ∃ off', (ts (n - N)).slot x2 = .ptr b2' off' := by
                  rw [(hst (n - N) (by omega)).1]
                  rcases hnx2 with ⟨off', hx', hnx⟩ | ⟨rfl, hxl, j, q, ta, hjn, hjq, hqop, hqg, hqd⟩
                  · exact ⟨off', by rw [t0, ← sN, keepS N x2 (Nat.le_refl _) hnx, hx']⟩
                  · have hjN : j < N := by
                      rcases Nat.lt_or_ge j N with h | h
                      · exact h
                      · obtain ⟨q', _, _, _, hq', _, hqd', _⟩ := floatAt_of (hfl j h (by omega))
                        rw [hjq] at hq'; cases hq'
                        rw [hqd] at hqd'; cases hqd'
                    have hjo : (ops.take N)[j]? = some q := (hop j q).2 ⟨hjN, hjq⟩
                    obtain ⟨q1, q2⟩ := hs j q _ hjo (hmask j hjN)
                    obtain ⟨_, u', bs'', qp, _, qcase⟩ := preStep_of q1
                    rcases qcase with ⟨_, bs3, qv, _⟩ | ⟨qw, _⟩
                    · rw [hqop] at qv
                      have eu : u' = .ptr (8 * x2) 0 := by
                        obtain ⟨xs, qv⟩ := vop_gen (by intro _ _ _ e; cases e) qv
                        change opAlloc E (q.dst.getD 0) ta = some (u', bs3) at qv
                        rw [hqd] at qv
                        unfold opAlloc at qv
                        split at qv
                        · exact (congrArg Prod.fst (Option.some.inj qv)).symm
                        · cases qv
                      refine ⟨0, ?_⟩
                      rw [t0, ← sN]
                      have g5 := ((frame (j + 1) N (by omega) (by omega)).2 x2 (fun j2 o2 hij _ hj2 hd' => by
                        have := huniq j2 j o2 q x2 ((hop _ _).1 hj2).2 hjq hd' hqd
                        omega)).1
                      obtain ⟨f1, _, _⟩ := St.app_fn (sts j) q.dst ⟨none, none, u', bs''⟩
                      rw [g5, q2, qp, f1, hqd, updR_same, hlenS j (by omega), if_pos hxl, eu]
                    · unfold wantL at qw
                      rw [hqg] at qw
                      cases qw
                obtain ⟨off', hx0⟩ := hx0
                obtain ⟨g1, g2⟩ := ht (n - N) oN (by rw [List.getElem?_drop, show N + (n - N) = n by omega]; exact hoN)
                obtain ⟨_, f2, _⟩ := St.app_fn (ts (n - N)) oN.dst (qs (n - N))
                rw [show n + 1 - N = (n - N) + 1 by omega, g2, f2]
                obtain ⟨kk, hk⟩ := store_blk g1 hNop hNg hx0
                rw [hk]
                exact updBs_other _ _ _ (by simp; exact fun e => hbb2 e.symm)
            have hblk : ∀ r, N + r ≤ k → (ts r).blk b = (ts 0).blk b := by
              intro r
              induction r with
              | zero => exact fun _ => rfl
              | succ r ih =>
                intro hr
                have := hone (N + r) (by omega) (by omega)
                rw [show N + r + 1 - N = r + 1 by omega, show N + r - N = r by omega] at this
                rw [this, ih (by omega)]
            have hβb : ∀ kk, maskB (ops.take N) ((deps ops []).getD i 0) (sts i) b = some kk → (ts (k - N)).blk b = some kk := by
              intro kk hk2
              rw [hblk (k - N) (by omega), t0, ← sN]
              simp only [maskB] at hk2
              split at hk2
              · rename_i hv
                obtain ⟨_, g3⟩ := (frame i N (by omega) (by omega)).2 (b / 8) (fun j o'' hij _ hj hd => by
                  have := vis_iff.1 hv j o'' hj hd
                  have := hmlt i o ho' j this
                  omega)
                rw [g3 b rfl]
                exact hk2
              · cases hk2
            rw [hpop] at hv' ⊢
            exact load_same hyi hyN hβb hv'
        refine Oper.wp_mono (fun a' w' hq => ?_) (vop_ok hE hSR (fun hm => by rw [float_makes hpf] at hm; cases hm) hv3)
        obtain ⟨m', F', hq⟩ := hq
        rw [eρ, float_blks hpf hv3] at hq
        refine ⟨hcl', .inr (.inr ⟨k, hk, hk1, fun j h1 h2 => ?_, fun j hj => ?_, m', F', ?_⟩)⟩
        · by_cases e : j = i
          · simp [e]
          · rw [updB_ne e]; exact hSN j h1 h2
        · rw [updB_ne (by omega)]; exact hN0 j hj
        · have : updBO o.dst (ts (k - N)).blk [] = (ts (k - N)).blk := by unfold updBO; split <;> rfl
          rw [this] at hq
          exact hq
  · obtain ⟨_, hI⟩ := hI
    have hsz : ops.toArray.size = ops.length := by simp
    rw [hsz] at hS
    rw [List.length_drop] at tN
    rcases hI with ⟨hN0, hSR⟩ | ⟨k, hk, hkl, hSk, hSR⟩ | ⟨k, hk, hk1, hSN, hN0, hSR⟩
    case inr.inr =>
      have hke : k = ops.length := by
        rcases Nat.lt_or_ge k ops.length with h | h
        · have := hS k h
          rw [hN0 k (Nat.le_refl _)] at this; cases this
        · omega
      refine hQ _ _ ?_
      have := hallK k S a w hk1 (by omega) (fun j hj => hS j (by omega)) hSR
      rw [hke] at this
      rw [← tN]
      exact this
    · have hNe : N = ops.length := by
        rcases Nat.lt_or_ge N ops.length with h | h
        · have := hS N h
          rw [hN0 N (Nat.le_refl _)] at this; cases this
        · omega
      refine hQ _ _ ?_
      rw [← tN, hNe, Nat.sub_self]
      exact hall S a w (fun j hj => hS j (by omega)) hSR
    · have hge : k = ops.length := by
        rcases Nat.lt_or_ge k ops.length with h | h
        · have := (hSk k).1 (hS k h); omega
        · omega
      refine hQ _ _ ?_
      rw [← tN, ← hge]
      exact hSR
  · simp
  · have hS0 : (fun j => (Array.replicate ops.toArray.size false).getD j false) = fun _ => false := by
      funext j
      simp only [Array.getD_eq_getD_getElem?, Array.getElem?_replicate]
      split <;> rfl
    rw [hS0]
    refine ⟨fun i o _ h => by simp at h, .inl ⟨fun _ _ => rfl, ?_⟩⟩
    obtain ⟨m, F, S0⟩ := S0
    have hun : ∀ t, vis (ops.take N) (fun _ => false) t = true → (sts N).slot t = st.slot t ∧ ∀ b, b / 8 = t → (sts N).blk b = st.blk b := by
      intro t hv
      have := (frame 0 N (by omega) (by omega)).2 t (fun j o _ _ hj hd => by
        have := vis_iff.1 hv j o hj hd
        cases this)
      rwa [s0] at this
    have hhid : ∀ b, vis (ops.take N) (fun _ => false) (b / 8) = false → st.blk b = none := by
      intro b hv
      have : ∃ (j : Nat) (o : Oper), (ops.take N)[j]? = some o ∧ o.dst = some (b / 8) := by
        apply Classical.byContradiction
        intro hno
        have : vis (ops.take N) (fun _ => false) (b / 8) = true := vis_iff.2 fun j o hj hd => absurd ⟨j, o, hj, hd⟩ hno
        rw [hv] at this; cases this
      obtain ⟨j, o, hj, hd⟩ := this
      have hjN := ((hop j o).1 hj).1
      obtain ⟨h1, _⟩ := hs j o _ hj (hmask j hjN)
      have hfr := (preStep_of h1).1
      have := (frame 0 j (by omega) (by omega)).2 (b / 8) (fun j' o' _ hj' hj'' hd' => by
        have := huniq j' j _ _ _ ((hop _ _).1 hj'').2 ((hop _ _).1 hj).2 hd' hd
        omega)
      rw [s0] at this
      rw [← this.2 b rfl]
      exact freshA_blk hfr hd rfl
    have eβ : seenB (ops.take N) (fun _ => false) (sts N) = st.blk := by
      funext b
      simp only [seenB]
      rcases hv : vis (ops.take N) (fun _ => false) (b / 8) with _ | _
      · rw [hhid b hv]; rfl
      · rw [(hun _ hv).2 b rfl]; rfl
    refine ⟨m, F, { S0 with slots := fun t => ?_, blks := ?_, sep := ?_, dom := ?_, lent := ?_ }⟩
    · simp only [seenR]
      split
      · rename_i hv
        rw [(hun t hv).1]
        exact S0.slots t
      · exact .poison _ _
    · rw [eβ]; exact S0.blks
    · rw [eβ]; exact S0.sep
    · rw [eβ]; exact S0.dom
    · rw [eβ]; exact S0.lent
end
end Go.Proofs.YtdeigmjbcbjgeaaGreatDoor
