import Derived.Test.YtdeigmjbcbjgeaaGreatDoorYcMI
namespace Go.Proofs.YtdeigmjbcbjgeaaGreatDoor
open Go.RowKit
def pureF : Op → Bool
 | .slice _ _ _ _ _ => true
 | op => pureT op
def tmpsO : List Operand → List Nat
 | [] => []
 | .tmp t :: l => t :: tmpsO l
 | _ :: l => tmpsO l
def readsO (ops : List Oper) (o : Oper) : List Nat := match o.guard with
 | none => tmpsO (opers o.op)
 | some (j, _) => match (ops[j]?).bind (·.dst) with
  | some d => d :: tmpsO (opers o.op)
  | none => tmpsO (opers o.op)
def isPick : Op → Bool
 | .pick _ _ _ => true
 | _ => false
def chainOne (ops : List Oper) (fl : Nat → Bool) (i : Nat) (o : Oper) (m : Nat) : Bool :=
 if fl i then pureF o.op && o.guard.isNone && o.dst.isSome && (readsO ops o).all fun t => (List.range ops.length).all fun j => match (ops[j]?).bind (·.dst) with
  | some d => d != t || (fl j && decide (j < i) && Nat.testBit m j)
  | none => true
 else !isPick o.op && ((List.range i).all fun j => fl j || Nat.testBit m j) && (readsO ops o).all fun t => (List.range ops.length).all fun j => match (ops[j]?).bind (·.dst) with
  | some d => d != t || !fl j || Nat.testBit m j
  | none => true
def chainB (ops : List Oper) (ds : List Nat) (fl : Nat → Bool) : Bool := (List.range ops.length).all fun i => match ops[i]? with
 | some o => chainOne ops fl i o (ds.getD i 0)
 | none => true
def protO (ops : List Oper) (fl : Nat → Bool) : List Nat := (List.range ops.length).flatMap fun i => match ops[i]? with
 | some o => if fl i then o.dst.toList ++ readsO ops o else []
 | none => []
def safeU (prot : List Nat) (st : St) (dst : Option Nat) (p : Upd) : Bool := p.calm.isNone && (match p.gone with
 | some B => prot.all fun t => !(st.slot t).ment B mentD
 | none => true) && match dst with
 | some d => !prot.contains d
 | none => true
def flSteps (E : Env) (ops : List Oper) (fl : Nat → Bool) : List Oper → Nat → St → Option St
 | [], _, st => some st
 | o :: l, i, st => if fl i then match opStep E ops st o with
  | some p => flSteps E ops fl l (i + 1) (st.app o.dst p)
  | none => none else flSteps E ops fl l (i + 1) st
def chSteps (E : Env) (ops : List Oper) (fl : Nat → Bool) (prot : List Nat) : List Oper → Nat → St → Option St
 | [], _, st => some st
 | o :: l, i, st => if fl i then chSteps E ops fl prot l (i + 1) st else match opStep E ops st o with
  | some p => if safeU prot st o.dst p then chSteps E ops fl prot l (i + 1) (st.app o.dst p) else none
  | none => none
section
variable {P : Program} {E : Env} {A : Nat → Prop} {w0 : Fr} {a : Act} {w : World}
theorem flSteps_chain {ops : List Oper} {fl : Nat → Bool} : ∀ (l : List Oper) (i0 : Nat) (st stF : St), flSteps E ops fl l i0 st = some stF → ∃ T : Nat → St, T i0 = st ∧ T (i0 + l.length) = stF ∧
  ∀ (j : Nat) (o : Oper), l[j]? = some o → (fl (i0 + j) = true → ∃ p, opStep E ops (T (i0 + j)) o = some p ∧ T (i0 + j + 1) = (T (i0 + j)).app o.dst p) ∧ (fl (i0 + j) = false → T (i0 + j + 1) = T (i0 + j))
 | [], i0, st, stF, h => ⟨fun _ => st, rfl, Option.some.inj h, fun j o hj => by simp at hj⟩
 | o :: l, i0, st, stF, h => by
  unfold flSteps at h
  have key : ∀ st', flSteps E ops fl l (i0 + 1) st' = some stF → ((fl i0 = true → ∃ p, opStep E ops st o = some p ∧ st' = st.app o.dst p) ∧ (fl i0 = false → st' = st)) → ∃ T : Nat → St, T i0 = st ∧ T (i0 + (o :: l).length) = stF ∧
    ∀ (j : Nat) (o' : Oper), (o :: l)[j]? = some o' → (fl (i0 + j) = true → ∃ p, opStep E ops (T (i0 + j)) o' = some p ∧ T (i0 + j + 1) = (T (i0 + j)).app o'.dst p) ∧ (fl (i0 + j) = false → T (i0 + j + 1) = T (i0 + j)) := by
   intro st' h' hs
   obtain ⟨T, t0, tl, ht⟩ := flSteps_chain l (i0 + 1) st' stF h'
   refine ⟨fun k => if k = i0 then st else T k, if_pos rfl, ?_, fun j o' hj => ?_⟩
   ·show (if i0 + (l.length + 1) = i0 then st else T (i0 + (l.length + 1))) = stF
    rw [if_neg (by omega), ← tl]
    congr 1
    omega
   ·cases j with
    | zero =>
     simp only [List.getElem?_cons_zero, Option.some.injEq] at hj
     subst hj
     simp only [Nat.add_zero, if_true]
     rw [if_neg (by omega), t0]
     exact hs
    | succ j =>
     simp only [List.getElem?_cons_succ] at hj
     have := ht j o' hj
     simp only
     rw [if_neg (by omega), if_neg (by omega), show i0 + (j + 1) = i0 + 1 + j by omega]
     exact this
  split at h
  ·rename_i hf
   split at h
   ·rename_i p hp
    exact key _ h ⟨fun _ => ⟨p, hp, rfl⟩, fun e => by rw [hf] at e; cases e⟩
   ·cases h
  ·rename_i hf
   exact key _ h ⟨fun e => absurd e hf, fun _ => rfl⟩
theorem chSteps_chain {ops : List Oper} {fl : Nat → Bool} {prot : List Nat} : ∀ (l : List Oper) (i0 : Nat) (st stF : St), chSteps E ops fl prot l i0 st = some stF → ∃ T : Nat → St, T i0 = st ∧ T (i0 + l.length) = stF ∧
  ∀ (j : Nat) (o : Oper), l[j]? = some o → (fl (i0 + j) = false → ∃ p, opStep E ops (T (i0 + j)) o = some p ∧ safeU prot (T (i0 + j)) o.dst p = true ∧ T (i0 + j + 1) = (T (i0 + j)).app o.dst p) ∧ (fl (i0 + j) = true → T (i0 + j + 1) = T (i0 + j))
 | [], i0, st, stF, h => ⟨fun _ => st, rfl, Option.some.inj h, fun j o hj => by simp at hj⟩
 | o :: l, i0, st, stF, h => by
  unfold chSteps at h
  have key : ∀ st', chSteps E ops fl prot l (i0 + 1) st' = some stF → ((fl i0 = false → ∃ p, opStep E ops st o = some p ∧ safeU prot st o.dst p = true ∧ st' = st.app o.dst p) ∧ (fl i0 = true → st' = st)) → ∃ T : Nat → St, T i0 = st ∧ T (i0 + (o :: l).length) = stF ∧
    ∀ (j : Nat) (o' : Oper), (o :: l)[j]? = some o' → (fl (i0 + j) = false → ∃ p, opStep E ops (T (i0 + j)) o' = some p ∧ safeU prot (T (i0 + j)) o'.dst p = true ∧ T (i0 + j + 1) = (T (i0 + j)).app o'.dst p) ∧ (fl (i0 + j) = true → T (i0 + j + 1) = T (i0 + j)) := by
   intro st' h' hs
   obtain ⟨T, t0, tl, ht⟩ := chSteps_chain l (i0 + 1) st' stF h'
   refine ⟨fun k => if k = i0 then st else T k, if_pos rfl, ?_, fun j o' hj => ?_⟩
   ·show (if i0 + (l.length + 1) = i0 then st else T (i0 + (l.length + 1))) = stF
    rw [if_neg (by omega), ← tl]
    congr 1
    omega
   ·cases j with
    | zero =>
     simp only [List.getElem?_cons_zero, Option.some.injEq] at hj
     subst hj
     simp only [Nat.add_zero, if_true]
     rw [if_neg (by omega), t0]
     exact hs
    | succ j =>
     simp only [List.getElem?_cons_succ] at hj
     have := ht j o' hj
     simp only
     rw [if_neg (by omega), if_neg (by omega), show i0 + (j + 1) = i0 + 1 + j by omega]
     exact this
  split at h
  ·rename_i hf
   exact key _ h ⟨fun e => (by rw [hf] at e; cases e), fun _ => rfl⟩
  ·rename_i hf
   split at h
   ·rename_i p hp
    split at h
    ·rename_i hs
     exact key _ h ⟨fun _ => ⟨p, hp, hs, rfl⟩, fun e => absurd e hf⟩
    ·cases h
   ·cases h
theorem tmpsO_mem : ∀ {l : List Operand} {t : Nat}, .tmp t ∈ l → t ∈ tmpsO l
 | x :: l, t, h => by
  rcases List.mem_cons.1 h with h | h
  ·subst h
   exact List.mem_cons_self ..
  ·have := tmpsO_mem h
   cases x <;> simp [tmpsO, this]
theorem evalO_congr {ρ ρ' : Nat → LV} {l : List Operand} (h : ∀ t ∈ tmpsO l, ρ t = ρ' t) (x : Operand) (hx : x ∈ l) : evalO ρ x = evalO ρ' x := by
 cases x with
 | tmp t => simp only [evalO, h t (tmpsO_mem hx)]
 | _ => rfl
theorem optMap_congr {α γ : Type} {f g : α → Option γ} : ∀ {l : List α}, (∀ x ∈ l, f x = g x) → optMap f l = optMap g l
 | [], _ => rfl
 | x :: l, h => by
  unfold optMap
  rw [h x (List.mem_cons_self ..), optMap_congr fun y hy => h y (List.mem_cons_of_mem _ hy)]
theorem vop_congr {ρ ρ' : Nat → LV} {β : Nat → Option Blk} {d : Nat} {op : Op} (hp : isPick op = false) (h : ∀ t ∈ tmpsO (opers op), ρ t = ρ' t) : vop E ρ β d op = vop E ρ' β d op := by
 have e := optMap_congr (evalO_congr h)
 unfold vop
 split
 ·cases hp
 ·rw [e]
theorem reads_op {ops : List Oper} {o : Oper} {t : Nat} (h : t ∈ tmpsO (opers o.op)) : t ∈ readsO ops o := by
 unfold readsO
 split
 ·exact h
 ·split
  ·exact List.mem_cons_of_mem _ h
  ·exact h
theorem wantL_congr {ops : List Oper} {ρ ρ' : Nat → LV} {o : Oper} (h : ∀ t ∈ readsO ops o, ρ t = ρ' t) : wantL ops ρ o = wantL ops ρ' o := by
 unfold wantL
 split
 ·rfl
 ·rename_i j want hg
  split
  ·rename_i d hd
   rw [h d (by unfold readsO; rw [hg]; simp only; rw [hd]; exact List.mem_cons_self ..)]
  ·rfl
theorem opStep_congr {ops : List Oper} {st st' : St} {o : Oper} (hp : isPick o.op = false) (hb : st.blks = st'.blks) (h : ∀ t ∈ readsO ops o, st.slot t = st'.slot t) : opStep E ops st o = opStep E ops st' o := by
 have h2 : ∀ t ∈ tmpsO (opers o.op), st.slot t = st'.slot t := fun t ht => h t (reads_op ht)
 have eb : st.blk = st'.blk := by funext b; unfold St.blk; rw [hb]
 unfold opStep
 rw [wantL_congr h, eb, vop_congr hp h2, optMap_congr (evalO_congr h2)]
 unfold freshD
 rw [hb]
theorem opSlice_blks {t : Nat} {l h m : Bool} {x u : LV} {is : List LV} {bs : List (Nat × Blk)} (hh : opSlice E t l h m x is = some (u, bs)) : bs = [] := by
 unfold opSlice at hh
 repeat' (split at hh)
 all_goals first
  | (cases hh; done)
  | exact (just_ok hh).2
  | exact (congrArg Prod.snd (Option.some.inj hh)).symm
  | skip
theorem pureF_vop {ρ : Nat → LV} {β β' : Nat → Option Blk} {d : Nat} {op : Op} (hf : pureF op = true) : vop E ρ β d op = vop E ρ β' d op := by
 cases op <;> simp only [pureF, pureT, Bool.false_eq_true] at hf
 all_goals rfl
theorem pureF_pick {op : Op} (hf : pureF op = true) : isPick op = false := by
 cases op <;> first | rfl | (simp only [pureF, pureT, Bool.false_eq_true] at hf)
theorem pureF_makes {op : Op} (hf : pureF op = true) : makes op = false := by
 cases op <;> first | rfl | (simp only [pureF, pureT, Bool.false_eq_true] at hf)
theorem pureF_blks {ρ : Nat → LV} {β : Nat → Option Blk} {d : Nat} {op : Op} {u : LV} {bs : List (Nat × Blk)} (hf : pureF op = true) (h : vop E ρ β d op = some (u, bs)) : bs = [] := by
 by_cases hs : pureT op = true
 ·exact float_blks (ops := []) (n := 0) (st := ⟨[], []⟩) (x := .tmp 0) (.inl hs) h
 ·cases op <;> first | (exact absurd hf hs) | skip
  obtain ⟨xs, h⟩ := vop_gen (by intro _ _ _ e; cases e) h
  unfold vopX at h
  simp only at h
  split at h
  ·exact opSlice_blks h
  ·cases h
theorem pureF_mopX {β : Nat → Option Blk} {dst : Option Nat} {op : Op} {xs : List LV} (hf : pureF op = true) : mopX E β dst op xs = none := by
 have hw : wcall op xs = none := by
  cases op <;> first | rfl | (simp only [pureF, pureT, Bool.false_eq_true] at hf)
 unfold mopX
 rw [hw]
 show mopX0 E β dst op xs = none
 cases op <;> first | rfl | (simp only [pureF, pureT, Bool.false_eq_true] at hf) | skip
theorem fl_step {ops : List Oper} {st : St} {o : Oper} {p : Upd} (hf : pureF o.op = true) (hg : o.guard = none) (h : opStep E ops st o = some p) : ∃ u, vop E st.slot st.blk (o.dst.getD 0) o.op = some (u, []) ∧ p = ⟨none, none, u, []⟩ := by
 unfold opStep wantL at h
 rw [hg] at h
 simp only at h
 split at h
 case isFalse => cases h
 split at h
 ·rename_i u bs hv
  have := pureF_blks hf hv
  subst this
  refine ⟨u, hv, ?_⟩
  rw [← Option.some.inj h]
  simp
 ·split at h
  ·rw [pureF_mopX hf] at h
   cases h
  ·cases h
def St.hid (st : St) (S : Nat → Bool) : St := ⟨(List.range st.tmps.length).map fun t => if S t then st.slot t else .poison, st.blks⟩
theorem hid_slot (st : St) (S : Nat → Bool) (t : Nat) : (st.hid S).slot t = if S t then st.slot t else .poison := by
 show ((List.range st.tmps.length).map fun t => if S t then st.slot t else .poison).getD t .poison = _
 rw [List.getD_eq_getElem?_getD, List.getElem?_map]
 by_cases h : t < st.tmps.length
 ·rw [List.getElem?_range h]; rfl
 ·rw [List.getElem?_eq_none (by rw [List.length_range]; omega), slot_out st (by omega)]
  simp
theorem hid_len (st : St) (S : Nat → Bool) : (st.hid S).tmps.length = st.tmps.length := by simp [St.hid]
theorem chainB_of {ops : List Oper} {ds : List Nat} {fl : Nat → Bool} (h : chainB ops ds fl = true) (i : Nat) (o : Oper) (ho : ops[i]? = some o) :
  (fl i = true → pureF o.op = true ∧ o.guard = none ∧ (∃ d, o.dst = some d) ∧ ∀ t ∈ readsO ops o, ∀ (j : Nat) (p : Oper), ops[j]? = some p → p.dst = some t → fl j = true ∧ j < i ∧ Nat.testBit (ds.getD i 0) j = true) ∧
  (fl i = false → isPick o.op = false ∧ (∀ j, j < i → fl j = false → Nat.testBit (ds.getD i 0) j = true) ∧ ∀ t ∈ readsO ops o, ∀ (j : Nat) (p : Oper), ops[j]? = some p → p.dst = some t → fl j = true → Nat.testBit (ds.getD i 0) j = true) := by
 have h1 := List.all_eq_true.1 h i (List.mem_range.2 (lt_of_get ho))
 rw [ho] at h1
 simp only at h1
 unfold chainOne at h1
 refine ⟨fun hf => ?_, fun hf => ?_⟩
 ·rw [if_pos hf] at h1
  simp only [Bool.and_eq_true, List.all_eq_true, List.mem_range] at h1
  obtain ⟨⟨⟨g1, g2⟩, g3⟩, g4⟩ := h1
  refine ⟨g1, by simpa using g2, Option.isSome_iff_exists.1 g3, fun t ht j p hj hd => ?_⟩
  have := g4 t ht j (lt_of_get hj)
  rw [hj] at this
  simp only [Option.bind_some, hd, bne_self_eq_false, Bool.false_or, Bool.and_eq_true, decide_eq_true_eq] at this
  exact ⟨this.1.1, this.1.2, this.2⟩
 ·rw [if_neg (by rw [hf]; simp)] at h1
  simp only [Bool.and_eq_true, List.all_eq_true, List.mem_range, Bool.or_eq_true] at h1
  obtain ⟨⟨g1, g2⟩, g3⟩ := h1
  refine ⟨by simpa using g1, fun j hj hjf => (g2 j hj).resolve_left (by rw [hjf]; simp), fun t ht j p hj hd hjf => ?_⟩
  have := g3 t ht j (lt_of_get hj)
  rw [hj] at this
  simp only [Option.bind_some, hd, bne_self_eq_false, Bool.or_eq_true, hjf, Bool.not_true, Bool.false_eq_true, false_or] at this
  exact this
theorem protO_mem {ops : List Oper} {fl : Nat → Bool} {i : Nat} {o : Oper} (ho : ops[i]? = some o) (hf : fl i = true) {t : Nat} (ht : o.dst = some t ∨ t ∈ readsO ops o) : t ∈ protO ops fl := by
 unfold protO
 rw [List.mem_flatMap]
 refine ⟨i, List.mem_range.2 (lt_of_get ho), ?_⟩
 rw [ho]
 simp only [hf, if_true, List.mem_append]
 rcases ht with h | h
 ·exact .inl (by rw [h]; simp)
 ·exact .inr h
theorem lose_same {B : Nat} {u : LV} (h : u.ment B mentD = false) : u.lose B = u := by
 unfold LV.lose
 rw [h]
 rfl
theorem safe_slot {prot : List Nat} {st : St} {dst : Option Nat} {p : Upd} (h : safeU prot st dst p = true) {t : Nat} (ht : t ∈ prot) : (st.app dst p).slot t = st.slot t := by
 unfold safeU at h
 simp only [Bool.and_eq_true] at h
 obtain ⟨⟨h1, h2⟩, h3⟩ := h
 have hc : p.calm = none := by simpa using h1
 obtain ⟨f1, _, _⟩ := St.app_fn st dst p
 rw [f1]
 have hd : dst ≠ some t := by
  rintro rfl
  simp only [Bool.not_eq_true', List.contains_eq_mem, decide_eq_false_iff_not] at h3
  exact h3 ht
 rw [updR_ne hd]
 unfold preR
 rw [hc]
 cases hg : p.gone with
 | none => rfl
 | some B =>
  rw [hg] at h2
  simp only [List.all_eq_true, Bool.not_eq_true'] at h2
  exact lose_same (h2 t ht)
def visF (ops : List Oper) (fl S : Nat → Bool) (t : Nat) : Bool := vis ops (fun j => S j || !fl j) t
theorem visF_iff {ops : List Oper} {fl S : Nat → Bool} {t : Nat} : visF ops fl S t = true ↔ ∀ (j : Nat) (o : Oper), ops[j]? = some o → o.dst = some t → fl j = true → S j = true := by
 unfold visF
 rw [vis_iff]
 refine ⟨fun h j o hj hd hf => ?_, fun h j o hj hd => ?_⟩
 ·have := h j o hj hd
  rw [hf] at this
  simpa using this
 ·cases hf : fl j with
  | true => rw [h j o hj hd hf]; rfl
  | false => simp
theorem wpChain_ok (hE : EnvOk P E) {ops : List Oper} {fl : Nat → Bool} {st st0 stE : St} (hreg : regB ops = true) (hch : chainB ops (deps ops []) fl = true) (hF : flSteps E ops fl ops 0 st = some st0) (hC : chSteps E ops fl (protO ops fl) ops 0 st0 = some stE)
  (S0 : SRs A w0 st a w) {Q : Exit → Act → World → Prop} (hQ : ∀ a' w', SRs A w0 stE a' w' → Q .normal a' w') : wpAny P .any ops.toArray Q ops.toArray.size (Array.replicate ops.toArray.size false) a w := by
 obtain ⟨huniq, hback⟩ := regB_of hreg
 obtain ⟨G, g0, gE, hG⟩ := flSteps_chain ops 0 st st0 hF
 obtain ⟨T, t0, tE, hT⟩ := chSteps_chain ops 0 st0 stE hC
 simp only [Nat.zero_add] at gE tE hG hT
 have hb := chainB_of hch
 -- what the floating operations give
 have hGs : ∀ (i : Nat) (o : Oper), ops[i]? = some o → fl i = true → ∃ u d, o.dst = some d ∧ vop E (G i).slot (G i).blk d o.op = some (u, []) ∧ G (i + 1) = (G i).app o.dst ⟨none, none, u, []⟩ := by
  intro i o ho hf
  obtain ⟨h1, h2, ⟨d, hd⟩, _⟩ := (hb i o ho).1 hf
  obtain ⟨p, hp, hp2⟩ := (hG i o ho).1 hf
  obtain ⟨u, hv, rfl⟩ := fl_step h1 h2 hp
  exact ⟨u, d, hd, by rw [hd] at hv; exact hv, hp2⟩
 have gfn : ∀ (i : Nat) (u : LV) (d : Option Nat), ((G i).app d ⟨none, none, u, []⟩).slot = updR (G i).tmps.length (G i).slot d u ∧ ((G i).app d ⟨none, none, u, []⟩).blk = (G i).blk ∧ ((G i).app d ⟨none, none, u, []⟩).tmps.length = (G i).tmps.length := by
  intro i u d
  obtain ⟨f1, f2, f3⟩ := St.app_fn (G i) d ⟨none, none, u, []⟩
  exact ⟨f1, f2, f3⟩
 have hlenG : ∀ i, i ≤ ops.length → (G i).tmps.length = st.tmps.length ∧ (G i).blk = st.blk := by
  intro i
  induction i with
  | zero => exact fun _ => ⟨by rw [g0], by rw [g0]⟩
  | succ i ih =>
   intro hi
   obtain ⟨i1, i2⟩ := ih (by omega)
   obtain ⟨o, ho⟩ : ∃ o, ops[i]? = some o := ⟨_, List.getElem?_eq_getElem (show i < ops.length by omega)⟩
   cases hf : fl i with
   | true =>
    obtain ⟨u, d, _, _, h⟩ := hGs i o ho hf
    obtain ⟨_, f2, f3⟩ := gfn i u o.dst
    rw [h, f2, f3]
    exact ⟨i1, i2⟩
   | false => rw [(hG i o ho).2 hf]; exact ⟨i1, i2⟩
 have hlenT : ∀ i, i ≤ ops.length → (T i).tmps.length = st.tmps.length := by
  intro i
  induction i with
  | zero => intro _; rw [t0, ← gE]; exact (hlenG _ (Nat.le_refl _)).1
  | succ i ih =>
   intro hi
   obtain ⟨o, ho⟩ : ∃ o, ops[i]? = some o := ⟨_, List.getElem?_eq_getElem (show i < ops.length by omega)⟩
   cases hf : fl i with
   | true => rw [(hT i o ho).2 hf]; exact ih (by omega)
   | false =>
    obtain ⟨p, _, _, h⟩ := (hT i o ho).1 hf
    rw [h, (St.app_fn _ _ _).2.2]
    exact ih (by omega)
 -- slots that no floating operation from i on writes
 have hGsame : ∀ (t i : Nat), i ≤ ops.length → (∀ (j : Nat) (o : Oper), i ≤ j → ops[j]? = some o → o.dst = some t → fl j = false) → ∀ k, i + k ≤ ops.length → (G (i + k)).slot t = (G i).slot t := by
  intro t i hi hn k
  induction k with
  | zero => exact fun _ => rfl
  | succ k ih =>
   intro hk
   obtain ⟨o, ho⟩ : ∃ o, ops[i + k]? = some o := ⟨_, List.getElem?_eq_getElem (show i + k < ops.length by omega)⟩
   have ih := ih (by omega)
   cases hf : fl (i + k) with
   | true =>
    obtain ⟨u, d, hd, _, h⟩ := hGs (i + k) o ho hf
    rw [show i + (k + 1) = i + k + 1 by omega, h, (gfn _ _ _).1, updR_ne, ih]
    intro e
    have := hn (i + k) o (by omega) ho e
    rw [hf] at this; cases this
   | false => rw [show i + (k + 1) = i + k + 1 by omega, (hG _ o ho).2 hf, ih]
 have hTsame : ∀ t ∈ protO ops fl, ∀ i, i ≤ ops.length → (T i).slot t = (T 0).slot t := by
  intro t ht i
  induction i with
  | zero => exact fun _ => rfl
  | succ i ih =>
   intro hi
   obtain ⟨o, ho⟩ : ∃ o, ops[i]? = some o := ⟨_, List.getElem?_eq_getElem (show i < ops.length by omega)⟩
   cases hf : fl i with
   | true => rw [(hT i o ho).2 hf]; exact ih (by omega)
   | false =>
    obtain ⟨p, _, hs, h⟩ := (hT i o ho).1 hf
    rw [h, safe_slot hs ht]
    exact ih (by omega)
 let hr : (Nat → Bool) → St → Nat → LV := fun S s t => if visF ops fl S t then s.slot t else .poison
 let I : (Nat → Bool) → Act → World → Prop := fun S a w =>
  (∀ (i : Nat) (o : Oper), ops[i]? = some o → S i = true → ∀ e ∈ o.after, Region.binds .any e = true → S e.on = true) ∧
  ∃ k, k ≤ ops.length ∧ (∀ j, fl j = false → (S j = true ↔ j < k)) ∧ ∃ m F, SR A w0 st.tmps.length m F (hr S (T k)) (T k).blk a w
 have hTfl : ∀ i k, k ≤ i → i ≤ ops.length → (∀ j, k ≤ j → j < i → fl j = true) → T i = T k := by
  intro i k hki
  obtain ⟨n, rfl⟩ := Nat.le.dest hki
  clear hki
  induction n with
  | zero => exact fun _ _ => rfl
  | succ n ih =>
   intro hi hn
   obtain ⟨o, ho⟩ : ∃ o, ops[k + n]? = some o := ⟨_, List.getElem?_eq_getElem (show k + n < ops.length by omega)⟩
   rw [show k + (n + 1) = k + n + 1 by omega, (hT _ o ho).2 (hn _ (by omega) (by omega))]
   exact ih (by omega) (fun j h1 h2 => hn j h1 (by omega))
 refine wpAny_inv I (fun i o e ho he hb => hback i o e (by simpa using ho) he hb) (fun S i o a w hI ho hSi hdep => ?_) (fun S a w hI hS => ?_) _ _ _ _ (by simp) ?_ ?_
 ·obtain ⟨hcl, k, hkl, hSk, m, F, hSR⟩ := hI
  have ho' : ops[i]? = some o := by simpa using ho
  have hil := lt_of_get ho'
  have hcl' : ∀ (i' : Nat) (o' : Oper), ops[i']? = some o' → (if i' = i then true else S i') = true → ∀ e ∈ o'.after, Region.binds .any e = true → (if e.on = i then true else S e.on) = true := by
   intro i' o' hi' hS' e he hb
   by_cases hei : e.on = i
   ·simp [hei]
   ·rw [if_neg hei]
    by_cases hii : i' = i
    ·subst hii
     rw [ho'] at hi'; cases hi'
     exact hdep e he hb
    ·rw [if_neg hii] at hS'
     exact hcl i' o' hi' hS' e he hb
  have hdin := deps_in hback hcl i o ho' hdep
  cases hf : fl i with
  | false =>
   obtain ⟨hpk, hall, hvis⟩ := (hb i o ho').2 hf
   have hki : k ≤ i := by
    rcases Nat.lt_or_ge i k with h | h
    ·rw [(hSk i hf).2 h] at hSi; cases hSi
    ·exact h
   have hTi : T i = T k := hTfl i k hki (by omega) fun j h1 h2 => by
    cases hj : fl j with
    | true => rfl
    | false =>
     have := (hSk j hj).1 (hdin j (hall j h2 hj))
     omega
   obtain ⟨p, hp, hsafe, hT1⟩ := (hT i o ho').1 hf
   have hreads : ∀ t ∈ readsO ops o, visF ops fl S t = true := fun t ht => visF_iff.2 fun j q hj hd hjf => hdin j (hvis t ht j q hj hd hjf)
   rw [← hTi] at hSR
   have hstep : opStep E ops ((T i).hid (visF ops fl S)) o = some p := by
    rw [← hp]
    exact opStep_congr hpk rfl fun t ht => by rw [hid_slot, hreads t ht]; rfl
   have hS' : SRs A w0 ((T i).hid (visF ops fl S)) a w := by
    refine ⟨m, F, ?_⟩
    rw [hid_len, hlenT i (by omega)]
    have e1 : ((T i).hid (visF ops fl S)).slot = hr S (T i) := funext fun t => hid_slot _ _ t
    rw [e1]
    exact hSR
   have hnext : ∀ a' w', SRs A w0 (((T i).hid (visF ops fl S)).app o.dst p) a' w' → I (fun j => if j = i then true else S j) a' w' := by
    intro a' w' ⟨m', F', h⟩
    refine ⟨hcl', i + 1, by omega, fun j hj => ?_, m', F', ?_⟩
    ·by_cases e : j = i
     ·simp [e]
     ·rw [updB_ne e, hSk j hj]
      constructor
      ·intro h1; omega
      ·intro h1
       rcases Nat.lt_or_ge j k with h2 | h2
       ·exact h2
       ·have := (hSk j hj).1 (hdin j (hall j (by omega) hj))
        exact this
    ·obtain ⟨f1, f2, f3⟩ := St.app_fn ((T i).hid (visF ops fl S)) o.dst p
     obtain ⟨e1, e2, e3⟩ := St.app_fn (T i) o.dst p
     rw [f3, hid_len, hlenT i (by omega)] at h
     have hblk : (((T i).hid (visF ops fl S)).app o.dst p).blk = (T (i + 1)).blk := by rw [hT1, e2, f2]; rfl
     have hcalm : p.calm = none := by
      unfold safeU at hsafe
      simp only [Bool.and_eq_true] at hsafe
      simpa using hsafe.1.1
     have hsl : (((T i).hid (visF ops fl S)).app o.dst p).slot = hr (fun j => if j = i then true else S j) (T (i + 1)) := by
      funext t
      rw [f1, hid_len]
      show _ = if visF ops fl (fun j => if j = i then true else S j) t then (T (i + 1)).slot t else .poison
      rw [hT1, e1]
      by_cases hd : o.dst = some t
      ·have hv : visF ops fl (fun j => if j = i then true else S j) t = true := visF_iff.2 fun j q hj hqd hjf => by
        have := huniq j i q o t hj ho' hqd hd
        rw [if_pos this]
       rw [hv, if_pos rfl, hd, updR_same, updR_same]
       by_cases hlt : t < (T i).tmps.length
       ·rw [if_pos hlt, if_pos hlt]
       ·rw [if_neg hlt, if_neg hlt]
        have e4 : ((T i).hid (visF ops fl S)).slot t = .poison := by rw [hid_slot, slot_out (T i) (by omega)]; simp
        have e5 : (T i).slot t = .poison := slot_out (T i) (by omega)
        unfold preR
        rw [hcalm]
        cases p.gone with
        | none =>
         simp only
         rw [e4, e5]
        | some B =>
         simp only
         rw [e4, e5]
      ·rw [updR_ne hd, updR_ne hd]
       have hv : visF ops fl (fun j => if j = i then true else S j) t = visF ops fl S t := by
        rw [Bool.eq_iff_iff, visF_iff, visF_iff]
        refine ⟨fun h j q hj hqd hjf => ?_, fun h j q hj hqd hjf => ?_⟩
        ·have := h j q hj hqd hjf
         by_cases e : j = i
         ·subst e; rw [hf] at hjf; cases hjf
         ·rwa [if_neg e] at this
        ·split
         ·rfl
         ·exact h j q hj hqd hjf
       rw [hv]
       unfold preR
       rw [hcalm]
       cases p.gone with
       | none =>
        simp only
        rw [hid_slot]
       | some B =>
        simp only
        rw [hid_slot]
        split
        ·rfl
        ·rfl
     rw [hsl, hblk] at h
     exact h
   unfold wpOp
   rw [show ops.toArray[i]? = some o by simpa using ho']
   simp only
   rcases opStep_ok hE hS' hstep (Q := Q) with ⟨hw, hwp⟩ | ⟨hw, hSR'⟩
   ·rw [if_pos hw]
    exact .inl (Oper.wp_mono hnext hwp)
   ·rw [if_neg (by rw [hw]; simp)]
    exact hnext _ _ hSR'
  | true =>
   obtain ⟨hpu, hg, _, hrd⟩ := (hb i o ho').1 hf
   obtain ⟨u, d, hd, hv, hG1⟩ := hGs i o ho' hf
   have hval : ∀ t ∈ readsO ops o, hr S (T k) t = (G i).slot t := by
    intro t ht
    have hvt : visF ops fl S t = true := visF_iff.2 fun j q hj hqd hjf => hdin j (hrd t ht j q hj hqd).2.2
    show (if visF ops fl S t then (T k).slot t else .poison) = _
    rw [hvt, if_pos rfl, hTsame t (protO_mem ho' hf (.inr ht)) k hkl, t0, ← gE]
    have := hGsame t i (by omega) (fun j q hij hj hqd => by
     have := (hrd t ht j q hj hqd).2.1
     omega) (ops.length - i) (by omega)
    rw [show i + (ops.length - i) = ops.length by omega] at this
    exact this
   have hv3 : vop E (hr S (T k)) (T k).blk (o.dst.getD 0) o.op = some (u, []) := by
    rw [hd]
    show vop E (hr S (T k)) (T k).blk d o.op = some (u, [])
    rw [vop_congr (pureF_pick hpu) (ρ' := (G i).slot) (fun t ht => hval t (reads_op ht)), pureF_vop (β' := (G i).blk) hpu]
    exact hv
   have hdv : ∀ d', d' < st.tmps.length → d' = d → (T k).slot d = u := by
    intro d' hlt hdd
    subst hdd
    rw [hTsame d' (protO_mem ho' hf (.inl hd)) k hkl, t0, ← gE]
    have := hGsame d' (i + 1) (by omega) (fun j q hij hj hqd => by
     have := huniq j i q o d' hj ho' hqd hd
     omega) (ops.length - (i + 1)) (by omega)
    rw [show i + 1 + (ops.length - (i + 1)) = ops.length by omega] at this
    rw [this, hG1, (gfn i u o.dst).1, hd, updR_same, (hlenG i (by omega)).1, if_pos hlt]
   refine (wpOp_one (by simpa using ho') (by unfold Region.wanted; rw [hg]) ?_)
   refine Oper.wp_mono (fun a' w' hq => ?_) (vop_ok hE hSR (fun hm => by rw [pureF_makes hpu] at hm; cases hm) hv3)
   obtain ⟨m', F', hq⟩ := hq
   refine ⟨hcl', k, hkl, fun j hj => ?_, m', F', ?_⟩
   ·have e : j ≠ i := fun e => by subst e; rw [hf] at hj; cases hj
    rw [updB_ne e]
    exact hSk j hj
   ·have eβ : updBO o.dst (T k).blk [] = (T k).blk := by unfold updBO; split <;> rfl
    have eρ : updR st.tmps.length (hr S (T k)) o.dst u = hr (fun j => if j = i then true else S j) (T k) := by
     funext t
     show _ = if visF ops fl (fun j => if j = i then true else S j) t then (T k).slot t else .poison
     by_cases hdt : o.dst = some t
     ·have hvv : visF ops fl (fun j => if j = i then true else S j) t = true := visF_iff.2 fun j q hj hqd hjf => by
       have := huniq j i q o t hj ho' hqd hdt
       rw [if_pos this]
      have htd : t = d := by rw [hd] at hdt; exact (Option.some.inj hdt).symm
      rw [hvv, if_pos rfl, hdt, updR_same]
      by_cases hlt : t < st.tmps.length
      ·rw [if_pos hlt, htd, hdv t hlt htd]
      ·rw [if_neg hlt]
       show (if visF ops fl S t then (T k).slot t else .poison) = (T k).slot t
       rw [slot_out (T k) (by rw [hlenT k hkl]; omega)]
       simp
     ·rw [updR_ne hdt]
      have hvv : visF ops fl (fun j => if j = i then true else S j) t = visF ops fl S t := by
       rw [Bool.eq_iff_iff, visF_iff, visF_iff]
       refine ⟨fun h j q hj hqd hjf => ?_, fun h j q hj hqd hjf => ?_⟩
       ·have := h j q hj hqd hjf
        by_cases e : j = i
        ·subst e
         rw [ho'] at hj; cases hj
         exact absurd hqd hdt
        ·rwa [if_neg e] at this
       ·split
        ·rfl
        ·exact h j q hj hqd hjf
      rw [hvv]
    rw [eβ, eρ] at hq
    exact hq
 ·obtain ⟨_, k, hkl, hSk, m, F, hSR⟩ := hI
  have hsz : ops.toArray.size = ops.length := by simp
  rw [hsz] at hS
  have hTk : T ops.length = T k := hTfl ops.length k hkl (Nat.le_refl _) fun j h1 h2 => by
   cases hj : fl j with
   | true => rfl
   | false =>
    have := (hSk j hj).1 (hS j h2)
    omega
  refine hQ _ _ ⟨m, F, ?_⟩
  rw [← tE, hTk, hlenT k hkl]
  have e1 : hr S (T k) = (T k).slot := funext fun t => by
   have : visF ops fl S t = true := visF_iff.2 fun j q hj _ _ => hS j (lt_of_get hj)
   show (if visF ops fl S t then (T k).slot t else .poison) = _
   rw [this, if_pos rfl]
  rw [e1] at hSR
  exact hSR
 ·simp
 ·have hS0 : (fun j => (Array.replicate ops.toArray.size false).getD j false) = fun _ => false := by
   funext j
   simp only [Array.getD_eq_getD_getElem?, Array.getElem?_replicate]
   split <;> rfl
  rw [hS0]
  obtain ⟨m, F, S0⟩ := S0
  refine ⟨fun i o _ h => by simp at h, 0, Nat.zero_le _, fun j _ => by simp, m, F, ?_⟩
  have eβ : (T 0).blk = st.blk := by rw [t0, ← gE]; exact (hlenG _ (Nat.le_refl _)).2
  rw [eβ]
  refine { S0 with slots := fun t => ?_ }
  show Rep F w m (if visF ops fl (fun _ => false) t then (T 0).slot t else .poison) _
  split
  ·rename_i hv
   have hn : ∀ (j : Nat) (o : Oper), 0 ≤ j → ops[j]? = some o → o.dst = some t → fl j = false := fun j o _ hj hd => by
    cases hfj : fl j with
    | false => rfl
    | true => have := visF_iff.1 hv j o hj hd hfj; cases this
   have := hGsame t 0 (Nat.zero_le _) hn ops.length (by omega)
   rw [Nat.zero_add] at this
   rw [t0, ← gE, this, g0]
   exact S0.slots t
  ·exact .poison _ _
end
end Go.Proofs.YtdeigmjbcbjgeaaGreatDoor
