import Derived.Test.YtdeigmjbcbjgeaaGreatDoorYcMJ
namespace Go.Proofs.YtdeigmjbcbjgeaaGreatDoor
open Go.RowKit
def gets {α : Type} (x : Option α) (K : α → Prop) : Prop := ∃ y, x = some y ∧ K y
def runs {α : Type} (x : Option α) (K : α → Prop) : Prop :=
 match x with
 | some y => K y
 | none => False
def mapP {α β : Type} (f : α → Option β) : List α → (List β → Prop) → Prop
 | [], K => K []
 | x :: l, K => gets (f x) fun y => mapP f l fun ys => K (y :: ys)
theorem runs_of {α : Type} {x : Option α} {K : α → Prop} (h : runs x K) : ∃ y, x = some y ∧ K y := by
 unfold runs at h
 split at h
 ·exact ⟨_, rfl, h⟩
 ·exact h.elim
theorem mapP_of {α β : Type} {f : α → Option β} : ∀ {l : List α} {K : List β → Prop}, mapP f l K → ∃ ys, optMap f l = some ys ∧ K ys
 | [], K, h => ⟨[], rfl, h⟩
 | x :: l, K, h => by
  obtain ⟨y, hy, h⟩ := h
  obtain ⟨ys, hys, h⟩ := mapP_of h
  exact ⟨y :: ys, by simp only [optMap, hy, hys], h⟩
def loadP (x : Cont) (off s : Nat) (g : Bool) (K : LV → Prop) : Prop :=
 match g with
 | true => gets (x.cut off s) fun y => K (.agg y)
 | false => gets (x.at? off) K
theorem loadP_of {x : Cont} {off s : Nat} {g : Bool} {K : LV → Prop} (h : loadP x off s g K) : ∃ u, loadC x off s g = some (u, []) ∧ K u := by
 cases g with
 | true =>
  obtain ⟨y, hy, h⟩ := h
  exact ⟨_, by simp [loadC, hy, justA], h⟩
 | false =>
  obtain ⟨y, hy, h⟩ := h
  exact ⟨_, by simp [loadC, hy, just], h⟩
def opLoadP (E : Env) (β : Nat → Option Blk) (t : Nat) (u : LV) (K : LV → Prop) : Prop :=
 match E.T t with
 | some ⟨_, size, _, agg, _⟩ => match u with
  | .ptr b off => match β b with
   | some ⟨x, _, _⟩ => loadP x off size agg K
   | none => False
  | .imp x => loadP x 0 size agg K
  | _ => False
 | none => False
theorem opLoadP_of {E : Env} {β : Nat → Option Blk} {t : Nat} {u : LV} {K : LV → Prop} (h : opLoadP E β t u K) : ∃ u', opLoad E β t u = some (u', []) ∧ K u' := by
 unfold opLoadP at h
 unfold opLoad
 split at h
 ·rename_i hti
  simp only [hti]
  split at h
  ·split at h
   ·rename_i hk; simp only [hk]; exact loadP_of h
   ·exact h.elim
  ·exact loadP_of h
  ·exact h.elim
 ·exact h.elim
def opFieldAddrP (E : Env) (s f : Nat) (x : LV) (K : LV → Prop) : Prop :=
 match E.T s with
 | some ⟨.struct fs, _, _, _, _⟩ => match fs[f]? with
  | some (o, z, _) => match z with
   | 0 => False
   | _ + 1 => match x with
    | .ptr b off => K (.ptr b (off + o))
    | .imp x => gets (x.cut o (x.len - o)) fun y => K (.imp y)
    | _ => False
  | none => False
 | _ => False
theorem opFieldAddrP_of {E : Env} {s f : Nat} {u : LV} {K : LV → Prop} (h : opFieldAddrP E s f u K) : ∃ u', opFieldAddr E s f u = some (u', []) ∧ K u' := by
 unfold opFieldAddrP at h
 unfold opFieldAddr
 split at h
 ·rename_i h1
  simp only [h1]
  split at h
  ·rename_i h2
   simp only [h2]
   split at h
   ·exact h.elim
   ·simp only [Nat.succ_ne_zero, if_false]
    split at h
    ·exact ⟨_, rfl, h⟩
    ·obtain ⟨y, hy, h⟩ := h
     exact ⟨_, by simp [hy, justP], h⟩
    ·exact h.elim
  ·exact h.elim
 ·exact h.elim
def opFieldP (E : Env) (s f : Nat) (x : LV) (K : LV → Prop) : Prop :=
 match E.T s with
 | some ⟨.struct fs, _, _, _, _⟩ => match fs[f]? with
  | some (o, z, g) => match x with
   | .agg x => loadP x o z g K
   | _ => False
  | none => False
 | _ => False
theorem opFieldP_of {E : Env} {s f : Nat} {u : LV} {K : LV → Prop} (h : opFieldP E s f u K) : ∃ u', opField E s f u = some (u', []) ∧ K u' := by
 unfold opFieldP at h
 unfold opField
 split at h
 ·rename_i h1
  simp only [h1]
  split at h
  ·rename_i hf
   simp only [hf]
   split at h
   ·exact loadP_of h
   ·exact h.elim
  ·exact h.elim
 ·exact h.elim
def opIndexAddrP (E : Env) (t : Nat) (x i : LV) (K : LV → Prop) : Prop :=
 match E.T t, pickInt i with
 | some ⟨.arr n _ z, _, _, _, _⟩, some i => inI i n = true ∧ match x with
  | .ptr b off => K (.ptr b (off + i.toNat * z))
  | .imp x => gets (x.cut (i.toNat * z) (x.len - i.toNat * z)) fun y => K (.imp y)
  | _ => False
 | some ⟨.slice _ z, _, _, _, _⟩, some i => match x with
  | .sl z' b off n _ => (z = z' ∧ inI i n = true) ∧ K (.ptr b (off + i.toNat * z))
  | .im z' n _ x => (z = z' ∧ inI i n = true ∧ 0 < z) ∧ gets (x.cut (i.toNat * z) (x.len - i.toNat * z)) fun y => K (.imp y)
  | _ => False
 | _, _ => False
theorem opIndexAddrP_of {E : Env} {t : Nat} {u i : LV} {K : LV → Prop} (h : opIndexAddrP E t u i K) : ∃ u', opIndexAddr E t u i = some (u', []) ∧ K u' := by
 unfold opIndexAddrP at h
 unfold opIndexAddr
 split at h
 ·rename_i h1 h2
  simp only [h1, h2]
  obtain ⟨hi, h⟩ := h
  rw [if_pos hi]
  split at h
  ·exact ⟨_, rfl, h⟩
  ·obtain ⟨y, hy, h⟩ := h
   exact ⟨_, by simp only [hy, justP], h⟩
  ·exact h.elim
 ·rename_i h1 h2
  simp only [h1, h2]
  split at h
  ·obtain ⟨hi, h⟩ := h
   exact ⟨_, if_pos hi, h⟩
  ·obtain ⟨hi, y, hy, h⟩ := h
   exact ⟨_, by simp only [if_pos hi, hy, justP], h⟩
  ·exact h.elim
 ·exact h.elim
def opIndexP (E : Env) (t : Nat) (x i : LV) (K : LV → Prop) : Prop :=
 match E.T t, pickInt i with
 | some ⟨.arr n e z, _, _, _, _⟩, some i => inI i n = true ∧ match E.T e, x with
  | some ⟨_, _, _, agg, _⟩, .agg x => loadP x (i.toNat * z) z agg K
  | _, _ => False
 | _, _ => False
theorem opIndexP_of {E : Env} {t : Nat} {u i : LV} {K : LV → Prop} (h : opIndexP E t u i K) : ∃ u', opIndex E t u i = some (u', []) ∧ K u' := by
 unfold opIndexP at h
 unfold opIndex
 split at h
 ·rename_i h1 h2
  simp only [h1, h2]
  obtain ⟨hi, h⟩ := h
  rw [if_pos hi]
  split at h
  ·rename_i h3
   simp only [h3]
   exact loadP_of h
  ·exact h.elim
 ·exact h.elim
def binP (op : BinOp) (k k' : IntKind) (a b : Int) (K : LV → Prop) : Prop :=
 match op with
 | .quo => (k = k' ∧ b ≠ 0) ∧ K (.v (.int k (k.wrap (a.tdiv b))))
 | .rem => (k = k' ∧ b ≠ 0) ∧ K (.v (.int k (a.tmod b)))
 | .shl => 0 ≤ b ∧ K (.v (.int k (k.wrap (a * 2 ^ (min b.toNat k.bits)))))
 | .shr => 0 ≤ b ∧ K (.v (.int k (a.fdiv (2 ^ (min b.toNat k.bits)))))
 | op => runs (binV op (.v (.int k a)) (.v (.int k' b))) K
def opBinP (E : Env) (op : BinOp) (t : Nat) (x y : LV) (K : LV → Prop) : Prop :=
 match x, y with
 | .v (.bool a), .v (.bool b) => runs (opBin E op t (.v (.bool a)) (.v (.bool b))) fun p => p.2 = [] ∧ K p.1
 | .v (.int k a), .v (.int k' b) => binP op k k' a b K
 | .str a, .str b => gets (binV op (.str a) (.str b)) K
 | x, y => runs (opBin E op t x y) fun p => p.2 = [] ∧ K p.1
theorem opBinP_of {E : Env} {op : BinOp} {t : Nat} {x y : LV} {K : LV → Prop} (h : opBinP E op t x y K) : ∃ u', opBin E op t x y = some (u', []) ∧ K u' := by
 have fin : runs (opBin E op t x y) (fun p => p.2 = [] ∧ K p.1) → ∃ u', opBin E op t x y = some (u', []) ∧ K u' := by
  intro h
  obtain ⟨⟨u, bs⟩, h1, h2, h3⟩ := runs_of h
  simp only at h2
  subst h2
  exact ⟨u, h1, h3⟩
 unfold opBinP at h
 split at h
 ·exact fin h
 ·rename_i k a k' b
  have hj : ∀ u, binV op (.v (.int k a)) (.v (.int k' b)) = some u → opBin E op t (.v (.int k a)) (.v (.int k' b)) = some (u, []) := by
   intro u hu
   simp only [opBin, hu, just]
  unfold binP at h
  split at h
  ·obtain ⟨⟨rfl, hb⟩, h⟩ := h
   exact ⟨_, hj _ (by simp [binV, binI, hb]), h⟩
  ·obtain ⟨⟨rfl, hb⟩, h⟩ := h
   exact ⟨_, hj _ (by simp [binV, binI, hb]), h⟩
  ·obtain ⟨hb, h⟩ := h
   exact ⟨_, hj _ (by simp [binV, shiftI, Int.not_lt.2 hb]), h⟩
  ·obtain ⟨hb, h⟩ := h
   exact ⟨_, hj _ (by simp [binV, shiftI, Int.not_lt.2 hb]), h⟩
  ·obtain ⟨u, hu, h⟩ := runs_of h
   exact ⟨u, hj u hu, h⟩
 ·obtain ⟨u, hu, h⟩ := h
  exact ⟨u, by simp only [opBin, hu, just], h⟩
 ·exact fin h
def convP (E : Env) (β : Nat → Option Blk) (src dst : Nat) (x : LV) (K : LV → Prop) : Prop :=
 match E.T dst with
 | some ⟨.int _, _, _, _, _⟩ => runs (convV E β src dst x) K
 | _ => gets (convV E β src dst x) K
theorem convP_of {E : Env} {β : Nat → Option Blk} {src dst : Nat} {x : LV} {K : LV → Prop} (h : convP E β src dst x K) : ∃ u, convV E β src dst x = some u ∧ K u := by
 unfold convP at h
 split at h
 ·exact runs_of h
 ·exact h
def opCallP (E : Env) (β : Nat → Option Blk) (d f : Nat) (args : List LV) (K : LV → List (Nat × Blk) → Prop) : Prop :=
 match E.wk f with
 | true => False
 | false => mapP (expo β expoD) args fun ds => gets (E.orc f ds) fun r => (r.pure || args.all (LV.shut 6)) = true ∧ runs (r.out d) fun p => K p.1 p.2
theorem opCallP_of {E : Env} {β : Nat → Option Blk} {d f : Nat} {args : List LV} {K : LV → List (Nat × Blk) → Prop} (h : opCallP E β d f args K) : ∃ u bs, opCall E β d f args = some (u, bs) ∧ K u bs := by
 unfold opCallP at h
 split at h
 ·exact h.elim
 rename_i hw
 obtain ⟨ds, h1, r, h2, h3, h⟩ := mapP_of h
 obtain ⟨⟨u, bs⟩, h4, h⟩ := runs_of h
 exact ⟨u, bs, by simp only [opCall, hw, h1, h2, h3, h4, if_true], h⟩
def callP (E : Env) (β : Nat → Option Blk) (d : Nat) (c : Call) (xs : List LV) (K : LV → List (Nat × Blk) → Prop) : Prop :=
 match c.callee with
 | .value (.func f) => opCallP E β d f xs.tail K
 | .builtin .len => runs (callX E β d c xs) fun p => K p.1 p.2
 | .builtin .min => runs (callX E β d c xs) fun p => K p.1 p.2
 | _ => False
theorem callP_of {E : Env} {β : Nat → Option Blk} {d : Nat} {c : Call} {xs : List LV} {K : LV → List (Nat × Blk) → Prop} (h : callP E β d c xs K) : ∃ u bs, callX E β d c xs = some (u, bs) ∧ K u bs := by
 unfold callP at h
 split at h
 ·rename_i f hc
  unfold callX
  rw [hc]
  exact opCallP_of h
 ·obtain ⟨⟨u, bs⟩, h1, h⟩ := runs_of h
  exact ⟨u, bs, h1, h⟩
 ·obtain ⟨⟨u, bs⟩, h1, h⟩ := runs_of h
  exact ⟨u, bs, h1, h⟩
 ·exact h.elim
def with1P (xs : List LV) (f : LV → Prop) : Prop :=
 match xs with
 | [x] => f x
 | _ => False
def with2P (xs : List LV) (f : LV → LV → Prop) : Prop :=
 match xs with
 | [x, y] => f x y
 | _ => False
def sliceP (xs : List LV) (f : LV → List LV → Prop) : Prop :=
 match xs with
 | x :: is => f x is
 | [] => False
def vopXP (E : Env) (β : Nat → Option Blk) (d : Nat) (op : Op) (xs : List LV) (K : LV → List (Nat × Blk) → Prop) : Prop :=
 match op with
 | .load t _ => with1P xs fun u => opLoadP E β t u fun u => K u []
 | .fieldAddr s _ f => with1P xs fun x => opFieldAddrP E s f x fun u => K u []
 | .field s _ f => with1P xs fun x => opFieldP E s f x fun u => K u []
 | .indexAddr t _ _ => with2P xs fun x i => opIndexAddrP E t x i fun u => K u []
 | .index t _ _ => with2P xs fun x i => opIndexP E t x i fun u => K u []
 | .binOp op t _ _ _ => with2P xs fun x y => opBinP E op t x y fun u => K u []
 | .convert src dst _ => with1P xs fun x => convP E β src dst x fun u => K u []
 | .makeSlice t _ _ => with2P xs fun l c => gets (opMakeSlice E d t l c) fun p => K p.1 p.2
 | .slice t _ lo hi mx => sliceP xs fun x is => gets (opSlice E t lo.isSome hi.isSome mx.isSome x is) fun p => K p.1 p.2
 | .call c => callP E β d c xs K
 | op => runs (vopX E β d op xs) fun p => K p.1 p.2
theorem vopXP_of {E : Env} {β : Nat → Option Blk} {d : Nat} {op : Op} {xs : List LV} {K : LV → List (Nat × Blk) → Prop} (h : vopXP E β d op xs K) : ∃ u bs, vopX E β d op xs = some (u, bs) ∧ K u bs := by
 have w1 : ∀ {f : LV → Prop}, with1P xs f → ∃ x, xs = [x] ∧ f x := by
  intro f h
  unfold with1P at h
  split at h
  ·exact ⟨_, rfl, h⟩
  ·exact h.elim
 have w2 : ∀ {f : LV → LV → Prop}, with2P xs f → ∃ x y, xs = [x, y] ∧ f x y := by
  intro f h
  unfold with2P at h
  split at h
  ·exact ⟨_, _, rfl, h⟩
  ·exact h.elim
 unfold vopXP at h
 split at h
 ·obtain ⟨x, rfl, h'⟩ := w1 h
  obtain ⟨u, h1, h⟩ := opLoadP_of h'
  exact ⟨u, [], h1, h⟩
 ·obtain ⟨x, rfl, h'⟩ := w1 h
  obtain ⟨u, h1, h⟩ := opFieldAddrP_of h'
  exact ⟨u, [], h1, h⟩
 ·obtain ⟨x, rfl, h'⟩ := w1 h
  obtain ⟨u, h1, h⟩ := opFieldP_of h'
  exact ⟨u, [], h1, h⟩
 ·obtain ⟨x, y, rfl, h'⟩ := w2 h
  obtain ⟨u, h1, h⟩ := opIndexAddrP_of h'
  exact ⟨u, [], h1, h⟩
 ·obtain ⟨x, y, rfl, h'⟩ := w2 h
  obtain ⟨u, h1, h⟩ := opIndexP_of h'
  exact ⟨u, [], h1, h⟩
 ·obtain ⟨x, y, rfl, h'⟩ := w2 h
  obtain ⟨u, h1, h⟩ := opBinP_of h'
  exact ⟨u, [], h1, h⟩
 ·obtain ⟨x, rfl, h'⟩ := w1 h
  obtain ⟨u, h1, h⟩ := convP_of h'
  exact ⟨u, [], by simp only [vopX, with1, h1, just], h⟩
 ·obtain ⟨x, y, rfl, h'⟩ := w2 h
  obtain ⟨⟨u, bs⟩, h1, h⟩ := h'
  exact ⟨u, bs, h1, h⟩
 ·unfold sliceP at h
  split at h
  ·obtain ⟨⟨u, bs⟩, h1, h⟩ := h
   exact ⟨u, bs, h1, h⟩
  ·exact h.elim
 ·exact callP_of h
 ·obtain ⟨⟨u, bs⟩, h1, h⟩ := runs_of h
  exact ⟨u, bs, h1, h⟩
def vopP (E : Env) (ρ : Nat → LV) (β : Nat → Option Blk) (d : Nat) (op : Op) (K : LV → List (Nat × Blk) → Prop) : Prop :=
 match op with
 | .pick c a b => match evalO ρ c with
  | some (.v (.bool t)) => (t = true → runs (evalO ρ a) fun u => K u []) ∧ (t = false → runs (evalO ρ b) fun u => K u [])
  | _ => False
 | op => runs (optMap (evalO ρ) (opers op)) fun xs => vopXP E β d op xs K
theorem vopP_of {E : Env} {ρ : Nat → LV} {β : Nat → Option Blk} {d : Nat} {op : Op} {K : LV → List (Nat × Blk) → Prop} (h : vopP E ρ β d op K) : ∃ u bs, vop E ρ β d op = some (u, bs) ∧ K u bs := by
 unfold vopP at h
 split at h
 ·split at h
  ·rename_i t hc
   rcases t with _ | _
   ·obtain ⟨u, h1, h⟩ := runs_of (h.2 rfl)
    exact ⟨u, [], by simp [vop, hc, h1], h⟩
   ·obtain ⟨u, h1, h⟩ := runs_of (h.1 rfl)
    exact ⟨u, [], by simp [vop, hc, h1], h⟩
  ·exact h.elim
 ·rename_i hne
  obtain ⟨xs, h1, h⟩ := runs_of h
  obtain ⟨u, bs, h2, h⟩ := vopXP_of h
  refine ⟨u, bs, ?_, h⟩
  unfold vop
  split
  ·exact absurd rfl (hne _ _ _)
  ·simp only [h1]; exact h2
def wantP (ops : List Oper) (ρ : Nat → LV) (o : Oper) (K : Bool → Prop) : Prop :=
 match o.guard with
 | none => K true
 | some (j, want) => match (ops[j]?).bind (·.dst) with
  | some d => match ρ d with
   | .v (.bool b) => (b = want → K true) ∧ (b = !want → K false)
   | .tup [] => K false
   | _ => False
  | none => False
theorem wantP_of {ops : List Oper} {ρ : Nat → LV} {o : Oper} {K : Bool → Prop} (h : wantP ops ρ o K) : ∃ b, wantL ops ρ o = some b ∧ K b := by
 unfold wantP at h
 unfold wantL
 split at h
 ·rename_i hg; simp only [hg]; exact ⟨_, rfl, h⟩
 ·rename_i j want hg
  simp only [hg]
  split at h
  ·rename_i d hd
   simp only [hd]
   split at h
   ·rename_i b hb
    simp only [hb]
    refine ⟨b == want, rfl, ?_⟩
    rcases b <;> rcases want <;> simp at h ⊢ <;> exact h
   ·rename_i hb; simp only [hb]; exact ⟨_, rfl, h⟩
   ·exact h.elim
  ·exact h.elim
def isM : Op → Bool
 | .store _ _ _ => true
 | .call { callee := .builtin .append, .. } => true
 | .call { callee := .builtin .copy, .. } => true
 | _ => false
def opStoreP (E : Env) (β : Nat → Option Blk) (t : Nat) (p u : LV) (K : Upd → Prop) : Prop :=
 match p with
 | .ptr b off => match E.T t, u.cells, β b with
  | some ⟨_, size, _, _, _⟩, some y, some ⟨x, e, s⟩ => y.len = size ∧ gets (layOne x off y) fun x => K ⟨none, none, noVal, [(b, ⟨x, e, s⟩)]⟩
  | _, _, _ => False
 | _ => False
def mopP0 (E : Env) (β : Nat → Option Blk) (dst : Option Nat) (op : Op) (xs : List LV) (K : Upd → Prop) : Prop :=
 match op, xs with
 | .store t _ _, [p, u] => opStoreP E β t p u K
 | .call c, [s, x] => match c.callee, c.argTypes.toList with
  | .builtin .append, [t, t'] => match dst with
   | some d => match Nat.beq t t' with
    | true => gets (opAppend E β d t s x) K
    | false => gets (opZeros E β t t' s x) K
   | none => False
  | .builtin .copy, [t, t'] => t = t' ∧ gets (opCopy E β t s x) K
  | _, _ => False
 | _, _ => False
theorem mopP0_of {E : Env} {β : Nat → Option Blk} {dst : Option Nat} {op : Op} {xs : List LV} {K : Upd → Prop} (h : mopP0 E β dst op xs K) : ∃ p, mopX0 E β dst op xs = some p ∧ K p := by
 unfold mopP0 at h
 unfold mopX0
 split at h
 ·unfold opStoreP at h
  split at h
  ·split at h
   ·rename_i h1 h2 h3
    obtain ⟨hl, x, hx, h⟩ := h
    exact ⟨_, by simp only [opStore, h1, h2, h3, hl, if_true, hx], h⟩
   ·exact h.elim
  ·exact h.elim
 ·split at h
  ·rename_i h1 h2
   split at h
   ·split at h
    ·rename_i hq
     have hq := Nat.eq_of_beq_eq_true hq
     subst hq
     obtain ⟨p, hp, h⟩ := h
     exact ⟨p, by simp only [h1, h2, if_true, hp], h⟩
    ·rename_i hq
     have hq := Nat.ne_of_beq_eq_false hq
     obtain ⟨p, hp, h⟩ := h
     exact ⟨p, by simp only [h1, h2, if_neg hq, hp], h⟩
   ·exact h.elim
  ·rename_i h1 h2
   obtain ⟨rfl, p, hp, h⟩ := h
   exact ⟨p, by simp only [h1, h2, if_true, hp], h⟩
  ·exact h.elim
 ·exact h.elim
theorem vop_isM {E : Env} {ρ : Nat → LV} {β : Nat → Option Blk} {d : Nat} {op : Op} (h : isM op = true) : vop E ρ β d op = none := by
 unfold isM at h
 split at h
 ·unfold vop
  simp only
  split <;> rfl
 ·unfold vop
  simp only
  split <;> rfl
 ·unfold vop
  simp only
  split <;> rfl
 ·cases h
def headK0 {α : Type} (u : LV) (k : LV → α) : α :=
 match u with
 | .v (.int j n) => k (.v (.int j n))
 | .v (.bool b) => k (.v (.bool b))
 | .v x => k (.v x)
 | .str l => k (.str l)
 | .ptr b off => k (.ptr b off)
 | .imp x => k (.imp x)
 | .sl z b off n c => k (.sl z b off n c)
 | .im z n c x => k (.im z n c x)
 | .agg (.flat j l) => k (.agg (.flat j l))
 | .agg (.gen l) => k (.agg (.gen l))
 | .tup l => k (.tup l)
 | .iface t x => k (.iface t x)
 | .fn f l => k (.fn f l)
 | .poison => k .poison
theorem headK0_eq {α : Type} (u : LV) (k : LV → α) : headK0 u k = k u := by unfold headK0; split <;> rfl
def headK {α : Type} (u : LV) (k : LV → α) : α :=
 match u with
 | .v (.int j n) => k (.v (.int j n))
 | .v (.bool b) => k (.v (.bool b))
 | .v x => k (.v x)
 | .str l => k (.str l)
 | .ptr b off => k (.ptr b off)
 | .imp x => k (.imp x)
 | .sl z b off n c => k (.sl z b off n c)
 | .im z n c x => k (.im z n c x)
 | .agg (.flat j l) => k (.agg (.flat j l))
 | .agg (.gen l) => k (.agg (.gen l))
 | .tup l => k (.tup l)
 | .iface t x => k (.iface t x)
 | .fn f l => listK headK0 l fun l => k (.fn f l)
 | .poison => k .poison
theorem headK_eq {α : Type} (u : LV) (k : LV → α) : headK u k = k u := by
 unfold headK
 split
 case h_13 => rw [listK_eq headK0_eq]
 all_goals rfl
def blkHead {α : Type} (b : Blk) (k : Blk → α) : α :=
 match b with
 | ⟨.flat j l, e, s⟩ => k ⟨.flat j l, e, s⟩
 | ⟨.gen l, e, s⟩ => listK headK l fun l => k ⟨.gen l, e, s⟩
theorem blkHead_eq {α : Type} (b : Blk) (k : Blk → α) : blkHead b k = k b := by
 unfold blkHead
 split
 ·rfl
 ·rw [listK_eq headK_eq]
def natL {α : Type} (n : Nat) (k : Nat → α) : α :=
 match n with
 | 0 => k 0
 | .succ m => k (m + 1)
theorem natL_eq {α : Type} (n : Nat) (k : Nat → α) : natL n k = k n := by cases n <;> rfl
def blksH {α : Type} : List (Nat × Blk) → (List (Nat × Blk) → α) → α
 | [], k => k []
 | (i, b) :: l, k => natL i fun i => blkHead b fun b => blksH l fun l => k ((i, b) :: l)
theorem blksH_eq {α : Type} : ∀ (l : List (Nat × Blk)) (k : List (Nat × Blk) → α), blksH l k = k l
 | [], _ => rfl
 | (i, b) :: l, k => by simp [blksH, natL_eq, blkHead_eq, blksH_eq l]
def natsH {α : Type} : List Nat → (List Nat → α) → α
 | [], k => k []
 | i :: l, k => natL i fun i => natsH l fun l => k (i :: l)
theorem natsH_eq {α : Type} : ∀ (l : List Nat) (k : List Nat → α), natsH l k = k l
 | [], _ => rfl
 | i :: l, k => by simp [natsH, natL_eq, natsH_eq l]
def bsOf (dst : Option Nat) (bs : List (Nat × Blk)) : List (Nat × Blk) :=
 match dst with
 | some _ => bs
 | none => []
def callWP0 (E : Env) (β : Nat → Option Blk) (dst : Option Nat) (f : Nat) (args : List LV) (K : Upd → Prop) : Prop :=
 apartN ((lendB β 0 args).map (·.2)) = true ∧ mapP (lendD β (hideB ((lendB β 0 args).map (·.2)) β)) args.zipIdx fun ds => listK headK ds fun ds => runs (optMap (lendK β) (lendB β 0 args)) fun ls => blksH ls fun ls => gets (E.orw f ds ls) fun q =>
  ((q.1.pure && q.2.all fun p => p.2.x.pure) || args.all fun u => (lentOf β u).isSome || u.shut 6) = true ∧ runs (q.1.out (dst.getD 0)) fun p => runs (optMap (backB q.2) (lendB β 0 args)) fun cs => K ⟨none, none, p.1, bsOf dst p.2 ++ cs⟩
def callWP (E : Env) (β : Nat → Option Blk) (dst : Option Nat) (f : Nat) (args : List LV) (K : Upd → Prop) : Prop := listK headK args fun args => callWP0 E β dst f args K
theorem bsOf_eq (dst : Option Nat) (bs : List (Nat × Blk)) : bsOf dst bs = if dst.isSome then bs else [] := by cases dst <;> rfl
theorem callWP_of {E : Env} {β : Nat → Option Blk} {dst : Option Nat} {f : Nat} {args : List LV} {K : Upd → Prop} (h : callWP E β dst f args K) : ∃ p, callW E β dst f args = some p ∧ K p := by
 unfold callWP at h
 rw [listK_eq headK_eq] at h
 obtain ⟨h1, h⟩ := h
 obtain ⟨ds, h2, h⟩ := mapP_of h
 rw [listK_eq headK_eq] at h
 obtain ⟨ls, h3, h⟩ := runs_of h
 rw [blksH_eq] at h
 obtain ⟨q, h4, h5, h⟩ := h
 obtain ⟨p, h6, h⟩ := runs_of h
 obtain ⟨cs, h7, h⟩ := runs_of h
 rw [bsOf_eq] at h
 exact ⟨_, by simp only [callW, h1, if_true, h2, h3, h4, h5, h6, h7], h⟩
def mopP (E : Env) (β : Nat → Option Blk) (dst : Option Nat) (op : Op) (xs : List LV) (K : Upd → Prop) : Prop :=
 match wcall op xs with
 | some (f, args) => match E.wk f with
  | true => callWP E β dst f args K
  | false => False
 | none => mopP0 E β dst op xs K
theorem mopP_of {E : Env} {β : Nat → Option Blk} {dst : Option Nat} {op : Op} {xs : List LV} {K : Upd → Prop} (h : mopP E β dst op xs K) : ∃ p, mopX E β dst op xs = some p ∧ K p := by
 unfold mopP at h
 unfold mopX
 rcases hq : wcall op xs with _ | ⟨f, args⟩
 ·rw [hq] at h
  exact mopP0_of h
 ·rw [hq] at h
  simp only at h ⊢
  split at h
  ·rename_i hw
   obtain ⟨p, h1, h⟩ := callWP_of h
   exact ⟨p, by rw [if_pos hw]; exact h1, h⟩
  ·exact h.elim
def isMW (E : Env) (op : Op) : Bool :=
 match op with
 | .call { callee := .value (.func f), .. } => E.wk f
 | .call { callee := .value (.tmp _), .. } => true
 | op => isM op
theorem vop_isMW {E : Env} {ρ : Nat → LV} {β : Nat → Option Blk} {d : Nat} {op : Op} (h : isMW E op = true) : vop E ρ β d op = none := by
 unfold isMW at h
 split at h
 ·unfold vop
  simp only
  split
  ·simp only [vopX, callX, opCall, h]
  ·rfl
 ·unfold vop
  simp only
  split <;> rfl
 ·exact vop_isM h
def noneB : List (Nat × Blk) → Nat → Bool
 | [], _ => true
 | (i, _) :: l, d => match Nat.beq (i / 8) d with
  | true => false
  | false => noneB l d
theorem beq_nat (a b : Nat) : (a == b) = Nat.beq a b := by
 rw [Bool.eq_iff_iff]; simp only [beq_iff_eq]; exact ⟨fun h => by subst h; exact Nat.beq_refl a, Nat.eq_of_beq_eq_true⟩
theorem beq_bne (a b : Nat) : (a != b) = !(Nat.beq a b) := by rw [bne, beq_nat]
theorem noneB_eq : ∀ (l : List (Nat × Blk)) (d : Nat), (l.all fun p => p.1 / 8 != d) = noneB l d
 | [], _ => rfl
 | (i, k) :: l, d => by
  unfold noneB
  rw [List.all_cons, beq_bne, noneB_eq l d]
  cases Nat.beq (i / 8) d <;> rfl
def freshDP (st : St) (o : Oper) : Bool :=
 match makes o.op with
 | true => match o.dst with
  | some d => noneB st.blks d
  | none => true
 | false => true
theorem freshDP_eq (st : St) (o : Oper) : freshDP st o = freshD st o := by
 unfold freshDP freshD
 cases makes o.op
 ·rfl
 ·cases o.dst
  ·rfl
  ·simp [← noneB_eq]
def freshAP (st : St) (o : Oper) : Bool :=
 match o.dst with
 | some d => noneB st.blks d
 | none => true
theorem freshAP_eq (st : St) (o : Oper) : freshAP st o = freshA st o := by
 unfold freshAP freshA
 cases o.dst
 ·rfl
 ·simp [← noneB_eq]
def madeBy : List Oper → Nat → Bool
 | [], _ => false
 | o :: l, d => match makes o.op with
  | true => match o.dst with
   | some e => match Nat.beq e d with
    | true => true
    | false => madeBy l d
   | none => madeBy l d
  | false => madeBy l d
theorem madeBy_eq : ∀ (l : List Oper) (d : Nat), (l.any fun o => makes o.op && o.dst == some d) = madeBy l d
 | [], _ => rfl
 | o :: l, d => by
  unfold madeBy
  rw [List.any_cons, madeBy_eq l d]
  cases makes o.op
  ·rfl
  ·cases o.dst with
   | none => rfl
   | some e =>
    have : ((some e : Option Tmp) == some d) = Nat.beq e d := by rw [← beq_nat]; rfl
    simp only [this, Bool.true_and]
    cases Nat.beq e d <;> simp
def staleP (ops : List Oper) : List (Nat × Blk) → List (Nat × Blk)
 | [] => []
 | (i, k) :: l => match madeBy ops (i / 8) with
  | true => (i, k) :: staleP ops l
  | false => staleP ops l
theorem staleP_eq (ops : List Oper) : ∀ (l : List (Nat × Blk)), staleP ops l = l.filter fun p => ops.any fun o => makes o.op && o.dst == some (p.1 / 8)
 | [] => rfl
 | (i, k) :: l => by
  unfold staleP
  rw [List.filter_cons, staleP_eq ops l]
  simp only [madeBy_eq]
  cases madeBy ops (i / 8) <;> simp
def dstK {α : Type} (dst : Option Nat) (k : Nat → α) : α :=
 match dst with
 | some d => k d
 | none => k 0
theorem dstK_eq {α : Type} (dst : Option Nat) (k : Nat → α) : dstK dst k = k (dst.getD 0) := by cases dst <;> rfl
theorem some_if {dst : Option Nat} {bs : List (Nat × Blk)} : bsOf dst bs = if dst.isSome then bs else [] := by cases dst <;> rfl
def stepP (E : Env) (ops : List Oper) (st : St) (o : Oper) (K : Upd → Prop) : Prop :=
 wantP ops st.slot o fun b => match b with
  | true => match freshDP st o with
   | true => match isMW E o.op with
    | true => runs (optMap (evalO st.slot) (opers o.op)) fun xs => mopP E st.blk o.dst o.op xs K
    | false => dstK o.dst fun d => vopP E st.slot st.blk d o.op fun u bs => K ⟨none, none, u, bsOf o.dst bs⟩
   | false => False
  | false => K ⟨none, none, noVal, []⟩
theorem stepP_of {E : Env} {ops : List Oper} {st : St} {o : Oper} {K : Upd → Prop} (h : stepP E ops st o K) : ∃ p, opStep E ops st o = some p ∧ K p := by
 obtain ⟨b, hw, h⟩ := wantP_of h
 unfold opStep
 rw [hw]
 rcases b with _ | _
 ·exact ⟨_, rfl, h⟩
 ·simp only at h ⊢
  split at h
  ·rename_i hf
   rw [freshDP_eq] at hf
   simp only [hf, if_true]
   split at h
   ·rename_i hM
    obtain ⟨xs, h1, h⟩ := runs_of h
    obtain ⟨p, h2, h⟩ := mopP_of h
    exact ⟨p, by simp only [vop_isMW hM, h1, h2], h⟩
   ·rw [dstK_eq] at h
    obtain ⟨u, bs, h1, h⟩ := vopP_of h
    rw [some_if] at h
    exact ⟨⟨none, none, u, if o.dst.isSome = true then bs else []⟩, by simp only [h1], h⟩
  ·exact h.elim
def putS {α : Type} : List LV → Nat → LV → (List LV → α) → α
 | [], _, _, k => k []
 | _ :: l, 0, u, k => k (u :: l)
 | x :: l, n + 1, u, k => putS l n u fun l => k (x :: l)
def putTS {α : Type} (l : List LV) (dst : Option Nat) (u : LV) (k : List LV → α) : α :=
 match dst with
 | some d => headK u fun u => putS l d u k
 | none => k l
def setBS {α : Type} : List (Nat × Blk) → Nat → Blk → (List (Nat × Blk) → α) → α
 | [], b, k, K => K [(b, k)]
 | (i, k') :: l, b, k, K => match decEq i b with
  | .isTrue _ => K ((i, k) :: l)
  | .isFalse _ => setBS l b k fun l => K ((i, k') :: l)
def setBsS {α : Type} (l : List (Nat × Blk)) : List (Nat × Blk) → (List (Nat × Blk) → α) → α
 | [], K => K l
 | (b, k) :: bs, K => blkHead k fun k => setBS l b k fun l => setBsS l bs K
def loseS {α : Type} (B : Nat) (u : LV) (k : LV → α) : α :=
 match u with
 | .v x => k (.v x)
 | .str l => k (.str l)
 | .imp x => k (.imp x)
 | .im z n c x => k (.im z n c x)
 | .poison => k .poison
 | .agg (.flat j l) => k (.agg (.flat j l))
 | .tup [] => k (.tup [])
 | .ptr b off => match b == B with
  | true => k .poison
  | false => k (.ptr b off)
 | .sl z b off n c => match b == B with
  | true => k .poison
  | false => k (.sl z b off n c)
 | .fn f l => match l.any (LV.ment B 3) with
  | true => k .poison
  | false => k (.fn f l)
 | u => k (u.lose B)
def loseCS {α : Type} (B : Nat) (x : Cont) (k : Cont → α) : α :=
 match x with
 | .flat j l => k (.flat j l)
 | .gen l => listK (loseS B) l fun l => k (.gen l)
def loseBS {α : Type} (B : Nat) : List (Nat × Blk) → (List (Nat × Blk) → α) → α
 | [], K => K []
 | (i, k) :: l, K => match i == B with
  | true => loseBS B l K
  | false => loseCS B k.x fun x => loseBS B l fun l => K ((i, ⟨x, k.e, k.spare⟩) :: l)
def St.loseK {α : Type} (B : Nat) (st : St) (k : St → α) : α := listK (loseS B) st.tmps fun ts => loseBS B st.blks fun bl => k ⟨ts, bl⟩
def St.appS {α : Type} (st : St) (dst : Option Nat) (p : Upd) (k : St → α) : α :=
 match st, p with
 | ⟨ts, bl⟩, ⟨some B, _, u, bs⟩ => St.loseK B ⟨ts, bl⟩ fun st => match st with
  | ⟨ts, bl⟩ => putTS ts dst u fun ts => setBsS bl bs fun bl => k ⟨ts, bl⟩
 | st, ⟨none, some B, u, bs⟩ => k (st.app dst ⟨none, some B, u, bs⟩)
 | ⟨ts, bl⟩, ⟨none, none, u, bs⟩ => putTS ts dst u fun ts => setBsS bl bs fun bl => k ⟨ts, bl⟩
theorem putS_eq {α : Type} : ∀ (l : List LV) (d : Nat) (u : LV) (k : List LV → α), putS l d u k = k (l.set d u)
 | [], _, _, k => by simp [putS]
 | _ :: l, 0, u, k => by simp [putS]
 | x :: l, n + 1, u, k => by simp [putS, putS_eq l]
theorem putTS_eq {α : Type} (l : List LV) (dst : Option Nat) (u : LV) (k : List LV → α) : putTS l dst u k = k (putT l dst u) := by
 cases dst <;> simp [putTS, putT, putS_eq, headK_eq]
theorem setBS_eq {α : Type} : ∀ (l : List (Nat × Blk)) (b : Nat) (k : Blk) (K : List (Nat × Blk) → α), setBS l b k K = K (setB l b k)
 | [], b, k, K => by simp [setBS, setB]
 | (i, k') :: l, b, k, K => by
  unfold setBS setB
  split
  ·rename_i h _; subst h; simp
  ·rename_i h _; simp [h, setBS_eq l]
theorem setBsS_eq {α : Type} : ∀ (bs l : List (Nat × Blk)) (K : List (Nat × Blk) → α), setBsS l bs K = K (setBs l bs)
 | [], _, _ => rfl
 | (b, k) :: bs, l, K => by simp [setBsS, setBs, setBS_eq, setBsS_eq bs, blkHead_eq]
theorem loseS_eq {α : Type} (B : Nat) (u : LV) (k : LV → α) : loseS B u k = k (u.lose B) := by
 unfold loseS
 split <;> first
  | rfl
  | (rename_i b off; rcases h : b == B with _ | _ <;> simp [LV.lose, LV.ment, mentD, h]; done)
  | (rename_i z b off n c; rcases h : b == B with _ | _ <;> simp [LV.lose, LV.ment, mentD, h]; done)
  | (rename_i f l; rcases h : l.any (LV.ment B 3) with _ | _ <;> simp [LV.lose, LV.ment, mentD, h]; done)
theorem loseCS_eq {α : Type} (B : Nat) (x : Cont) (k : Cont → α) : loseCS B x k = k (x.lose B) := by
 have hl : ∀ (l : List LV) (k : List LV → α), listK (loseS B) l k = k (l.map (LV.lose B)) := by
  intro l
  induction l with
  | nil => intro k; rfl
  | cons u l ih => intro k; simp only [listK, loseS_eq, ih, List.map_cons]
 cases x with
 | flat j l => rfl
 | gen l => simp only [loseCS, hl, Cont.lose]
theorem loseBS_eq {α : Type} (B : Nat) : ∀ (l : List (Nat × Blk)) (K : List (Nat × Blk) → α), loseBS B l K = K (loseB B l)
 | [], K => rfl
 | (i, k) :: l, K => by
  unfold loseBS
  rcases h : i == B with _ | _
  ·have h' : (i != B) = true := by simp [bne, h]
   simp [loseCS_eq, loseBS_eq B l, loseB, h']
  ·have h' : (i != B) = false := by simp [bne, h]
   simp [loseBS_eq B l, loseB, h']
theorem St.loseK_eq {α : Type} (B : Nat) (st : St) (k : St → α) : st.loseK B k = k (st.lose B) := by
 have hl : ∀ (l : List LV) (k : List LV → α), listK (loseS B) l k = k (l.map (LV.lose B)) := by
  intro l
  induction l with
  | nil => intro k; rfl
  | cons u l ih => intro k; simp only [listK, loseS_eq, ih, List.map_cons]
 simp only [St.loseK, hl, loseBS_eq, St.lose]
theorem St.appS_eq {α : Type} (st : St) (dst : Option Nat) (p : Upd) (k : St → α) : st.appS dst p k = k (st.app dst p) := by
 rcases p with ⟨g, c, u, bs⟩
 cases g <;> cases c <;> simp [St.appS, St.app, St.pre, St.loseK_eq, putTS_eq, setBsS_eq]
def execOps (E : Env) (ops : List Oper) : List Oper → St → (St → Prop) → Prop
 | [], st, K => K st
 | o :: l, st, K => stepP E ops st o fun p => st.appS o.dst p fun st => execOps E ops l st K
theorem execOps_of {E : Env} {ops : List Oper} : ∀ {l : List Oper} {st : St} {K : St → Prop}, execOps E ops l st K → ∃ st', opSteps E ops l st = some st' ∧ K st'
 | [], st, K, h => ⟨st, rfl, h⟩
 | o :: l, st, K, h => by
  obtain ⟨p, h1, h⟩ := stepP_of h
  rw [St.appS_eq] at h
  obtain ⟨st', h2, h⟩ := execOps_of h
  exact ⟨st', by simp only [opSteps, h1, St.appK_eq]; exact h2, h⟩
def preStepP (E : Env) (ops pre : List Oper) (m : Nat) (st : St) (o : Oper) (K : Upd → Prop) : Prop :=
 wantP ops (maskR pre m st) o fun b => match freshAP st o with
  | true => match b with
   | true => dstK o.dst fun d => vopP E (maskR pre m st) (maskB pre m st) d o.op fun u bs => K ⟨none, none, u, bsOf o.dst bs⟩
   | false => K ⟨none, none, noVal, []⟩
  | false => False
theorem preStepP_of {E : Env} {ops pre : List Oper} {m : Nat} {st : St} {o : Oper} {K : Upd → Prop} (h : preStepP E ops pre m st o K) : ∃ p, preStep E ops pre m st o = some p ∧ K p := by
 obtain ⟨b, hw, h⟩ := wantP_of h
 unfold preStep
 simp only
 rw [hw]
 split at h
 ·rename_i hf
  rw [freshAP_eq] at hf
  rcases b with _ | _
  ·exact ⟨_, by simp only [hf, if_true], h⟩
  ·rw [dstK_eq] at h
   obtain ⟨u, bs, h1, h⟩ := vopP_of h
   rw [some_if] at h
   exact ⟨_, by simp only [hf, if_true, h1], h⟩
 ·exact h.elim
def preP (E : Env) (ops pre : List Oper) : List Nat → List Oper → St → (St → Prop) → Prop
 | m :: ms, o :: l, st, K => preStepP E ops pre m st o fun p => st.appS o.dst p fun st => preP E ops pre ms l st K
 | _, _, st, K => K st
theorem preP_of {E : Env} {ops pre : List Oper} : ∀ {ms : List Nat} {l : List Oper} {st : St} {K : St → Prop}, preP E ops pre ms l st K → ∃ st', preSteps E ops pre ms l st = some st' ∧ K st'
 | [], l, st, K, h => ⟨st, by simp [preSteps], by simpa [preP] using h⟩
 | m :: ms, [], st, K, h => ⟨st, by simp [preSteps], by simpa [preP] using h⟩
 | m :: ms, o :: l, st, K, h => by
  obtain ⟨p, h1, h⟩ := preStepP_of h
  rw [St.appS_eq] at h
  obtain ⟨st', h2, h⟩ := preP_of h
  exact ⟨st', by simp only [preSteps, h1, St.appK_eq]; exact h2, h⟩
def spine {α β : Type} : List α → (List α → β) → β
 | [], k => k []
 | x :: l, k => spine l fun l => k (x :: l)
theorem spine_eq {α β : Type} : ∀ (l : List α) (k : List α → β), spine l k = k l
 | [], _ => rfl
 | x :: l, k => by simp [spine, spine_eq l]
def isFV : Op → Bool
 | .call { callee := .value (.tmp _), .. } => true
 | _ => false
def slB : List LV → List Nat
 | [] => []
 | u :: l => match u with
  | .sl _ b _ _ _ => b :: slB l
  | _ => slB l
def inB (st : St) : List LV → List Nat
 | [] => []
 | u :: l => match u with
  | .ptr b 0 => match st.blk b with
   | some ⟨.gen m, _, false⟩ => slB m ++ inB st l
   | _ => inB st l
  | _ => inB st l
def closeIds (st : St) (o : Oper) : List Nat :=
 match optMap (evalO st.slot) (opers o.op) with
 | some (.fn _ l :: xs) => slB (xs ++ l) ++ inB st (xs ++ l)
 | _ => []
def cutsU (B : Nat) : List LV → List (Nat × Nat)
 | [] => []
 | u :: l => match u with
  | .sl z b off n _ => match Nat.beq b B with
   | true => (off, n * z) :: cutsU B l
   | false => cutsU B l
  | _ => cutsU B l
def cutsB (B : Nat) : List (Nat × Blk) → List (Nat × Nat)
 | [] => []
 | (i, ⟨y, _, _⟩) :: l => match Nat.beq i B with
  | true => cutsB B l
  | false => match y with
   | .flat _ _ => cutsB B l
   | .gen m => cutsU B m ++ cutsB B l
def fillU {α : Type} (B : Nat) (u : LV) (ys : List Cont) (k : LV → List Cont → α) : α :=
 match u with
 | .sl z b off n c => match Nat.beq b B with
  | true => match ys with
   | [] => k .poison []
   | y :: ys => match y with
    | .flat j l => k (.im z n c (.flat j l)) ys
    | .gen l => match l.all (LV.shut 6) with
     | true => k (.im z n c (.gen l)) ys
     | false => k .poison ys
  | false => k (.sl z b off n c) ys
 | u => loseS B u fun u => k u ys
def fillL {α : Type} (B : Nat) : List LV → List Cont → (List LV → List Cont → α) → α
 | [], ys, k => k [] ys
 | u :: l, ys, k => fillU B u ys fun u ys => fillL B l ys fun l ys => k (u :: l) ys
def fillB {α : Type} (B : Nat) : List (Nat × Blk) → List Cont → (List (Nat × Blk) → List Cont → α) → α
 | [], ys, k => k [] ys
 | (i, ⟨y, e, s⟩) :: l, ys, k => match Nat.beq i B with
  | true => fillB B l ys k
  | false => match y with
   | .flat j m => fillB B l ys fun l ys => k ((i, ⟨.flat j m, e, s⟩) :: l) ys
   | .gen m => fillL B m ys fun m ys => fillB B l ys fun l ys => k ((i, ⟨.gen m, e, s⟩) :: l) ys
def calmP (st : St) (B : Nat) (x : Cont) (K : St → Prop) : Prop :=
 mapP (fun p : Nat × Nat => x.cut p.1 p.2) (cutsU B st.tmps ++ cutsB B st.blks) fun ys => fillL B st.tmps ys fun ts ys => fillB B st.blks ys fun bl _ => K ⟨ts, bl⟩
def calmsP : List Nat → St → (St → Prop) → Prop
 | [], st, K => K st
 | b :: l, st, K => match st.blk b with
  | some ⟨x, _, _⟩ => calmP st b x fun st => calmsP l st K
  | none => calmsP l st K
def closeP (st : St) (o : Oper) (K : St → Prop) : Prop :=
 match isFV o.op with
 | true => natsH (closeIds st o) fun ids => calmsP ids st K
 | false => K st
theorem fillU_of {α : Type} {B : Nat} {k : Blk} {u : LV} {q : List (Nat × Nat)} {ys : List Cont} (h : optMap (fun p : Nat × Nat => k.x.cut p.1 p.2) (cutsU B [u] ++ q) = some ys) :
  ∃ rest, optMap (fun p : Nat × Nat => k.x.cut p.1 p.2) q = some rest ∧ ∀ K : LV → List Cont → α, fillU B u ys K = K (u.calm B k) rest := by
 have other : (∀ z b off n c, u ≠ .sl z b off n c) → cutsU B [u] = [] ∧ (∀ K : LV → List Cont → α, fillU B u ys K = K (u.lose B) ys) ∧ u.calm B k = u.lose B := by
  intro hne
  refine ⟨?_, fun K => ?_, ?_⟩
  ·unfold cutsU
   split
   ·exact absurd rfl (hne _ _ _ _ _)
   ·rfl
  ·unfold fillU
   split
   ·exact absurd rfl (hne _ _ _ _ _)
   ·rw [loseS_eq]
  ·unfold LV.calm
   split
   ·exact absurd rfl (hne _ _ _ _ _)
   ·rfl
 by_cases hs : ∃ z b off n c, u = .sl z b off n c
 ·obtain ⟨z, b, off, n, c, rfl⟩ := hs
  simp only [cutsU, fillU, LV.calm] at h ⊢
  rcases hq : Nat.beq b B with _ | _
  ·rw [hq] at h
   have hne : ¬ b = B := fun e => by rw [e, Nat.beq_refl] at hq; cases hq
   exact ⟨ys, h, fun K => by rw [if_neg hne]⟩
  ·rw [hq] at h
   have he : b = B := Nat.eq_of_beq_eq_true hq
   simp only [List.cons_append, List.nil_append, optMap] at h
   split at h
   ·rename_i y l hy hl
    cases h
    refine ⟨l, hl, fun K => ?_⟩
    rw [if_pos he, hy]
    cases y with
    | flat j m => rfl
    | gen m =>
     simp only
     rcases ha : m.all (LV.shut 6) with _ | _ <;> simp
   ·cases h
 ·obtain ⟨h1, h2, h3⟩ := other fun z b off n c e => hs ⟨z, b, off, n, c, e⟩
  rw [h1] at h
  exact ⟨ys, h, fun K => by rw [h2, h3]⟩
theorem cutsU_cons (B : Nat) (u : LV) (l : List LV) : cutsU B (u :: l) = cutsU B [u] ++ cutsU B l := by
 simp only [cutsU]
 split
 ·split <;> rfl
 ·rfl
theorem fillL_of {α : Type} {B : Nat} {k : Blk} : ∀ {l : List LV} {q : List (Nat × Nat)} {ys : List Cont}, optMap (fun p : Nat × Nat => k.x.cut p.1 p.2) (cutsU B l ++ q) = some ys →
  ∃ rest, optMap (fun p : Nat × Nat => k.x.cut p.1 p.2) q = some rest ∧ ∀ K : List LV → List Cont → α, fillL B l ys K = K (l.map (LV.calm B k)) rest
 | [], q, ys, h => ⟨ys, h, fun _ => rfl⟩
 | u :: l, q, ys, h => by
  rw [cutsU_cons, List.append_assoc] at h
  obtain ⟨r1, h1, e1⟩ := fillU_of (α := α) h
  obtain ⟨r2, h2, e2⟩ := fillL_of (α := α) (l := l) h1
  exact ⟨r2, h2, fun K => by rw [fillL, e1, e2]; rfl⟩
theorem fillB_of {α : Type} {B : Nat} {k : Blk} : ∀ {l : List (Nat × Blk)} {q : List (Nat × Nat)} {ys : List Cont}, optMap (fun p : Nat × Nat => k.x.cut p.1 p.2) (cutsB B l ++ q) = some ys →
  ∃ rest, optMap (fun p : Nat × Nat => k.x.cut p.1 p.2) q = some rest ∧ ∀ K : List (Nat × Blk) → List Cont → α, fillB B l ys K = K ((l.filter fun p => p.1 != B).map fun p => (p.1, { p.2 with x := p.2.x.calm B k })) rest
 | [], q, ys, h => ⟨ys, h, fun _ => rfl⟩
 | (i, ⟨y, e, s⟩) :: l, q, ys, h => by
  simp only [cutsB] at h
  rcases hq : Nat.beq i B with _ | _
  ·have hb : (i != B) = true := by rw [beq_bne, hq]; rfl
   rw [hq] at h
   cases y with
   | flat j m =>
    obtain ⟨r, h1, e1⟩ := fillB_of (α := α) (l := l) h
    exact ⟨r, h1, fun K => by simp only [fillB, hq, e1, List.filter_cons, hb, if_true, List.map_cons]; rfl⟩
   | gen m =>
    simp only [List.append_assoc] at h
    obtain ⟨r1, h1, e1⟩ := fillL_of (α := α) (l := m) h
    obtain ⟨r2, h2, e2⟩ := fillB_of (α := α) (l := l) h1
    exact ⟨r2, h2, fun K => by simp only [fillB, hq, e1, e2, List.filter_cons, hb, if_true, List.map_cons]; rfl⟩
  ·have hb : (i != B) = false := by rw [beq_bne, hq]; rfl
   rw [hq] at h
   obtain ⟨r, h1, e1⟩ := fillB_of (α := α) (l := l) h
   exact ⟨r, h1, fun K => by simp only [fillB, hq, e1, List.filter_cons, hb, Bool.false_eq_true, if_false]⟩
theorem calmP_of {st : St} {B : Nat} {k : Blk} {K : St → Prop} (h : calmP st B k.x K) : K (st.calm B k) := by
 obtain ⟨ys, hy, h⟩ := mapP_of h
 obtain ⟨r1, h1, e1⟩ := fillL_of (α := Prop) (k := k) (l := st.tmps) hy
 rw [← List.append_nil (cutsB B st.blks)] at h1
 obtain ⟨r2, _, e2⟩ := fillB_of (α := Prop) (k := k) (l := st.blks) h1
 rw [e1, e2] at h
 exact h
section
variable {P : Program} {E : Env} {A : Nat → Prop} {w0 : Fr} {a : Act} {w : World}
theorem calmsP_of : ∀ {l : List Nat} {st : St} {K : St → Prop}, SRs A w0 st a w → calmsP l st K → ∃ st', SRs A w0 st' a w ∧ K st'
 | [], st, _, S, h => ⟨st, S, h⟩
 | b :: l, st, K, S, h => by
  unfold calmsP at h
  split at h
  ·rename_i x e s hb
   have S' := calmO_ok S b
   rw [St.calmO, hb] at S'
   exact calmsP_of S' (calmP_of (k := ⟨x, e, s⟩) h)
  ·exact calmsP_of S h
theorem closeP_of {st : St} {o : Oper} {K : St → Prop} (S : SRs A w0 st a w) (h : closeP st o K) : ∃ st', SRs A w0 st' a w ∧ K st' := by
 unfold closeP at h
 split at h
 ·rw [natsH_eq] at h
  exact calmsP_of S h
 ·exact ⟨st, S, h⟩
end
theorem calmsP_all : ∀ {l : List (Nat × Blk)} {st : St} {K : St → Prop}, calmsP (l.map (·.1)) st K → K (st.calmAll l)
 | [], _, _, h => h
 | (b, k) :: l, st, K, h => by
  rw [List.map_cons] at h
  unfold calmsP at h
  unfold St.calmAll St.calmO
  split at h
  ·rename_i x e s hb
   simp only at hb
   rw [hb]
   exact calmsP_all (calmP_of (k := ⟨x, e, s⟩) h)
  ·rename_i hb
   simp only at hb
   rw [hb]
   exact calmsP_all h
def quietB (st : St) : List (Nat × Blk) → Bool
 | [] => true
 | (b, _) :: l => match cutsU b st.tmps with
  | [] => match cutsB b st.blks with
   | [] => quietB st l
   | _ => false
  | _ => false
def readyP (ops : List Oper) (st : St) (K : St → Prop) : Prop :=
 match staleP ops st.blks with
 | [] => K st
 | l => match quietB st l with
  | true => natsH (l.map (·.1)) fun ids => calmsP ids st K
  | false => K (st.calmAll l)
theorem readyP_of {ops : List Oper} {st : St} {K : St → Prop} (h : readyP ops st K) : K (ready ops st) := by
 unfold readyP at h
 unfold ready
 rw [show staleP ops st.blks = stale ops st from staleP_eq ops st.blks] at h
 split at h
 ·rename_i e; rw [e]; exact h
 ·split at h
  ·rw [natsH_eq] at h
   exact calmsP_all h
  ·exact h
def execN (E : Env) (ops : List Oper) : List Oper → St → (St → Prop) → Prop
 | [], st, K => K st
 | o :: l, st, K => closeP st o fun st => stepP E ops st o fun p => st.appS o.dst p fun st => execN E ops l st K
section
variable {P : Program} {E : Env} {A : Nat → Prop} {w0 : Fr} {a : Act} {w : World}
theorem execN_ok (hE : EnvOk P E) {ops : List Oper} {K : St → Prop} {Q : Exit → Act → World → Prop} (hQ : ∀ st a' w', SRs A w0 st a' w' → K st → Q .normal a' w') :
  ∀ (l : List Oper) (st : St) (a : Act) (w : World), execN E ops l st K → SRs A w0 st a w → wpList P ops.toArray Q l a w
 | [], st, a, w, h, S => hQ st a w S h
 | o :: l, st, a, w, h, S => by
  obtain ⟨st, S, h⟩ := closeP_of S h
  obtain ⟨p, hp, h⟩ := stepP_of h
  rw [St.appS_eq] at h
  unfold wpList
  rcases opStep_ok hE S hp (Q := Q) with ⟨hw, hwp⟩ | ⟨hw, hS⟩
  ·rw [if_pos hw]
   exact .inl (Oper.wp_mono (fun a' w' hS => execN_ok hE hQ l _ a' w' h hS) hwp)
  ·rw [if_neg (by rw [hw]; simp)]
   exact execN_ok hE hQ l _ _ _ h hS
end
def effO (o : Oper) : Bool := match o.op with
 | .call { callee := .builtin .append, .. } => true
 | .call { callee := .builtin .copy, .. } => true
 | .store _ _ _ => true
 | _ => false
def fltOne (o : Oper) (m : Nat) (acc : List Bool) : Bool := pureF o.op && o.guard.isNone && o.dst.isSome && (List.range acc.length).all fun j => !Nat.testBit m j || acc.getD j false
def fltK : List Oper → List Nat → List Bool → (List Bool → Prop) → Prop
 | o :: l, m :: ms, acc, k => match fltOne o m acc with
  | true => fltK l ms (acc ++ [true]) k
  | false => fltK l ms (acc ++ [false]) k
 | _, _, acc, k => k acc
theorem fltK_of : ∀ {l : List Oper} {ms : List Nat} {acc : List Bool} {k : List Bool → Prop}, fltK l ms acc k → ∃ fs, k fs
 | [], _, acc, k, h => ⟨acc, by simpa [fltK] using h⟩
 | _ :: _, [], acc, k, h => ⟨acc, by simpa [fltK] using h⟩
 | o :: l, m :: ms, acc, k, h => by
  unfold fltK at h
  split at h <;> exact fltK_of h
def execFl (E : Env) (ops : List Oper) (fl : Nat → Bool) : List Oper → Nat → St → (St → Prop) → Prop
 | [], _, st, K => K st
 | o :: l, i, st, K => match fl i with
  | true => stepP E ops st o fun p => st.appS o.dst p fun st => execFl E ops fl l (i + 1) st K
  | false => execFl E ops fl l (i + 1) st K
theorem execFl_of {E : Env} {ops : List Oper} {fl : Nat → Bool} : ∀ {l : List Oper} {i : Nat} {st : St} {K : St → Prop}, execFl E ops fl l i st K → ∃ st', flSteps E ops fl l i st = some st' ∧ K st'
 | [], i, st, K, h => ⟨st, rfl, h⟩
 | o :: l, i, st, K, h => by
  unfold execFl at h
  split at h
  ·rename_i hf
   obtain ⟨p, hp, h⟩ := stepP_of h
   rw [St.appS_eq] at h
   obtain ⟨st', h1, h⟩ := execFl_of h
   exact ⟨st', by simp only [flSteps, hf, if_true, hp, h1], h⟩
  ·rename_i hf
   obtain ⟨st', h1, h⟩ := execFl_of h
   exact ⟨st', by simp only [flSteps, hf, h1]; rfl, h⟩
def execCh (E : Env) (ops : List Oper) (fl : Nat → Bool) (prot : List Nat) : List Oper → Nat → St → (St → Prop) → Prop
 | [], _, st, K => K st
 | o :: l, i, st, K => match fl i with
  | true => execCh E ops fl prot l (i + 1) st K
  | false => stepP E ops st o fun p => match safeU prot st o.dst p with
   | true => st.appS o.dst p fun st => execCh E ops fl prot l (i + 1) st K
   | false => False
theorem execCh_of {E : Env} {ops : List Oper} {fl : Nat → Bool} {prot : List Nat} : ∀ {l : List Oper} {i : Nat} {st : St} {K : St → Prop}, execCh E ops fl prot l i st K → ∃ st', chSteps E ops fl prot l i st = some st' ∧ K st'
 | [], i, st, K, h => ⟨st, rfl, h⟩
 | o :: l, i, st, K, h => by
  unfold execCh at h
  split at h
  ·rename_i hf
   obtain ⟨st', h1, h⟩ := execCh_of h
   exact ⟨st', by simp only [chSteps, hf, if_true, h1], h⟩
  ·rename_i hf
   obtain ⟨p, hp, h⟩ := stepP_of h
   split at h
   ·rename_i hs
    rw [St.appS_eq] at h
    obtain ⟨st', h1, h⟩ := execCh_of h
    exact ⟨st', by simp only [chSteps, hf, hp, hs, h1, if_true]; rfl, h⟩
   ·exact h.elim
def execChain (E : Env) (ops : List Oper) (ds : List Nat) (st : St) (K : St → Prop) : Prop := fltK ops ds [] fun fs => match chainB ops ds (fun i => fs.getD i false) with
 | true => spine (protO ops fun i => fs.getD i false) fun prot => execFl E ops (fun i => fs.getD i false) ops 0 st fun st => execCh E ops (fun i => fs.getD i false) prot ops 0 st K
 | false => False
def execR (E : Env) (ops : List Oper) (draw : Bool) (st : St) (K : St → Prop) : Prop :=
 match draw with
 | true => regB ops = true ∧ spine (deps ops []) fun ds => readyP ops st fun st => natK (tail2 ops st ds) fun n => match (ops.take n).any effO with
  | true => execChain E ops ds st K
  | false => spine (ops.take n) fun pre => preP E ops pre (ds.take n) pre st fun st => execOps E ops (ops.drop n) st K
 | false => readyP ops st fun st => execN E ops ops st K
section
variable {P : Program} {E : Env} {A : Nat → Prop} {w0 : Fr} {a : Act} {w : World}
theorem execR_any (hE : EnvOk P E) {ops : Array Oper} {st : St} {K : St → Prop} (S : SRs A w0 st a w) (h : execR E ops.toList true st K) :
  wpAny P .any ops (fun e a' w' => e = .normal ∧ ∃ st', SRs A w0 st' a' w' ∧ K st') ops.size (Array.replicate ops.size false) a { w with drawn := w.drawn + 1 } := by
 obtain ⟨hreg, h⟩ := h
 rw [spine_eq] at h
 have h := readyP_of h
 rw [natK_eq] at h
 split at h
 ·obtain ⟨fs, h⟩ := fltK_of h
  split at h
  ·rename_i hch
   rw [spine_eq] at h
   obtain ⟨st1, h1, h⟩ := execFl_of h
   obtain ⟨st2, h2, h⟩ := execCh_of h
   have := wpChain_ok (P := P) (A := A) (w0 := w0) (a := a) (w := { w with drawn := w.drawn + 1 }) hE hreg hch h1 h2 (ready_ok S.drew) (Q := fun e a' w' => e = .normal ∧ ∃ st', SRs A w0 st' a' w' ∧ K st') (fun _ _ S' => ⟨rfl, st2, S', h⟩)
   simpa using this
  ·exact h.elim
 ·rw [spine_eq] at h
  obtain ⟨st1, h1, h⟩ := preP_of h
  obtain ⟨st2, h2, h⟩ := execOps_of h
  obtain ⟨N1, t1, t2, t3, t4⟩ := tail2_spec ops.toList (ready ops.toList st) (deps ops.toList [])
  have := wpAny_ok (P := P) (A := A) (w0 := w0) (a := a) (w := { w with drawn := w.drawn + 1 }) hE t1 t2 hreg t3 t4 h1 h2 (ready_ok S.drew) (Q := fun e a' w' => e = .normal ∧ ∃ st', SRs A w0 st' a' w' ∧ K st') (fun _ _ S' => ⟨rfl, st2, S', h⟩)
  simpa using this
theorem execR_ok (hm : P.follows .mixedOrders = true) (hE : EnvOk P E) {id : Nat} {ops : Array Oper} {draw : Bool} {st : St} {K : St → Prop} (S : SRs A w0 st a w) (h : execR E ops.toList draw st K) :
  (Code.region id ops draw).wp P (fun e a' w' => e = .normal ∧ ∃ st', SRs A w0 st' a' w' ∧ K st') a w := by
 cases draw with
 | true => exact wp_region_any hm (execR_any hE S h)
 | false =>
  have h := readyP_of (K := fun st => execN E ops.toList ops.toList st K) h
  refine wp_region_list ?_
  have := execN_ok (P := P) (A := A) (w0 := w0) hE (ops := ops.toList) (K := K) (Q := fun e a' w' => e = .normal ∧ ∃ st', SRs A w0 st' a' w' ∧ K st') (fun st _ _ S h => ⟨rfl, st, S, h⟩) _ _ a w h (ready_ok S)
  simpa using this
end
def St.void (st : St) (ts : List Nat) : St := ⟨ts.foldl (fun l t => l.set t .poison) st.tmps, st.blks⟩
inductive Chg where
 | lose (b : Nat)
 | first (b : Nat)
 | move (b c : Nat)
 | free (b : Nat)
 | nil (t b z e : Nat) (x : Cont)
instance (n : Nat) : OfNat Chg n := ⟨.lose n⟩
def isNil : LV → Bool
 | .v (.slice none 0 0) => true
 | _ => false
def St.unnil (st : St) (t b z e : Nat) (x : Cont) : St :=
 match isNil (st.slot t), st.blk b, decide (b % 8 ≠ 7), decide (x.len = 0) with
 | true, none, true, true => ⟨st.tmps.set t (.sl z b 0 0 none), (b, ⟨x, e, true⟩) :: st.blks⟩
 | _, _, _, _ => st
def outB (b : Nat) : List (Nat × Blk) → List (Nat × Blk)
 | [] => []
 | (i, k) :: l => match Nat.beq i b with
  | true => outB b l
  | false => (i, k) :: outB b l
def St.front (st : St) (b : Nat) : St :=
 match findB st.blks b with
 | some k => ⟨st.tmps, (b, k) :: outB b st.blks⟩
 | none => st
def LV.move (B C : Nat) (u : LV) : LV :=
 match u with
 | .ptr b off => if b = B then .ptr C off else .ptr b off
 | .sl z b off n c => if b = B then .sl z C off n c else .sl z b off n c
 | u => u.lose B
def Cont.move (B C : Nat) : Cont → Cont
 | .flat k l => .flat k l
 | .gen l => .gen (l.map (LV.move B C))
def moveB (B C : Nat) (k : Blk) : Blk := ⟨k.x.move B C, k.e, k.spare⟩
def St.move (st : St) (B C : Nat) : St :=
 match st.blk B, st.blk C, decide (C % 8 ≠ 7 ∧ B % 8 ≠ 7 ∧ B ≠ C) with
 | some k, none, true => ⟨st.tmps.map (LV.move B C), (C, moveB B C k) :: (st.blks.filter fun p => p.1 != B).map fun p => (p.1, moveB B C p.2)⟩
 | _, _, _ => st
def LV.free (b L : Nat) (u : LV) : LV :=
 match u with
 | .sl z b' off n (some c) => if b' = b ∧ off + c * z = L then .sl z b' off n none else .sl z b' off n (some c)
 | u => u
def St.free (st : St) (b : Nat) : St :=
 match st.blk b, decide (b % 8 ≠ 7) with
 | some ⟨x, e, false⟩, true => ⟨st.tmps.map (LV.free b x.len), (b, ⟨x, e, true⟩) :: outB b st.blks⟩
 | _, _ => st
def Chg.app (st : St) : Chg → St
 | .free b => st.free b
 | .move b c => st.move b c
 | .lose b => st.lose b
 | .first b => st.front b
 | .nil t b z e x => st.unnil t b z e x
def St.drop (st : St) (ts : List Nat) (bs : List Chg) : St := bs.foldl Chg.app (st.void ts)
def seqK (f : St → (Ex → St → Prop) → Prop) (K : Ex → St → Prop) (x : Ex) (st : St) : Prop :=
 match x with
 | .norm => f st K
 | .exit i => K (.exit i) st
 | .ret => K .ret st
def blockK (id : Nat) (K : Ex → St → Prop) (x : Ex) (st : St) : Prop :=
 match x with
 | .norm => K .norm st
 | .exit i => match decEq i id with
  | .isTrue _ => K .norm st
  | .isFalse _ => K (.exit i) st
 | .ret => K .ret st
def loopK (I : Nat → St → Prop) (n : Nat) (K : Ex → St → Prop) (x : Ex) (st : St) : Prop :=
 match x with
 | .norm => ∃ ts bs m, m < n ∧ I m (st.drop ts bs)
 | .exit i => K (.exit i) st
 | .ret => K .ret st
def unroll (f : St → (Ex → St → Prop) → Prop) : Nat → St → (Ex → St → Prop) → Prop
 | 0, _, _ => False
 | n + 1, st, K => f st (seqK (unroll f n) K)
def execC (E : Env) : Code → St → (Ex → St → Prop) → Prop
 | .skip, st, K => K .norm st
 | .label _, st, K => K .norm st
 | .region _ ops draw, st, K => execR E ops.toList draw st (K .norm)
 | .seq a b, st, K => execC E a st (seqK (execC E b) K)
 | .cond c a b, st, K => match evalO st.slot c with
  | some (.v (.bool t)) => (t = true → execC E a st K) ∧ (t = false → execC E b st K)
  | _ => False
 | .block id b, st, K => execC E b st (blockK id K)
 | .loop b, st, K => (∃ I : Nat → St → Prop, (∃ ts bs n, I n (st.drop ts bs)) ∧ ∀ n st, I n st → execC E b st (loopK I n K)) ∨ ∃ n, unroll (execC E b) n st K
 | .scope b, st, K => execC E b st K
 | .exit id, st, K => K (.exit id) st
 | .ret, st, K => K .ret st
 | _, _, _ => False
def mapK {α β : Type} (f : α → (β → Prop) → Prop) : List α → (List β → Prop) → Prop
 | [], K => K []
 | x :: l, K => f x fun y => mapK f l fun ys => K (y :: ys)
theorem mapK_of {α β : Type} {f : α → (β → Prop) → Prop} {h : α → Option β} (hf : ∀ x K, f x K → ∃ y, h x = some y ∧ K y) : ∀ {l : List α} {K : List β → Prop}, mapK f l K → ∃ ys, optMap h l = some ys ∧ K ys
 | [], K, q => ⟨[], rfl, q⟩
 | x :: l, K, q => by
  obtain ⟨y, hy, q⟩ := hf x _ q
  obtain ⟨ys, hys, q⟩ := mapK_of hf q
  exact ⟨y :: ys, by simp only [optMap, hy, hys], q⟩
def resVarP (E : Env) (st : St) (r : ResultVar) (K : LV → Prop) : Prop :=
 match r with
 | .tmp t => headK (st.slot t) K
 | .cell p t => match st.slot p, E.T t with
  | .ptr b off, some ⟨_, size, _, agg, _⟩ => match st.blk b with
   | some ⟨x, _, _⟩ => loadP x off size agg K
   | none => False
  | _, _ => False
theorem resVarP_of {E : Env} {st : St} (r : ResultVar) (K : LV → Prop) (h : resVarP E st r K) : ∃ u, resVar E st r = some u ∧ K u := by
 unfold resVarP at h
 split at h
 ·rw [headK_eq] at h
  exact ⟨_, rfl, h⟩
 ·split at h
  ·rename_i h1 h2
   split at h
   ·rename_i h3
    obtain ⟨u, hu, h⟩ := loadP_of h
    refine ⟨u, ?_, h⟩
    simp only [resVar, h1, h2, h3, hu, fstO]
   ·exact h.elim
  ·exact h.elim
def resP (E : Env) (st : St) (rs : List ResultVar) (r : LRes) : Prop :=
 mapK (resVarP E st) rs fun us => apartR st.blk us = true ∧ mapP (resSlot st.blk (hideB (lids st ++ us.filterMap (ownedB st.blk)) st.blk)) us fun cs => packR cs = r
theorem resP_of {E : Env} {st : St} {rs : List ResultVar} {r : LRes} (h : resP E st rs r) : resOf E st rs = some r := by
 obtain ⟨us, h1, h2, h⟩ := mapK_of resVarP_of h
 obtain ⟨cs, h3, rfl⟩ := mapP_of h
 simp only [resOf, h1, h2, if_true, h3]
def endK (E : Env) (rs : List ResultVar) (r : LRes) (x : Ex) (st : St) : Prop :=
 match x with
 | .norm => resP E st rs r
 | .exit _ => False
 | .ret => resP E st rs r
def execF (E : Env) (fn : Func) (args : List LV) (r : LRes) : Prop :=
 match fn.body with
 | some c => spine (enterL fn args).tmps fun ts => execC E c ⟨ts, []⟩ (endK E fn.results.toList r)
 | none => False
section
variable {P : Program} {E : Env} {A : Nat → Prop} {w0 : Fr} {a : Act} {w : World}
theorem foldl_set_slot : ∀ (ts : List Nat) (l : List LV) (t : Nat), (ts.foldl (fun l t => l.set t LV.poison) l).getD t .poison = .poison ∨ (ts.foldl (fun l t => l.set t LV.poison) l).getD t .poison = l.getD t .poison
 | [], _, _ => .inr rfl
 | s :: ts, l, t => by
  rcases foldl_set_slot ts (l.set s .poison) t with h | h
  ·exact .inl h
  ·simp only [List.foldl_cons, h]
   simp only [List.getD_eq_getElem?_getD, List.getElem?_set]
   split
   ·split <;> exact .inl rfl
   ·exact .inr rfl
theorem foldl_set_len : ∀ (ts : List Nat) (l : List LV), (ts.foldl (fun l t => l.set t LV.poison) l).length = l.length
 | [], _ => rfl
 | s :: ts, l => by rw [List.foldl_cons, foldl_set_len ts]; simp
theorem void_ok {st : St} (S : SRs A w0 st a w) (ts : List Nat) : SRs A w0 (st.void ts) a w := by
 obtain ⟨m, F, S⟩ := S
 have hl : (st.void ts).tmps.length = st.tmps.length := foldl_set_len ts _
 refine ⟨m, F, ?_⟩
 rw [hl]
 refine { S with slots := fun t => ?_ }
 rcases foldl_set_slot ts st.tmps t with h | h
 ·show Rep F w m ((st.void ts).tmps.getD t .poison) _
  rw [show (st.void ts).tmps.getD t .poison = .poison from h]
  exact .poison _ _
 ·show Rep F w m ((st.void ts).tmps.getD t .poison) _
  rw [show (st.void ts).tmps.getD t .poison = st.tmps.getD t .poison from h]
  exact S.slots t
theorem lose_ok {st : St} (S : SRs A w0 st a w) (B : Nat) : SRs A w0 (st.lose B) a w := by
 obtain ⟨m, F, S⟩ := S
 refine ⟨m.del B, F, ?_⟩
 have := S.lose B
 have hl : (st.lose B).tmps.length = st.tmps.length := by simp [St.lose]
 rw [hl, (St.lose_fn st B).1, (St.lose_fn st B).2]
 exact this
theorem isNil_of {u : LV} (h : isNil u = true) : u = .v (.slice none 0 0) := by
 unfold isNil at h
 split at h
 ·rfl
 ·cases h
theorem cont_nil {x : Cont} (h : x.len = 0) : x.vals = [] := by
 cases x with
 | flat k l => cases l with
  | nil => rfl
  | cons _ _ => simp [Cont.len] at h
 | gen l => cases l with
  | nil => rfl
  | cons _ _ => simp [Cont.len] at h
theorem unnil_ok {st : St} (S : SRs A w0 st a w) (t b z e : Nat) (x : Cont) : SRs A w0 (st.unnil t b z e x) a w := by
 unfold St.unnil
 split
 case h_2 => exact S
 rename_i h1 h2 h3 h4
 have h1 := isNil_of h1
 have h3 : b % 8 ≠ 7 := of_decide_eq_true h3
 have h4 : x.len = 0 := of_decide_eq_true h4
 obtain ⟨m, F, S⟩ := S
 have hmb : m b = none := S.dom b h2
 have hm : ∀ b' l', m b' = some l' → m.add b none b' = some l' := by
  intro b' l' h
  unfold Map.add
  split
  ·rename_i e; subst e; rw [hmb] at h; cases h
  ·exact h
 have hm' : ∀ b' l, m.add b none b' = some (some l) → b' ≠ b ∧ m b' = some (some l) := by
  intro b' l h
  unfold Map.add at h
  split at h
  ·cases h
  ·rename_i hne; exact ⟨hne, h⟩
 have hblk : ∀ b' k, findB ((b, ⟨x, e, true⟩) :: st.blks) b' = some k → (b' = b ∧ k = ⟨x, e, true⟩) ∨ (b' ≠ b ∧ st.blk b' = some k) := by
  intro b' k h
  simp only [findB] at h
  split at h
  ·rename_i e; cases h; exact .inl ⟨e.symm, rfl⟩
  ·rename_i e; exact .inr ⟨fun h' => e h'.symm, h⟩
 have hslot : st.tmps.getD t .poison = .v (.slice none 0 0) := h1
 have hlt : t < st.tmps.length := by
  rcases Nat.lt_or_ge t st.tmps.length with h | h
  ·exact h
  ·rw [List.getD_eq_getElem?_getD, List.getElem?_eq_none h] at hslot
   cases hslot
 refine ⟨m.add b none, F, by rw [List.length_set]; exact S.size, fun t' => ?_, fun b' k hk => ?_, fun b1 b2 k1 k2 l1 l2 e1 e2 hne q1 q2 => ?_, S.dfr, S.keeps, S.flt, S.sub, S.sup, fun b' hk => ?_, fun b' l k hl hk => ?_, S.glob⟩
 ·show Rep F w (m.add b none) ((st.tmps.set t (.sl z b 0 0 none)).getD t' .poison) _
  have hs := S.slots t'
  rw [List.getD_eq_getElem?_getD, List.getElem?_set]
  by_cases e : t = t'
  ·subst e
   rw [if_pos rfl, if_pos hlt]
   have hs : Rep F w m (st.tmps.getD t .poison) (a.tmps.getD t undef) := hs
   rw [hslot] at hs
   generalize a.tmps.getD t undef = v at hs
   cases hs
   exact .slNil _ _ _ _ (Map.add_same _ _ _) (fun k hk => by cases hk)
  ·rw [if_neg e, ← List.getD_eq_getElem?_getD]
   exact hs.mono (fun _ h => h) (fun _ _ => rfl) _ hm
 ·rcases hblk b' k hk with ⟨rfl, rfl⟩ | ⟨_, hk⟩
  ·exact .inl ⟨Map.add_same _ _ _, cont_nil h4, rfl⟩
  ·rcases S.blks b' k hk with ⟨q1, q2, q3⟩ | ⟨g, s, ds, q1, q2, q3, q4, q5, q6, q7, q8⟩
   ·exact .inl ⟨hm _ _ q1, q2, q3⟩
   ·exact .inr ⟨g, s, ds, hm _ _ q1, q2, q3, q4, q5, q6, q7, fun i u hu => (q8 i u hu).mono (fun _ h => h) (fun _ _ => rfl) _ hm⟩
 ·obtain ⟨n1, p1⟩ := hm' _ _ q1
  obtain ⟨n2, p2⟩ := hm' _ _ q2
  rcases hblk _ _ e1 with ⟨e, _⟩ | ⟨_, e1⟩
  ·exact absurd e n1
  rcases hblk _ _ e2 with ⟨e, _⟩ | ⟨_, e2⟩
  ·exact absurd e n2
  exact S.sep _ _ _ _ _ _ e1 e2 hne p1 p2
 ·have hk' : findB ((b, ⟨x, e, true⟩) :: st.blks) b' = none := hk
  simp only [findB] at hk'
  split at hk'
  ·cases hk'
  ·rename_i e
   unfold Map.add
   rw [if_neg (fun h => e h.symm)]
   exact S.dom b' hk'
 ·rcases hblk _ _ hk with ⟨rfl, rfl⟩ | ⟨_, hk⟩
  ·exact absurd (w0.mod _ _ hl) h3
  ·obtain ⟨r1, r2⟩ := S.lent _ _ _ hl hk
   exact ⟨r1, hm _ _ r2⟩
theorem outB_ne (b : Nat) : ∀ (l : List (Nat × Blk)) (c : Nat), c ≠ b → findB (outB b l) c = findB l c
 | [], _, _ => rfl
 | (i, k) :: l, c, h => by
  unfold outB
  rcases hq : Nat.beq i b with _ | _
  ·simp only [findB]
   split
   ·rfl
   ·exact outB_ne b l c h
  ·have e := Nat.eq_of_beq_eq_true hq
   subst e
   simp only [findB, if_neg (fun e : i = c => h e.symm)]
   exact outB_ne i l c h
theorem front_ok {st : St} (S : SRs A w0 st a w) (b : Nat) : SRs A w0 (st.front b) a w := by
 have hb : (st.front b).blk = st.blk := by
  funext c
  unfold St.front
  split
  ·rename_i k hk
   show findB ((b, k) :: outB b st.blks) c = findB st.blks c
   simp only [findB]
   split
   ·rename_i e; subst e; exact hk.symm
   ·rename_i e; exact outB_ne b _ c (fun h => e h.symm)
  ·rfl
 have ht : (st.front b).tmps = st.tmps := by unfold St.front; split <;> rfl
 obtain ⟨m, F, S⟩ := S
 refine ⟨m, F, ?_⟩
 rw [hb]
 have hs : (st.front b).slot = st.slot := by funext t; unfold St.slot; rw [ht]
 rw [hs, ht]
 exact S
def mvM (m : Map) (B C : Nat) : Map := fun x => if x = C then m B else if x = B then none else m x
theorem mvM_of {m : Map} {B C b : Nat} {l : Option Loc} (hC : m C = none) (hb : b ≠ B) (h : m b = some l) : mvM m B C b = some l := by
 unfold mvM
 rw [if_neg (fun e => by rw [e, hC] at h; cases h), if_neg hb]
 exact h
theorem Rep.move {F : Nat → Prop} {w : World} {m : Map} {u : LV} {v : Value} (h : Rep F w m u v) {B C : Nat} (hC : m C = none) : Rep F w (mvM m B C) (u.move B C) v := by
 have hB : mvM m B C C = m B := by simp [mvM]
 unfold LV.move
 split
 ·rename_i b off
  by_cases hb : b = B
  ·rw [if_pos hb]
   subst hb
   cases h with
   | ptr _ _ _ g s h => exact .ptr _ _ _ g s (hB.trans h)
  ·rw [if_neg hb]
   cases h with
   | ptr _ _ _ g s h => exact .ptr _ _ _ g s (mvM_of hC hb h)
 ·rename_i z b off n c
  by_cases hb : b = B
  ·rw [if_pos hb]
   subst hb
   cases h with
   | sl _ _ _ _ _ _ g s a c' h ha hn hk hs hx => exact .sl _ _ _ _ _ _ g s _ _ (hB.trans h) ha hn hk hs hx
   | slNil _ _ _ _ h hk => exact .slNil _ _ _ _ (hB.trans h) hk
  ·rw [if_neg hb]
   cases h with
   | sl _ _ _ _ _ _ g s a c' h ha hn hk hs hx => exact .sl _ _ _ _ _ _ g s _ _ (mvM_of hC hb h) ha hn hk hs hx
   | slNil _ _ _ _ h hk => exact .slNil _ _ _ _ (mvM_of hC hb h) hk
 ·refine (h.lose B).mono (fun _ h => h) (fun _ _ => rfl) _ (fun b l hl => ?_)
  unfold Map.del at hl
  split at hl
  ·cases hl
  ·rename_i hne; exact mvM_of hC hne hl
theorem Cont.move_vals (B C : Nat) (x : Cont) : (x.move B C).vals = x.vals.map (LV.move B C) := by
 cases x with
 | flat k l => simp [Cont.move, Cont.vals]; exact fun _ _ => rfl
 | gen l => rfl
theorem move_ok {st : St} (S : SRs A w0 st a w) (B C : Nat) : SRs A w0 (st.move B C) a w := by
 unfold St.move
 split
 case h_2 => exact S
 rename_i k hkB hkC hc
 obtain ⟨c1, c2, c3⟩ := of_decide_eq_true hc
 obtain ⟨m, F, S⟩ := S
 have hC : m C = none := S.dom C hkC
 have hblk : ∀ b k', findB ((C, moveB B C k) :: (st.blks.filter fun p => p.1 != B).map fun p => (p.1, moveB B C p.2)) b = some k' →
   ∃ b0 k0, st.blk b0 = some k0 ∧ k' = moveB B C k0 ∧ mvM m B C b = m b0 ∧ (b = C ∧ b0 = B ∨ b ≠ C ∧ b ≠ B ∧ b0 = b) := by
  intro b k' h
  simp only [findB] at h
  split at h
  ·rename_i e
   subst e
   cases h
   exact ⟨B, k, hkB, rfl, by simp [mvM], .inl ⟨rfl, rfl⟩⟩
  ·rename_i e
   have e' : b ≠ C := fun h => e h.symm
   rw [findB_filter (moveB B C) B st.blks b] at h
   split at h
   ·cases h
   ·rename_i hne
    rcases hq : findB st.blks b with _ | k0
    ·rw [hq] at h; cases h
    ·rw [hq] at h
     cases h
     exact ⟨b, k0, hq, rfl, by simp [mvM, e', hne], .inr ⟨e', hne, rfl⟩⟩
 refine ⟨mvM m B C, F, by rw [List.length_map]; exact S.size, fun t => ?_, fun b k' hb => ?_, fun b b' k1 k2 l l' hb hb' hne hl hl' => ?_, S.dfr, S.keeps, S.flt, S.sub, S.sup, fun b hb => ?_, fun b l k' hl hb => ?_, S.glob⟩
 ·have hs : (⟨st.tmps.map (LV.move B C), (C, moveB B C k) :: (st.blks.filter fun p => p.1 != B).map fun p => (p.1, moveB B C p.2)⟩ : St).slot t = (st.slot t).move B C := slot_map _ _ rfl t
  rw [hs]
  exact (S.slots t).move hC
 ·obtain ⟨b0, k0, h0, rfl, hm, _⟩ := hblk b k' hb
  rcases S.blks b0 k0 h0 with ⟨q1, q2, q3⟩ | ⟨g, s, cs, q1, q2, q3, q4, q5, q6, q7, q8⟩
  ·exact .inl ⟨hm.trans q1, by simp [moveB, Cont.move_vals, q2], q3⟩
  ·refine .inr ⟨g, s, cs, hm.trans q1, q2, q3, q4, q5, fun h => by simpa [moveB, Cont.move_vals] using q6 h, by simpa [moveB, Cont.move_vals] using q7, fun i u hu => ?_⟩
   simp only [moveB, Cont.move_vals, List.getElem?_map] at hu
   rcases hq : k0.x.vals[i]? with _ | u0
   ·rw [hq] at hu; cases hu
   ·rw [hq] at hu
    cases hu
    exact (q8 i u0 hq).move hC
 ·obtain ⟨b0, k0, h0, _, hm, ho⟩ := hblk b k1 hb
  obtain ⟨b0', k0', h0', _, hm', ho'⟩ := hblk b' k2 hb'
  refine S.sep b0 b0' k0 k0' l l' h0 h0' (fun e => hne ?_) (hm.symm.trans hl) (hm'.symm.trans hl')
  rcases ho with ⟨r1, r2⟩ | ⟨r1, r2, r3⟩ <;> rcases ho' with ⟨s1, s2⟩ | ⟨s1, s2, s3⟩
  ·rw [r1, s1]
  ·exact absurd (s3.symm.trans (e.symm.trans r2)) s2
  ·exact absurd (r3.symm.trans (e.trans s2)) r2
  ·exact r3.symm.trans (e.trans s3)
 ·have hb' : findB ((C, moveB B C k) :: (st.blks.filter fun p => p.1 != B).map fun p => (p.1, moveB B C p.2)) b = none := hb
  simp only [findB] at hb'
  split at hb'
  ·cases hb'
  ·rename_i e
   rw [findB_filter (moveB B C) B st.blks b] at hb'
   unfold mvM
   rw [if_neg (fun h => e h.symm)]
   split at hb'
   ·rename_i hq; rw [if_pos hq]
   ·rename_i hq
    rw [if_neg hq]
    refine S.dom b ?_
    rcases hr : findB st.blks b with _ | k0
    ·exact hr
    ·rw [hr] at hb'; cases hb'
 ·obtain ⟨b0, k0, h0, rfl, hm, ho⟩ := hblk b k' hb
  have h7 := w0.mod _ _ hl
  rcases ho with ⟨r1, _⟩ | ⟨_, _, r3⟩
  ·exact absurd (r1 ▸ h7) c1
  ·subst r3
   obtain ⟨s1, s2⟩ := S.lent _ _ _ hl h0
   exact ⟨s1, hm.trans s2⟩
theorem cont_len (x : Cont) : x.len = x.vals.length := by cases x <;> simp [Cont.len, Cont.vals]
theorem free_ok {st : St} (S : SRs A w0 st a w) (b : Nat) : SRs A w0 (st.free b) a w := by
 unfold St.free
 split
 case h_2 => exact S
 rename_i x e hk h7
 have h7 : b % 8 ≠ 7 := of_decide_eq_true h7
 obtain ⟨m, F, S⟩ := S
 have hblk : ∀ b' k', findB ((b, ⟨x, e, true⟩) :: outB b st.blks) b' = some k' → b' = b ∧ k' = ⟨x, e, true⟩ ∨ b' ≠ b ∧ st.blk b' = some k' := by
  intro b' k' h
  simp only [findB] at h
  split at h
  ·rename_i q; cases h; exact .inl ⟨q.symm, rfl⟩
  ·rename_i q; exact .inr ⟨fun h => q h.symm, by rw [← h]; exact (outB_ne b _ b' (fun h => q h.symm)).symm⟩
 have hS : ∀ b' k', findB ((b, ⟨x, e, true⟩) :: outB b st.blks) b' = some k' → ∃ k0, st.blk b' = some k0 := by
  intro b' k' h
  rcases hblk b' k' h with ⟨rfl, _⟩ | ⟨_, h⟩
  ·exact ⟨_, hk⟩
  ·exact ⟨_, h⟩
 obtain ⟨g, s, cs, q1, q2, q3, q4, q5, q6, q7, q8⟩ : ∃ g s cs, m b = some (some ⟨g, s⟩) ∧ ¬ F g ∧ w0.own g ∧ w.heap[g]? = some (.cells cs e (0, 0)) ∧ cs.size = s ∧ x.vals.length = s ∧ x.vals.length ≤ s ∧ ∀ (i : Nat) (u : LV), x.vals[i]? = some u → Rep F w m u (cs.getD i undef) := by
  rcases S.blks b _ hk with ⟨_, _, h⟩ | ⟨g, s, cs, q1, q2, q3, q4, q5, q6, q7, q8⟩
  ·cases h
  ·exact ⟨g, s, cs, q1, q2, q3, q4, q5, q6 rfl, q7, q8⟩
 refine ⟨m, F, by rw [List.length_map]; exact S.size, fun t => ?_, fun b' k' hb => ?_, fun b1 b2 k1 k2 l l' h1 h2 => ?_, S.dfr, S.keeps, S.flt, S.sub, S.sup, fun b' hb => ?_, fun b' l k' hl hb => ?_, S.glob⟩
 ·have hs : (⟨st.tmps.map (LV.free b x.len), (b, ⟨x, e, true⟩) :: outB b st.blks⟩ : St).slot t = (st.slot t).free b x.len := slot_map _ _ rfl t
  rw [hs]
  have h : Rep F w m (st.slot t) (a.tmps.getD t undef) := S.slots t
  generalize a.tmps.getD t undef = v at h ⊢
  unfold LV.free
  split
  ·rename_i z b' off n c hu
   rw [hu] at h
   split
   ·rename_i hc
    obtain ⟨rfl, hc⟩ := hc
    cases h with
    | sl _ _ _ _ _ _ g' s' a' c' h ha hn hkk hs' hx =>
     rw [q1] at h
     cases h
     have e1 := hkk _ rfl
     subst e1
     exact .sl _ _ _ _ _ _ g s _ _ q1 ha hn (fun k hk => by cases hk) (fun _ => by rw [hc, cont_len, q6]) hx
    | slNil _ _ _ _ h hkk => rw [q1] at h; cases h
   ·exact h
  ·exact h
 ·rcases hblk b' k' hb with ⟨rfl, rfl⟩ | ⟨_, hb⟩
  ·exact .inr ⟨g, s, cs, q1, q2, q3, q4, q5, (fun h => by cases h), q7, q8⟩
  ·exact S.blks b' k' hb
 ·obtain ⟨k1', h1'⟩ := hS b1 k1 h1
  obtain ⟨k2', h2'⟩ := hS b2 k2 h2
  exact S.sep b1 b2 k1' k2' l l' h1' h2'
 ·have hb' : findB ((b, ⟨x, e, true⟩) :: outB b st.blks) b' = none := hb
  simp only [findB] at hb'
  split at hb'
  ·cases hb'
  ·rename_i q
   rw [outB_ne b _ b' (fun h => q h.symm)] at hb'
   exact S.dom b' hb'
 ·rcases hblk b' k' hb with ⟨rfl, _⟩ | ⟨_, hb⟩
  ·exact absurd (w0.mod _ _ hl) h7
  ·exact S.lent _ _ _ hl hb
theorem drop_ok {st : St} (S : SRs A w0 st a w) (ts : List Nat) (bs : List Chg) : SRs A w0 (st.drop ts bs) a w := by
 have key : ∀ (bs : List Chg) (st : St), SRs A w0 st a w → SRs A w0 (bs.foldl Chg.app st) a w := by
  intro bs
  induction bs with
  | nil => exact fun _ h => h
  | cons b bs ih => exact fun st h => ih _ (by
   cases b with
   | lose b => exact lose_ok h b
   | first b => exact front_ok h b
   | move b c => exact move_ok h b c
   | free b => exact free_ok h b
   | nil t b z e x => exact unnil_ok h t b z e x)
 exact key bs _ (void_ok S ts)
theorem execC_ok (hm : P.follows .mixedOrders = true) (hE : EnvOk P E) : ∀ (c : Code) (st : St) (K : Ex → St → Prop) (a : Act) (w : World), SRs A w0 st a w → execC E c st K →
  c.wp P (fun e a' w' => ∃ x st', e = exitOf x ∧ SRs A w0 st' a' w' ∧ K x st') a w := by
 intro c
 induction c with
 | skip => exact fun st K a w S h => wp_skip ⟨.norm, st, rfl, S, h⟩
 | label l => exact fun st K a w S h => wp_label ⟨.norm, st, rfl, S, h⟩
 | exit id => exact fun st K a w S h => wp_exit ⟨.exit id, st, rfl, S, h⟩
 | ret => exact fun st K a w S h => wp_ret ⟨.ret, st, rfl, S, h⟩
 | region id ops draw =>
  intro st K a w S h
  refine Code.wp_mono ?_ (execR_ok hm hE S h)
  rintro e a' w' ⟨rfl, st', S', h⟩
  exact ⟨.norm, st', rfl, S', h⟩
 | seq c1 c2 ih1 ih2 =>
  intro st K a w S h
  refine wp_seq (Code.wp_mono ?_ (ih1 st _ a w S h))
  rintro e a' w' ⟨x, st', rfl, S', h⟩
  cases x with
  | norm => exact ih2 st' K a' w' S' h
  | exit i => exact ⟨.exit i, st', rfl, S', h⟩
  | ret => exact ⟨.ret, st', rfl, S', h⟩
 | cond c c1 c2 ih1 ih2 =>
  intro st K a w S h
  simp only [execC] at h
  have key : ∀ b, evalO st.slot c = some (.v (.bool b)) → a.eval c = .bool b := by
   intro b hb
   obtain ⟨m, F, S⟩ := S
   have := evalO_ok S.slots S.globs hb
   generalize a.eval c = v at this
   cases this
   rfl
  split at h
  ·rename_i t hc
   rcases t with _ | _
   ·exact wp_cond_false (key _ hc) (ih2 st K a w S (h.2 rfl))
   ·exact wp_cond_true (key _ hc) (ih1 st K a w S (h.1 rfl))
  ·exact h.elim
 | block id b ih =>
  intro st K a w S h
  refine wp_block (Code.wp_mono ?_ (ih st _ a w S h))
  rintro e a' w' ⟨x, st', rfl, S', h⟩
  cases x with
  | norm => exact ⟨.norm, st', rfl, S', h⟩
  | exit i =>
   simp only [blockK] at h
   show if i = id then _ else _
   split at h
   ·rename_i hi _; rw [if_pos hi]; exact ⟨.norm, st', rfl, S', h⟩
   ·rename_i hi _; rw [if_neg hi]; exact ⟨.exit i, st', rfl, S', h⟩
  | ret => exact ⟨.ret, st', rfl, S', h⟩
 | loop b ih =>
  intro st K a w S h
  rcases h with ⟨I, ⟨ts, bs, n, h0⟩, hI⟩ | ⟨n, h0⟩
  case inr =>
   let p : Act → World → Nat → Prop := fun a w k => ∃ st, SRs A w0 st a w ∧ unroll (execC E b) k st K
   refine wp_loop (fun a w => ∃ k, p a w k) (fun a w => leastOf (p a w)) ⟨n, _, S, h0⟩ (fun a w hk => ?_)
   obtain ⟨⟨st, S, h⟩, hmin⟩ := leastOf_spec hk
   generalize leastOf (p a w) = k at h hmin
   cases k with
   | zero => exact h.elim
   | succ k =>
    refine Code.wp_mono ?_ (ih st _ a w S h)
    rintro e a' w' ⟨x, st', rfl, S', h⟩
    cases x with
    | norm =>
     have hp : p a' w' k := ⟨_, S', h⟩
     exact ⟨⟨k, hp⟩, Nat.lt_succ_of_le ((leastOf_spec ⟨k, hp⟩).2 k hp)⟩
    | exit i => exact ⟨.exit i, st', rfl, S', h⟩
    | ret => exact ⟨.ret, st', rfl, S', h⟩
  let p : Act → World → Nat → Prop := fun a w k => ∃ st, SRs A w0 st a w ∧ I k st
  refine wp_loop (fun a w => ∃ k, p a w k) (fun a w => leastOf (p a w)) ⟨n, _, drop_ok S ts bs, h0⟩ (fun a w hk => ?_)
  obtain ⟨⟨st, S, h⟩, hmin⟩ := leastOf_spec hk
  refine Code.wp_mono ?_ (ih st _ a w S (hI _ st h))
  rintro e a' w' ⟨x, st', rfl, S', h⟩
  cases x with
  | norm =>
   obtain ⟨ts, bs, m, hm, h⟩ := h
   have hp : p a' w' m := ⟨_, drop_ok S' ts bs, h⟩
   exact ⟨⟨m, hp⟩, Nat.lt_of_le_of_lt ((leastOf_spec ⟨m, hp⟩).2 m hp) hm⟩
  | exit i => exact ⟨.exit i, st', rfl, S', h⟩
  | ret => exact ⟨.ret, st', rfl, S', h⟩
 | scope b ih =>
  intro st K a w S h
  refine wp_scope_straight (Code.wp_mono ?_ (ih st K a w S h))
  rintro e a' w' ⟨x, st', rfl, S', h⟩
  cases x with
  | norm => exact ⟨.norm, st', rfl, S', h⟩
  | exit i => exact ⟨.exit i, st', rfl, S', h⟩
  | ret => exact ⟨.ret, st', rfl, S', h⟩
 | rangeFunc f ps as b ih1 ih2 => exact fun st K a w S h => h.elim
 | goto l => exact fun st K a w S h => h.elim
 | refuse s => exact fun st K a w S h => h.elim
theorem enterL_ok {fn : Func} {ds : List LV} {w : World} {A : Nat → Prop} {args : Array Value} (hsz : args.size = ds.length) (hA : ∀ g, A g → g < w.heap.size) (hrep : ∀ (i : Nat) (u : LV), ds[i]? = some u → Rep A w noMap u (args.getD i undef)) (hG : GlobOk A w) :
  SRs A (frame w) (enterL fn ds) { tmps := args ++ Array.replicate (fn.ntmps - args.size) undef, defers := [] } w := by
 refine ⟨noMap, A, by simp [enterL, hsz], fun t => ?_, fun b k hk => by simp [enterL, St.blk, findB] at hk, fun b b' k k' l l' hk => by simp [enterL, St.blk, findB] at hk, rfl, Keeps.refl _ _, hA, fun g hg => .inl hg, fun g hg => hg, fun b _ => rfl, fun b g k hl => (by cases hl), ⟨fun g hg => ⟨hA g hg, frame_L⟩, hG⟩⟩
 show Rep A w noMap ((ds ++ List.replicate (fn.ntmps - ds.length) noVal).getD t .poison) ((args ++ Array.replicate (fn.ntmps - args.size) undef).getD t undef)
 rw [List.getD_eq_getElem?_getD, Array.getD_eq_getD_getElem?]
 by_cases ht : t < ds.length
 ·rw [List.getElem?_append_left ht, Array.getElem?_append_left (by omega)]
  obtain ⟨u, hu⟩ := getL_of ht
  have := hrep t u hu
  rw [Array.getD_eq_getD_getElem?] at this
  rw [hu]
  exact this
 ·rw [List.getElem?_append_right (by omega), Array.getElem?_append_right (by omega), List.getElem?_replicate, Array.getElem?_replicate, hsz]
  split
  ·exact undef_rep
  ·exact .poison _ _
theorem execF_ok (hm : P.follows .mixedOrders = true) (hE : EnvOk P E) {f : Nat} {fn : Func} (hf : P.funcs[f]? = some fn) {ds : List LV} {r : LRes} (h : execF E fn ds r) : CallOk P f ds r := by
 intro w A args hsz hA hrep hG
 unfold execF at h
 split at h
 case h_2 => exact h.elim
 rename_i c hb
 rw [spine_eq] at h
 refine calls_of_wp hf hb (Code.wp_mono ?_ (execC_ok hm hE c _ _ _ _ (enterL_ok hsz hA hrep hG) h))
 rintro e a' w' ⟨x, st', rfl, S, h⟩
 have fin : resP E st' fn.results.toList r → a'.defers = [] ∧ ∃ v, (results fn a'.tmps).run P w' = .ok v w' ∧ ∃ v' F', (Ending.returned v) = .returned v' ∧ Keeps (fun _ => False) w w' ∧ (∀ g, A g → F' g) ∧ (∀ g, F' g → g < w'.heap.size ∧ (A g ∨ w.heap.size ≤ g)) ∧ ResOk F' w.heap.size w' r v' := by
  intro hr
  obtain ⟨v, F', h1, h2, h3, h4⟩ := resOf_frame hE.T S (resP_of hr)
  obtain ⟨m, F, S⟩ := S
  exact ⟨S.dfr, v, h1, v, F', rfl, S.keeps.mono (fun _ _ h => absurd h frame_L), h2, h3, h4⟩
 cases x with
 | norm => exact fin h
 | exit i => exact h.elim
 | ret => exact fin h
end
end Go.Proofs.YtdeigmjbcbjgeaaGreatDoor
