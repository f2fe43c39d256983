/-
  The machine of plain values, for proofs with values that are not known: what is to be shown, question by question. A proposition that comes down to conjunctions, existence and implications when it is reckoned by need.
-/
import Derived.Test.YtcmceadekcfpbaaML
namespace Go.Proofs.Ytcmceadekcfpbaa
open Go.RowKit

def gets {α : Type} (x : Option α) (K : α → Prop) : Prop := ∃ y, x = some y ∧ K y
def runs {α : Type} (x : Option α) (K : α → Prop) : Prop :=
  match x with
  | some y => K y
  | none => False
def mapP {α β : Type} (f : α → Option β) : List α → (List β → Prop) → Prop
  | [], K => K []
  | x :: l, K => gets (f x) fun y => mapP f l fun ys => K (y :: ys)
theorem runs_of {α : Type} {x : Option α} {K : α → Prop} (h : runs x K) : ∃ y, x = some y ∧ K y := by
  unfold runs at h
  split at h
  · exact ⟨_, rfl, h⟩
  · exact h.elim
theorem mapP_of {α β : Type} {f : α → Option β} : ∀ {l : List α} {K : List β → Prop}, mapP f l K → ∃ ys, optMap f l = some ys ∧ K ys
  | [], K, h => ⟨[], rfl, h⟩
  | x :: l, K, h => by
    obtain ⟨y, hy, h⟩ := h
    obtain ⟨ys, hys, h⟩ := mapP_of h
    exact ⟨y :: ys, by simp only [optMap, hy, hys], h⟩

/-! operations that write nothing -/
def loadP (x : Cont) (off s : Nat) (g : Bool) (K : LV → Prop) : Prop :=
  match g with
  | true => gets (x.cut off s) fun y => K (.agg y)
  | false => gets (x.at? off) K
theorem loadP_of {x : Cont} {off s : Nat} {g : Bool} {K : LV → Prop} (h : loadP x off s g K) : ∃ u, loadC x off s g = some (u, []) ∧ K u := by
  cases g with
  | true =>
    obtain ⟨y, hy, h⟩ := h
    exact ⟨_, by simp [loadC, hy, justA], h⟩
  | false =>
    obtain ⟨y, hy, h⟩ := h
    exact ⟨_, by simp [loadC, hy, just], h⟩
def opLoadP (E : Env) (β : Nat → Option Blk) (t : Nat) (u : LV) (K : LV → Prop) : Prop :=
  match E.T t with
  | some ⟨_, size, _, agg, _⟩ => match u with
    | .ptr b off => match β b with
      | some ⟨x, _, _⟩ => loadP x off size agg K
      | none => False
    | .imp x => loadP x 0 size agg K
    | _ => False
  | none => False
theorem opLoadP_of {E : Env} {β : Nat → Option Blk} {t : Nat} {u : LV} {K : LV → Prop} (h : opLoadP E β t u K) : ∃ u', opLoad E β t u = some (u', []) ∧ K u' := by
  unfold opLoadP at h
  unfold opLoad
  split at h
  · rename_i hti
    simp only [hti]
    split at h
    · split at h
      · rename_i hk; simp only [hk]; exact loadP_of h
      · exact h.elim
    · exact loadP_of h
    · exact h.elim
  · exact h.elim
def opFieldAddrP (E : Env) (s f : Nat) (x : LV) (K : LV → Prop) : Prop :=
  match E.T s with
  | some ⟨.struct fs, _, _, _, _⟩ => match fs[f]? with
    | some (o, z, _) => match z with
      | 0 => False
      | _ + 1 => match x with
        | .ptr b off => K (.ptr b (off + o))
        | .imp x => gets (x.cut o (x.len - o)) fun y => K (.imp y)
        | _ => False
    | none => False
  | _ => False
theorem opFieldAddrP_of {E : Env} {s f : Nat} {u : LV} {K : LV → Prop} (h : opFieldAddrP E s f u K) : ∃ u', opFieldAddr E s f u = some (u', []) ∧ K u' := by
  unfold opFieldAddrP at h
  unfold opFieldAddr
  split at h
  · rename_i h1
    simp only [h1]
    split at h
    · rename_i h2
      simp only [h2]
      split at h
      · exact h.elim
      · simp only [Nat.succ_ne_zero, if_false]
        split at h
        · exact ⟨_, rfl, h⟩
        · obtain ⟨y, hy, h⟩ := h
          exact ⟨_, by simp [hy, justP], h⟩
        · exact h.elim
    · exact h.elim
  · exact h.elim
def opFieldP (E : Env) (s f : Nat) (x : LV) (K : LV → Prop) : Prop :=
  match E.T s with
  | some ⟨.struct fs, _, _, _, _⟩ => match fs[f]? with
    | some (o, z, g) => match x with
      | .agg x => loadP x o z g K
      | _ => False
    | none => False
  | _ => False
theorem opFieldP_of {E : Env} {s f : Nat} {u : LV} {K : LV → Prop} (h : opFieldP E s f u K) : ∃ u', opField E s f u = some (u', []) ∧ K u' := by
  unfold opFieldP at h
  unfold opField
  split at h
  · rename_i h1
    simp only [h1]
    split at h
    · rename_i hf
      simp only [hf]
      split at h
      · exact loadP_of h
      · exact h.elim
    · exact h.elim
  · exact h.elim
def opIndexAddrP (E : Env) (t : Nat) (x i : LV) (K : LV → Prop) : Prop :=
  match E.T t, pickInt i with
  | some ⟨.arr n _ z, _, _, _, _⟩, some i => inI i n = true ∧ match x with
    | .ptr b off => K (.ptr b (off + i.toNat * z))
    | .imp x => gets (x.cut (i.toNat * z) (x.len - i.toNat * z)) fun y => K (.imp y)
    | _ => False
  | some ⟨.slice _ z, _, _, _, _⟩, some i => match x with
    | .sl z' b off n _ => (z = z' ∧ inI i n = true) ∧ K (.ptr b (off + i.toNat * z))
    | .im z' n _ x => (z = z' ∧ inI i n = true ∧ 0 < z) ∧ gets (x.cut (i.toNat * z) (x.len - i.toNat * z)) fun y => K (.imp y)
    | _ => False
  | _, _ => False
theorem opIndexAddrP_of {E : Env} {t : Nat} {u i : LV} {K : LV → Prop} (h : opIndexAddrP E t u i K) : ∃ u', opIndexAddr E t u i = some (u', []) ∧ K u' := by
  unfold opIndexAddrP at h
  unfold opIndexAddr
  split at h
  · rename_i h1 h2
    simp only [h1, h2]
    obtain ⟨hi, h⟩ := h
    rw [if_pos hi]
    split at h
    · exact ⟨_, rfl, h⟩
    · obtain ⟨y, hy, h⟩ := h
      exact ⟨_, by simp only [hy, justP], h⟩
    · exact h.elim
  · rename_i h1 h2
    simp only [h1, h2]
    split at h
    · obtain ⟨hi, h⟩ := h
      exact ⟨_, if_pos hi, h⟩
    · obtain ⟨hi, y, hy, h⟩ := h
      exact ⟨_, by simp only [if_pos hi, hy, justP], h⟩
    · exact h.elim
  · exact h.elim
def opIndexP (E : Env) (t : Nat) (x i : LV) (K : LV → Prop) : Prop :=
  match E.T t, pickInt i with
  | some ⟨.arr n e z, _, _, _, _⟩, some i => inI i n = true ∧ match E.T e, x with
    | some ⟨_, _, _, agg, _⟩, .agg x => loadP x (i.toNat * z) z agg K
    | _, _ => False
  | _, _ => False
theorem opIndexP_of {E : Env} {t : Nat} {u i : LV} {K : LV → Prop} (h : opIndexP E t u i K) : ∃ u', opIndex E t u i = some (u', []) ∧ K u' := by
  unfold opIndexP at h
  unfold opIndex
  split at h
  · rename_i h1 h2
    simp only [h1, h2]
    obtain ⟨hi, h⟩ := h
    rw [if_pos hi]
    split at h
    · rename_i h3
      simp only [h3]
      exact loadP_of h
    · exact h.elim
  · exact h.elim
def binP (op : BinOp) (k k' : IntKind) (a b : Int) (K : LV → Prop) : Prop :=
  match op with
  | .quo => (k = k' ∧ b ≠ 0) ∧ K (.v (.int k (k.wrap (a.tdiv b))))
  | .rem => (k = k' ∧ b ≠ 0) ∧ K (.v (.int k (a.tmod b)))
  | .shl => 0 ≤ b ∧ K (.v (.int k (k.wrap (a * 2 ^ (min b.toNat k.bits)))))
  | .shr => 0 ≤ b ∧ K (.v (.int k (a.fdiv (2 ^ (min b.toNat k.bits)))))
  | op => runs (binV op (.v (.int k a)) (.v (.int k' b))) K
def opBinP (E : Env) (op : BinOp) (t : Nat) (x y : LV) (K : LV → Prop) : Prop :=
  match x, y with
  | .v (.bool a), .v (.bool b) => runs (opBin E op t (.v (.bool a)) (.v (.bool b))) fun p => p.2 = [] ∧ K p.1
  | .v (.int k a), .v (.int k' b) => binP op k k' a b K
  | .str a, .str b => gets (binV op (.str a) (.str b)) K
  | x, y => runs (opBin E op t x y) fun p => p.2 = [] ∧ K p.1
theorem opBinP_of {E : Env} {op : BinOp} {t : Nat} {x y : LV} {K : LV → Prop} (h : opBinP E op t x y K) : ∃ u', opBin E op t x y = some (u', []) ∧ K u' := by
  have fin : runs (opBin E op t x y) (fun p => p.2 = [] ∧ K p.1) → ∃ u', opBin E op t x y = some (u', []) ∧ K u' := by
    intro h
    obtain ⟨⟨u, bs⟩, h1, h2, h3⟩ := runs_of h
    simp only at h2
    subst h2
    exact ⟨u, h1, h3⟩
  unfold opBinP at h
  split at h
  · exact fin h
  · rename_i k a k' b
    have hj : ∀ u, binV op (.v (.int k a)) (.v (.int k' b)) = some u → opBin E op t (.v (.int k a)) (.v (.int k' b)) = some (u, []) := by
      intro u hu
      simp only [opBin, hu, just]
    unfold binP at h
    split at h
    · obtain ⟨⟨rfl, hb⟩, h⟩ := h
      exact ⟨_, hj _ (by simp [binV, binI, hb]), h⟩
    · obtain ⟨⟨rfl, hb⟩, h⟩ := h
      exact ⟨_, hj _ (by simp [binV, binI, hb]), h⟩
    · obtain ⟨hb, h⟩ := h
      exact ⟨_, hj _ (by simp [binV, shiftI, Int.not_lt.2 hb]), h⟩
    · obtain ⟨hb, h⟩ := h
      exact ⟨_, hj _ (by simp [binV, shiftI, Int.not_lt.2 hb]), h⟩
    · obtain ⟨u, hu, h⟩ := runs_of h
      exact ⟨u, hj u hu, h⟩
  · obtain ⟨u, hu, h⟩ := h
    exact ⟨u, by simp only [opBin, hu, just], h⟩
  · exact fin h
def convP (E : Env) (β : Nat → Option Blk) (src dst : Nat) (x : LV) (K : LV → Prop) : Prop :=
  match E.T dst with
  | some ⟨.int _, _, _, _, _⟩ => runs (convV E β src dst x) K
  | _ => gets (convV E β src dst x) K
theorem convP_of {E : Env} {β : Nat → Option Blk} {src dst : Nat} {x : LV} {K : LV → Prop} (h : convP E β src dst x K) : ∃ u, convV E β src dst x = some u ∧ K u := by
  unfold convP at h
  split at h
  · exact runs_of h
  · exact h
def opCallP (E : Env) (β : Nat → Option Blk) (d f : Nat) (args : List LV) (K : LV → List (Nat × Blk) → Prop) : Prop :=
  mapP (expo β expoD) args fun ds => gets (E.orc f ds) fun r => (r.pure || args.all (LV.shut 6)) = true ∧ runs (r.out d) fun p => K p.1 p.2
theorem opCallP_of {E : Env} {β : Nat → Option Blk} {d f : Nat} {args : List LV} {K : LV → List (Nat × Blk) → Prop} (h : opCallP E β d f args K) : ∃ u bs, opCall E β d f args = some (u, bs) ∧ K u bs := by
  obtain ⟨ds, h1, r, h2, h3, h⟩ := mapP_of h
  obtain ⟨⟨u, bs⟩, h4, h⟩ := runs_of h
  exact ⟨u, bs, by simp only [opCall, h1, h2, h3, h4, if_true], h⟩
def callP (E : Env) (β : Nat → Option Blk) (d : Nat) (c : Call) (xs : List LV) (K : LV → List (Nat × Blk) → Prop) : Prop :=
  match c.callee with
  | .value (.func f) => opCallP E β d f xs.tail K
  | .builtin .len => runs (callX E β d c xs) fun p => K p.1 p.2
  | _ => False
theorem callP_of {E : Env} {β : Nat → Option Blk} {d : Nat} {c : Call} {xs : List LV} {K : LV → List (Nat × Blk) → Prop} (h : callP E β d c xs K) : ∃ u bs, callX E β d c xs = some (u, bs) ∧ K u bs := by
  unfold callP at h
  split at h
  · rename_i f hc
    unfold callX
    rw [hc]
    exact opCallP_of h
  · obtain ⟨⟨u, bs⟩, h1, h⟩ := runs_of h
    exact ⟨u, bs, h1, h⟩
  · exact h.elim
def with1P (xs : List LV) (f : LV → Prop) : Prop :=
  match xs with
  | [x] => f x
  | _ => False
def with2P (xs : List LV) (f : LV → LV → Prop) : Prop :=
  match xs with
  | [x, y] => f x y
  | _ => False
def sliceP (xs : List LV) (f : LV → List LV → Prop) : Prop :=
  match xs with
  | x :: is => f x is
  | [] => False
def vopXP (E : Env) (β : Nat → Option Blk) (d : Nat) (op : Op) (xs : List LV) (K : LV → List (Nat × Blk) → Prop) : Prop :=
  match op with
  | .load t _ => with1P xs fun u => opLoadP E β t u fun u => K u []
  | .fieldAddr s _ f => with1P xs fun x => opFieldAddrP E s f x fun u => K u []
  | .field s _ f => with1P xs fun x => opFieldP E s f x fun u => K u []
  | .indexAddr t _ _ => with2P xs fun x i => opIndexAddrP E t x i fun u => K u []
  | .index t _ _ => with2P xs fun x i => opIndexP E t x i fun u => K u []
  | .binOp op t _ _ _ => with2P xs fun x y => opBinP E op t x y fun u => K u []
  | .convert src dst _ => with1P xs fun x => convP E β src dst x fun u => K u []
  | .makeSlice t _ _ => with2P xs fun l c => gets (opMakeSlice E d t l c) fun p => K p.1 p.2
  | .slice t _ lo hi mx => sliceP xs fun x is => gets (opSlice E t lo.isSome hi.isSome mx.isSome x is) fun p => K p.1 p.2
  | .call c => callP E β d c xs K
  | op => runs (vopX E β d op xs) fun p => K p.1 p.2
theorem vopXP_of {E : Env} {β : Nat → Option Blk} {d : Nat} {op : Op} {xs : List LV} {K : LV → List (Nat × Blk) → Prop} (h : vopXP E β d op xs K) : ∃ u bs, vopX E β d op xs = some (u, bs) ∧ K u bs := by
  have w1 : ∀ {f : LV → Prop}, with1P xs f → ∃ x, xs = [x] ∧ f x := by
    intro f h
    unfold with1P at h
    split at h
    · exact ⟨_, rfl, h⟩
    · exact h.elim
  have w2 : ∀ {f : LV → LV → Prop}, with2P xs f → ∃ x y, xs = [x, y] ∧ f x y := by
    intro f h
    unfold with2P at h
    split at h
    · exact ⟨_, _, rfl, h⟩
    · exact h.elim
  unfold vopXP at h
  split at h
  · obtain ⟨x, rfl, h'⟩ := w1 h
    obtain ⟨u, h1, h⟩ := opLoadP_of h'
    exact ⟨u, [], h1, h⟩
  · obtain ⟨x, rfl, h'⟩ := w1 h
    obtain ⟨u, h1, h⟩ := opFieldAddrP_of h'
    exact ⟨u, [], h1, h⟩
  · obtain ⟨x, rfl, h'⟩ := w1 h
    obtain ⟨u, h1, h⟩ := opFieldP_of h'
    exact ⟨u, [], h1, h⟩
  · obtain ⟨x, y, rfl, h'⟩ := w2 h
    obtain ⟨u, h1, h⟩ := opIndexAddrP_of h'
    exact ⟨u, [], h1, h⟩
  · obtain ⟨x, y, rfl, h'⟩ := w2 h
    obtain ⟨u, h1, h⟩ := opIndexP_of h'
    exact ⟨u, [], h1, h⟩
  · obtain ⟨x, y, rfl, h'⟩ := w2 h
    obtain ⟨u, h1, h⟩ := opBinP_of h'
    exact ⟨u, [], h1, h⟩
  · obtain ⟨x, rfl, h'⟩ := w1 h
    obtain ⟨u, h1, h⟩ := convP_of h'
    exact ⟨u, [], by simp only [vopX, with1, h1, just], h⟩
  · obtain ⟨x, y, rfl, h'⟩ := w2 h
    obtain ⟨⟨u, bs⟩, h1, h⟩ := h'
    exact ⟨u, bs, h1, h⟩
  · unfold sliceP at h
    split at h
    · obtain ⟨⟨u, bs⟩, h1, h⟩ := h
      exact ⟨u, bs, h1, h⟩
    · exact h.elim
  · exact callP_of h
  · obtain ⟨⟨u, bs⟩, h1, h⟩ := runs_of h
    exact ⟨u, bs, h1, h⟩
def vopP (E : Env) (ρ : Nat → LV) (β : Nat → Option Blk) (d : Nat) (op : Op) (K : LV → List (Nat × Blk) → Prop) : Prop :=
  match op with
  | .pick c a b => match evalO ρ c with
    | some (.v (.bool t)) => (t = true → runs (evalO ρ a) fun u => K u []) ∧ (t = false → runs (evalO ρ b) fun u => K u [])
    | _ => False
  | op => runs (optMap (evalO ρ) (opers op)) fun xs => vopXP E β d op xs K
theorem vopP_of {E : Env} {ρ : Nat → LV} {β : Nat → Option Blk} {d : Nat} {op : Op} {K : LV → List (Nat × Blk) → Prop} (h : vopP E ρ β d op K) : ∃ u bs, vop E ρ β d op = some (u, bs) ∧ K u bs := by
  unfold vopP at h
  split at h
  · split at h
    · rename_i t hc
      rcases t with _ | _
      · obtain ⟨u, h1, h⟩ := runs_of (h.2 rfl)
        exact ⟨u, [], by simp [vop, hc, h1], h⟩
      · obtain ⟨u, h1, h⟩ := runs_of (h.1 rfl)
        exact ⟨u, [], by simp [vop, hc, h1], h⟩
    · exact h.elim
  · rename_i hne
    obtain ⟨xs, h1, h⟩ := runs_of h
    obtain ⟨u, bs, h2, h⟩ := vopXP_of h
    refine ⟨u, bs, ?_, h⟩
    unfold vop
    split
    · exact absurd rfl (hne _ _ _)
    · simp only [h1]; exact h2
def wantP (ops : List Oper) (ρ : Nat → LV) (o : Oper) (K : Bool → Prop) : Prop :=
  match o.guard with
  | none => K true
  | some (j, want) => match (ops[j]?).bind (·.dst) with
    | some d => match ρ d with
      | .v (.bool b) => (b = want → K true) ∧ (b = !want → K false)
      | .tup [] => K false
      | _ => False
    | none => False
theorem wantP_of {ops : List Oper} {ρ : Nat → LV} {o : Oper} {K : Bool → Prop} (h : wantP ops ρ o K) : ∃ b, wantL ops ρ o = some b ∧ K b := by
  unfold wantP at h
  unfold wantL
  split at h
  · rename_i hg; simp only [hg]; exact ⟨_, rfl, h⟩
  · rename_i j want hg
    simp only [hg]
    split at h
    · rename_i d hd
      simp only [hd]
      split at h
      · rename_i b hb
        simp only [hb]
        refine ⟨b == want, rfl, ?_⟩
        rcases b <;> rcases want <;> simp at h ⊢ <;> exact h
      · rename_i hb; simp only [hb]; exact ⟨_, rfl, h⟩
      · exact h.elim
    · exact h.elim

/-! operations that write -/
def isM : Op → Bool
  | .store _ _ _ => true
  | .call { callee := .builtin .append, .. } => true
  | .call { callee := .builtin .copy, .. } => true
  | _ => false
def opStoreP (E : Env) (β : Nat → Option Blk) (t : Nat) (p u : LV) (K : Upd → Prop) : Prop :=
  match p with
  | .ptr b off => match E.T t, u.cells, β b with
    | some ⟨_, size, _, _, _⟩, some y, some ⟨x, e, s⟩ => y.len = size ∧ gets (layOne x off y) fun x => K ⟨none, none, noVal, [(b, ⟨x, e, s⟩)]⟩
    | _, _, _ => False
  | _ => False
def mopP (E : Env) (β : Nat → Option Blk) (dst : Option Nat) (op : Op) (xs : List LV) (K : Upd → Prop) : Prop :=
  match op, xs with
  | .store t _ _, [p, u] => opStoreP E β t p u K
  | .call c, [s, x] => match c.callee, c.argTypes.toList with
    | .builtin .append, [t, t'] => match dst with
      | some d => t = t' ∧ gets (opAppend E β d t s x) K
      | none => False
    | .builtin .copy, [t, t'] => t = t' ∧ gets (opCopy E β t s x) K
    | _, _ => False
  | _, _ => False
theorem mopP_of {E : Env} {β : Nat → Option Blk} {dst : Option Nat} {op : Op} {xs : List LV} {K : Upd → Prop} (h : mopP E β dst op xs K) : ∃ p, mopX E β dst op xs = some p ∧ K p := by
  unfold mopP at h
  unfold mopX
  split at h
  · unfold opStoreP at h
    split at h
    · split at h
      · rename_i h1 h2 h3
        obtain ⟨hl, x, hx, h⟩ := h
        exact ⟨_, by simp only [opStore, h1, h2, h3, hl, if_true, hx], h⟩
      · exact h.elim
    · exact h.elim
  · split at h
    · rename_i h1 h2
      split at h
      · obtain ⟨rfl, p, hp, h⟩ := h
        exact ⟨p, by simp only [h1, h2, if_true, hp], h⟩
      · exact h.elim
    · rename_i h1 h2
      obtain ⟨rfl, p, hp, h⟩ := h
      exact ⟨p, by simp only [h1, h2, if_true, hp], h⟩
    · exact h.elim
  · exact h.elim
theorem vop_isM {E : Env} {ρ : Nat → LV} {β : Nat → Option Blk} {d : Nat} {op : Op} (h : isM op = true) : vop E ρ β d op = none := by
  unfold isM at h
  split at h
  · unfold vop
    simp only
    split <;> rfl
  · unfold vop
    simp only
    split <;> rfl
  · unfold vop
    simp only
    split <;> rfl
  · cases h
/-- No block of slot d is there. -/
def noneB : List (Nat × Blk) → Nat → Bool
  | [], _ => true
  | (i, _) :: l, d => match Nat.beq (i / 8) d with
    | true => false
    | false => noneB l d
theorem beq_nat (a b : Nat) : (a == b) = Nat.beq a b := by
  rw [Bool.eq_iff_iff]; simp only [beq_iff_eq]; exact ⟨fun h => by subst h; exact Nat.beq_refl a, Nat.eq_of_beq_eq_true⟩
theorem beq_bne (a b : Nat) : (a != b) = !(Nat.beq a b) := by rw [bne, beq_nat]
theorem noneB_eq : ∀ (l : List (Nat × Blk)) (d : Nat), (l.all fun p => p.1 / 8 != d) = noneB l d
  | [], _ => rfl
  | (i, k) :: l, d => by
    unfold noneB
    rw [List.all_cons, beq_bne, noneB_eq l d]
    cases Nat.beq (i / 8) d <;> rfl
def freshDP (st : St) (o : Oper) : Bool :=
  match makes o.op with
  | true => match o.dst with
    | some d => noneB st.blks d
    | none => true
  | false => true
theorem freshDP_eq (st : St) (o : Oper) : freshDP st o = freshD st o := by
  unfold freshDP freshD
  cases makes o.op
  · rfl
  · cases o.dst
    · rfl
    · simp [← noneB_eq]
def freshAP (st : St) (o : Oper) : Bool :=
  match o.dst with
  | some d => noneB st.blks d
  | none => true
theorem freshAP_eq (st : St) (o : Oper) : freshAP st o = freshA st o := by
  unfold freshAP freshA
  cases o.dst
  · rfl
  · simp [← noneB_eq]
def madeBy : List Oper → Nat → Bool
  | [], _ => false
  | o :: l, d => match makes o.op with
    | true => match o.dst with
      | some e => match Nat.beq e d with
        | true => true
        | false => madeBy l d
      | none => madeBy l d
    | false => madeBy l d
theorem madeBy_eq : ∀ (l : List Oper) (d : Nat), (l.any fun o => makes o.op && o.dst == some d) = madeBy l d
  | [], _ => rfl
  | o :: l, d => by
    unfold madeBy
    rw [List.any_cons, madeBy_eq l d]
    cases makes o.op
    · rfl
    · cases o.dst with
      | none => rfl
      | some e =>
        have : ((some e : Option Tmp) == some d) = Nat.beq e d := by rw [← beq_nat]; rfl
        simp only [this, Bool.true_and]
        cases Nat.beq e d <;> simp
def staleP (ops : List Oper) : List (Nat × Blk) → List (Nat × Blk)
  | [] => []
  | (i, k) :: l => match madeBy ops (i / 8) with
    | true => (i, k) :: staleP ops l
    | false => staleP ops l
theorem staleP_eq (ops : List Oper) : ∀ (l : List (Nat × Blk)), staleP ops l = l.filter fun p => ops.any fun o => makes o.op && o.dst == some (p.1 / 8)
  | [] => rfl
  | (i, k) :: l => by
    unfold staleP
    rw [List.filter_cons, staleP_eq ops l]
    simp only [madeBy_eq]
    cases madeBy ops (i / 8) <;> simp
def dstK {α : Type} (dst : Option Nat) (k : Nat → α) : α :=
  match dst with
  | some d => k d
  | none => k 0
theorem dstK_eq {α : Type} (dst : Option Nat) (k : Nat → α) : dstK dst k = k (dst.getD 0) := by cases dst <;> rfl
def bsOf (dst : Option Nat) (bs : List (Nat × Blk)) : List (Nat × Blk) :=
  match dst with
  | some _ => bs
  | none => []
theorem some_if {dst : Option Nat} {bs : List (Nat × Blk)} : bsOf dst bs = if dst.isSome then bs else [] := by cases dst <;> rfl
def stepP (E : Env) (ops : List Oper) (st : St) (o : Oper) (K : Upd → Prop) : Prop :=
  wantP ops st.slot o fun b => match b with
    | true => match freshDP st o with
      | true => match isM o.op with
        | true => runs (optMap (evalO st.slot) (opers o.op)) fun xs => mopP E st.blk o.dst o.op xs K
        | false => dstK o.dst fun d => vopP E st.slot st.blk d o.op fun u bs => K ⟨none, none, u, bsOf o.dst bs⟩
      | false => False
    | false => K ⟨none, none, noVal, []⟩
theorem stepP_of {E : Env} {ops : List Oper} {st : St} {o : Oper} {K : Upd → Prop} (h : stepP E ops st o K) : ∃ p, opStep E ops st o = some p ∧ K p := by
  obtain ⟨b, hw, h⟩ := wantP_of h
  unfold opStep
  rw [hw]
  rcases b with _ | _
  · exact ⟨_, rfl, h⟩
  · simp only at h ⊢
    split at h
    · rename_i hf
      rw [freshDP_eq] at hf
      simp only [hf, if_true]
      split at h
      · rename_i hM
        obtain ⟨xs, h1, h⟩ := runs_of h
        obtain ⟨p, h2, h⟩ := mopP_of h
        exact ⟨p, by simp only [vop_isM hM, h1, h2], h⟩
      · rw [dstK_eq] at h
        obtain ⟨u, bs, h1, h⟩ := vopP_of h
        rw [some_if] at h
        exact ⟨⟨none, none, u, if o.dst.isSome = true then bs else []⟩, by simp only [h1], h⟩
    · exact h.elim

/-! states -/
def putS {α : Type} : List LV → Nat → LV → (List LV → α) → α
  | [], _, _, k => k []
  | _ :: l, 0, u, k => k (u :: l)
  | x :: l, n + 1, u, k => putS l n u fun l => k (x :: l)
/-- A value's outermost form. -/
def headK {α : Type} (u : LV) (k : LV → α) : α :=
  match u with
  | .v (.int j n) => k (.v (.int j n))
  | .v (.bool b) => k (.v (.bool b))
  | .v x => k (.v x)
  | .str l => k (.str l)
  | .ptr b off => k (.ptr b off)
  | .imp x => k (.imp x)
  | .sl z b off n c => k (.sl z b off n c)
  | .im z n c x => k (.im z n c x)
  | .agg (.flat j l) => k (.agg (.flat j l))
  | .agg (.gen l) => k (.agg (.gen l))
  | .tup l => k (.tup l)
  | .iface t x => k (.iface t x)
  | .poison => k .poison
theorem headK_eq {α : Type} (u : LV) (k : LV → α) : headK u k = k u := by unfold headK; split <;> rfl
def blkHead {α : Type} (b : Blk) (k : Blk → α) : α :=
  match b with
  | ⟨.flat j l, e, s⟩ => k ⟨.flat j l, e, s⟩
  | ⟨.gen l, e, s⟩ => k ⟨.gen l, e, s⟩
theorem blkHead_eq {α : Type} (b : Blk) (k : Blk → α) : blkHead b k = k b := by unfold blkHead; split <;> rfl
def putTS {α : Type} (l : List LV) (dst : Option Nat) (u : LV) (k : List LV → α) : α :=
  match dst with
  | some d => headK u fun u => putS l d u k
  | none => k l
def setBS {α : Type} : List (Nat × Blk) → Nat → Blk → (List (Nat × Blk) → α) → α
  | [], b, k, K => K [(b, k)]
  | (i, k') :: l, b, k, K => match decEq i b with
    | .isTrue _ => K ((i, k) :: l)
    | .isFalse _ => setBS l b k fun l => K ((i, k') :: l)
def setBsS {α : Type} (l : List (Nat × Blk)) : List (Nat × Blk) → (List (Nat × Blk) → α) → α
  | [], K => K l
  | (b, k) :: bs, K => blkHead k fun k => setBS l b k fun l => setBsS l bs K
/-- An element with another's addresses forgotten, as far as its outermost form tells. -/
def loseS {α : Type} (B : Nat) (u : LV) (k : LV → α) : α :=
  match u with
  | .v x => k (.v x)
  | .str l => k (.str l)
  | .imp x => k (.imp x)
  | .im z n c x => k (.im z n c x)
  | .poison => k .poison
  | .agg (.flat j l) => k (.agg (.flat j l))
  | .tup [] => k (.tup [])
  | .ptr b off => match b == B with
    | true => k .poison
    | false => k (.ptr b off)
  | .sl z b off n c => match b == B with
    | true => k .poison
    | false => k (.sl z b off n c)
  | u => k (u.lose B)
def loseCS {α : Type} (B : Nat) (x : Cont) (k : Cont → α) : α :=
  match x with
  | .flat j l => k (.flat j l)
  | .gen l => listK (loseS B) l fun l => k (.gen l)
def loseBS {α : Type} (B : Nat) : List (Nat × Blk) → (List (Nat × Blk) → α) → α
  | [], K => K []
  | (i, k) :: l, K => match i == B with
    | true => loseBS B l K
    | false => loseCS B k.x fun x => loseBS B l fun l => K ((i, ⟨x, k.e, k.spare⟩) :: l)
def St.loseK {α : Type} (B : Nat) (st : St) (k : St → α) : α := listK (loseS B) st.tmps fun ts => loseBS B st.blks fun bl => k ⟨ts, bl⟩
def St.appS {α : Type} (st : St) (dst : Option Nat) (p : Upd) (k : St → α) : α :=
  match st, p with
  | ⟨ts, bl⟩, ⟨some B, _, u, bs⟩ => St.loseK B ⟨ts, bl⟩ fun st => match st with
    | ⟨ts, bl⟩ => putTS ts dst u fun ts => setBsS bl bs fun bl => k ⟨ts, bl⟩
  | st, ⟨none, some B, u, bs⟩ => k (st.app dst ⟨none, some B, u, bs⟩)
  | ⟨ts, bl⟩, ⟨none, none, u, bs⟩ => putTS ts dst u fun ts => setBsS bl bs fun bl => k ⟨ts, bl⟩
theorem putS_eq {α : Type} : ∀ (l : List LV) (d : Nat) (u : LV) (k : List LV → α), putS l d u k = k (l.set d u)
  | [], _, _, k => by simp [putS]
  | _ :: l, 0, u, k => by simp [putS]
  | x :: l, n + 1, u, k => by simp [putS, putS_eq l]
theorem putTS_eq {α : Type} (l : List LV) (dst : Option Nat) (u : LV) (k : List LV → α) : putTS l dst u k = k (putT l dst u) := by
  cases dst <;> simp [putTS, putT, putS_eq, headK_eq]
theorem setBS_eq {α : Type} : ∀ (l : List (Nat × Blk)) (b : Nat) (k : Blk) (K : List (Nat × Blk) → α), setBS l b k K = K (setB l b k)
  | [], b, k, K => by simp [setBS, setB]
  | (i, k') :: l, b, k, K => by
    unfold setBS setB
    split
    · rename_i h _; subst h; simp
    · rename_i h _; simp [h, setBS_eq l]
theorem setBsS_eq {α : Type} : ∀ (bs l : List (Nat × Blk)) (K : List (Nat × Blk) → α), setBsS l bs K = K (setBs l bs)
  | [], _, _ => rfl
  | (b, k) :: bs, l, K => by simp [setBsS, setBs, setBS_eq, setBsS_eq bs, blkHead_eq]
theorem loseS_eq {α : Type} (B : Nat) (u : LV) (k : LV → α) : loseS B u k = k (u.lose B) := by
  unfold loseS
  split <;> first
    | rfl
    | (rename_i b off; rcases h : b == B with _ | _ <;> simp [LV.lose, LV.ment, mentD, h]; done)
    | (rename_i z b off n c; rcases h : b == B with _ | _ <;> simp [LV.lose, LV.ment, mentD, h]; done)
theorem loseCS_eq {α : Type} (B : Nat) (x : Cont) (k : Cont → α) : loseCS B x k = k (x.lose B) := by
  have hl : ∀ (l : List LV) (k : List LV → α), listK (loseS B) l k = k (l.map (LV.lose B)) := by
    intro l
    induction l with
    | nil => intro k; rfl
    | cons u l ih => intro k; simp only [listK, loseS_eq, ih, List.map_cons]
  cases x with
  | flat j l => rfl
  | gen l => simp only [loseCS, hl, Cont.lose]
theorem loseBS_eq {α : Type} (B : Nat) : ∀ (l : List (Nat × Blk)) (K : List (Nat × Blk) → α), loseBS B l K = K (loseB B l)
  | [], K => rfl
  | (i, k) :: l, K => by
    unfold loseBS
    rcases h : i == B with _ | _
    · have h' : (i != B) = true := by simp [bne, h]
      simp [loseCS_eq, loseBS_eq B l, loseB, h']
    · have h' : (i != B) = false := by simp [bne, h]
      simp [loseBS_eq B l, loseB, h']
theorem St.loseK_eq {α : Type} (B : Nat) (st : St) (k : St → α) : st.loseK B k = k (st.lose B) := by
  have hl : ∀ (l : List LV) (k : List LV → α), listK (loseS B) l k = k (l.map (LV.lose B)) := by
    intro l
    induction l with
    | nil => intro k; rfl
    | cons u l ih => intro k; simp only [listK, loseS_eq, ih, List.map_cons]
  simp only [St.loseK, hl, loseBS_eq, St.lose]
theorem St.appS_eq {α : Type} (st : St) (dst : Option Nat) (p : Upd) (k : St → α) : st.appS dst p k = k (st.app dst p) := by
  rcases p with ⟨g, c, u, bs⟩
  cases g <;> cases c <;> simp [St.appS, St.app, St.pre, St.loseK_eq, putTS_eq, setBsS_eq]

/-! regions -/
def execOps (E : Env) (ops : List Oper) : List Oper → St → (St → Prop) → Prop
  | [], st, K => K st
  | o :: l, st, K => stepP E ops st o fun p => st.appS o.dst p fun st => execOps E ops l st K
theorem execOps_of {E : Env} {ops : List Oper} : ∀ {l : List Oper} {st : St} {K : St → Prop}, execOps E ops l st K → ∃ st', opSteps E ops l st = some st' ∧ K st'
  | [], st, K, h => ⟨st, rfl, h⟩
  | o :: l, st, K, h => by
    obtain ⟨p, h1, h⟩ := stepP_of h
    rw [St.appS_eq] at h
    obtain ⟨st', h2, h⟩ := execOps_of h
    exact ⟨st', by simp only [opSteps, h1, St.appK_eq]; exact h2, h⟩
def preStepP (E : Env) (ops pre : List Oper) (m : Nat) (st : St) (o : Oper) (K : Upd → Prop) : Prop :=
  wantP ops (maskR pre m st) o fun b => match freshAP st o with
    | true => match b with
      | true => dstK o.dst fun d => vopP E (maskR pre m st) (maskB pre m st) d o.op fun u bs => K ⟨none, none, u, bsOf o.dst bs⟩
      | false => K ⟨none, none, noVal, []⟩
    | false => False
theorem preStepP_of {E : Env} {ops pre : List Oper} {m : Nat} {st : St} {o : Oper} {K : Upd → Prop} (h : preStepP E ops pre m st o K) : ∃ p, preStep E ops pre m st o = some p ∧ K p := by
  obtain ⟨b, hw, h⟩ := wantP_of h
  unfold preStep
  simp only
  rw [hw]
  split at h
  · rename_i hf
    rw [freshAP_eq] at hf
    rcases b with _ | _
    · exact ⟨_, by simp only [hf, if_true], h⟩
    · rw [dstK_eq] at h
      obtain ⟨u, bs, h1, h⟩ := vopP_of h
      rw [some_if] at h
      exact ⟨_, by simp only [hf, if_true, h1], h⟩
  · exact h.elim
def preP (E : Env) (ops pre : List Oper) : List Nat → List Oper → St → (St → Prop) → Prop
  | m :: ms, o :: l, st, K => preStepP E ops pre m st o fun p => st.appS o.dst p fun st => preP E ops pre ms l st K
  | _, _, st, K => K st
theorem preP_of {E : Env} {ops pre : List Oper} : ∀ {ms : List Nat} {l : List Oper} {st : St} {K : St → Prop}, preP E ops pre ms l st K → ∃ st', preSteps E ops pre ms l st = some st' ∧ K st'
  | [], l, st, K, h => ⟨st, by simp [preSteps], by simpa [preP] using h⟩
  | m :: ms, [], st, K, h => ⟨st, by simp [preSteps], by simpa [preP] using h⟩
  | m :: ms, o :: l, st, K, h => by
    obtain ⟨p, h1, h⟩ := preStepP_of h
    rw [St.appS_eq] at h
    obtain ⟨st', h2, h⟩ := preP_of h
    exact ⟨st', by simp only [preSteps, h1, St.appK_eq]; exact h2, h⟩
def spine {α β : Type} : List α → (List α → β) → β
  | [], k => k []
  | x :: l, k => spine l fun l => k (x :: l)
theorem spine_eq {α β : Type} : ∀ (l : List α) (k : List α → β), spine l k = k l
  | [], _ => rfl
  | x :: l, k => by simp [spine, spine_eq l]
def readyS (ops : List Oper) (st : St) (k : St → Prop) : Prop :=
  match staleP ops st.blks with
  | [] => k st
  | l => k (st.calmAll l)
theorem readyS_eq (ops : List Oper) (st : St) (k : St → Prop) : readyS ops st k = k (ready ops st) := by
  unfold readyS ready
  rw [show staleP ops st.blks = stale ops st from staleP_eq ops st.blks]
  split
  · rename_i h; rw [h]; rfl
  · rfl
def execR (E : Env) (ops : List Oper) (draw : Bool) (st : St) (K : St → Prop) : Prop :=
  match draw with
  | true => regB ops = true ∧ spine (deps ops []) fun ds => natK (tailAt ds ops.length) fun n => readyS ops st fun st => spine (ops.take n) fun pre => preP E ops pre (ds.take n) pre st fun st => execOps E ops (ops.drop n) st K
  | false => readyS ops st fun st => execOps E ops ops st K
theorem execR_of {E : Env} {ops : List Oper} {draw : Bool} {st : St} {K : St → Prop} (h : execR E ops draw st K) : ∃ st', runR E ops draw st = some st' ∧ K st' := by
  cases draw with
  | true =>
    obtain ⟨hr, h⟩ := h
    rw [spine_eq, natK_eq, readyS_eq, spine_eq] at h
    obtain ⟨st1, h1, h⟩ := preP_of h
    obtain ⟨st2, h2, h⟩ := execOps_of h
    exact ⟨st2, by simp only [runR, if_true, hr, readyK_eq, h1, h2], h⟩
  | false =>
    change readyS ops st (fun st => execOps E ops ops st K) at h
    rw [readyS_eq] at h
    obtain ⟨st2, h2, h⟩ := execOps_of h
    exact ⟨st2, by simp only [runR, readyK_eq]; exact h2, h⟩

/-! code -/
/-- Slots and blocks of which nothing more is to be known. -/
def St.void (st : St) (ts : List Nat) : St := ⟨ts.foldl (fun l t => l.set t .poison) st.tmps, st.blks⟩
def St.drop (st : St) (ts bs : List Nat) : St := bs.foldl (fun st b => st.lose b) (st.void ts)
def seqK (f : St → (Ex → St → Prop) → Prop) (K : Ex → St → Prop) (x : Ex) (st : St) : Prop :=
  match x with
  | .norm => f st K
  | .exit i => K (.exit i) st
  | .ret => K .ret st
def blockK (id : Nat) (K : Ex → St → Prop) (x : Ex) (st : St) : Prop :=
  match x with
  | .norm => K .norm st
  | .exit i => match decEq i id with
    | .isTrue _ => K .norm st
    | .isFalse _ => K (.exit i) st
  | .ret => K .ret st
def loopK (I : Nat → St → Prop) (n : Nat) (K : Ex → St → Prop) (x : Ex) (st : St) : Prop :=
  match x with
  | .norm => ∃ ts bs m, m < n ∧ I m (st.drop ts bs)
  | .exit i => K (.exit i) st
  | .ret => K .ret st
/-- A loop taken at most n times. -/
def unroll (f : St → (Ex → St → Prop) → Prop) : Nat → St → (Ex → St → Prop) → Prop
  | 0, _, _ => False
  | n + 1, st, K => f st (seqK (unroll f n) K)
def execC (E : Env) : Code → St → (Ex → St → Prop) → Prop
  | .skip, st, K => K .norm st
  | .label _, st, K => K .norm st
  | .region _ ops draw, st, K => execR E ops.toList draw st (K .norm)
  | .seq a b, st, K => execC E a st (seqK (execC E b) K)
  | .cond c a b, st, K => match evalO st.slot c with
    | some (.v (.bool t)) => (t = true → execC E a st K) ∧ (t = false → execC E b st K)
    | _ => False
  | .block id b, st, K => execC E b st (blockK id K)
  | .loop b, st, K => (∃ I : Nat → St → Prop, (∃ ts bs n, I n (st.drop ts bs)) ∧ ∀ n st, I n st → execC E b st (loopK I n K)) ∨ ∃ n, unroll (execC E b) n st K
  | .scope b, st, K => execC E b st K
  | .exit id, st, K => K (.exit id) st
  | .ret, st, K => K .ret st
  | _, _, _ => False
def mapK {α β : Type} (f : α → (β → Prop) → Prop) : List α → (List β → Prop) → Prop
  | [], K => K []
  | x :: l, K => f x fun y => mapK f l fun ys => K (y :: ys)
theorem mapK_of {α β : Type} {f : α → (β → Prop) → Prop} {h : α → Option β} (hf : ∀ x K, f x K → ∃ y, h x = some y ∧ K y) : ∀ {l : List α} {K : List β → Prop}, mapK f l K → ∃ ys, optMap h l = some ys ∧ K ys
  | [], K, q => ⟨[], rfl, q⟩
  | x :: l, K, q => by
    obtain ⟨y, hy, q⟩ := hf x _ q
    obtain ⟨ys, hys, q⟩ := mapK_of hf q
    exact ⟨y :: ys, by simp only [optMap, hy, hys], q⟩
def resVarP (E : Env) (st : St) (r : ResultVar) (K : LV → Prop) : Prop :=
  match r with
  | .tmp t => headK (st.slot t) K
  | .cell p t => match st.slot p, E.T t with
    | .ptr b off, some ⟨_, size, _, agg, _⟩ => match st.blk b with
      | some ⟨x, _, _⟩ => loadP x off size agg K
      | none => False
    | _, _ => False
theorem resVarP_of {E : Env} {st : St} (r : ResultVar) (K : LV → Prop) (h : resVarP E st r K) : ∃ u, resVar E st r = some u ∧ K u := by
  unfold resVarP at h
  split at h
  · rw [headK_eq] at h
    exact ⟨_, rfl, h⟩
  · split at h
    · rename_i h1 h2
      split at h
      · rename_i h3
        obtain ⟨u, hu, h⟩ := loadP_of h
        refine ⟨u, ?_, h⟩
        simp only [resVar, h1, h2, h3, hu, fstO]
      · exact h.elim
    · exact h.elim
def resP (E : Env) (st : St) (rs : List ResultVar) (r : LRes) : Prop :=
  mapK (resVarP E st) rs fun us => apartR st.blk us = true ∧ mapP (resSlot st.blk (hideB (us.filterMap (ownedB st.blk)) st.blk)) us fun cs => packR cs = r
theorem resP_of {E : Env} {st : St} {rs : List ResultVar} {r : LRes} (h : resP E st rs r) : resOf E st rs = some r := by
  obtain ⟨us, h1, h2, h⟩ := mapK_of resVarP_of h
  obtain ⟨cs, h3, rfl⟩ := mapP_of h
  simp only [resOf, h1, h2, if_true, h3]
def endK (E : Env) (rs : List ResultVar) (r : LRes) (x : Ex) (st : St) : Prop :=
  match x with
  | .norm => resP E st rs r
  | .exit _ => False
  | .ret => resP E st rs r
/-- The text of a function, with arguments, gives r. -/
def execF (E : Env) (fn : Func) (args : List LV) (r : LRes) : Prop :=
  match fn.body with
  | some c => spine (enterL fn args).tmps fun ts => execC E c ⟨ts, []⟩ (endK E fn.results.toList r)
  | none => False

section
variable {P : Program} {E : Env} {A : Nat → Prop} {w0 : World} {a : Act} {w : World}
theorem foldl_set_slot : ∀ (ts : List Nat) (l : List LV) (t : Nat), (ts.foldl (fun l t => l.set t LV.poison) l).getD t .poison = .poison ∨ (ts.foldl (fun l t => l.set t LV.poison) l).getD t .poison = l.getD t .poison
  | [], _, _ => .inr rfl
  | s :: ts, l, t => by
    rcases foldl_set_slot ts (l.set s .poison) t with h | h
    · exact .inl h
    · simp only [List.foldl_cons, h]
      simp only [List.getD_eq_getElem?_getD, List.getElem?_set]
      split
      · split <;> exact .inl rfl
      · exact .inr rfl
theorem foldl_set_len : ∀ (ts : List Nat) (l : List LV), (ts.foldl (fun l t => l.set t LV.poison) l).length = l.length
  | [], _ => rfl
  | s :: ts, l => by rw [List.foldl_cons, foldl_set_len ts]; simp
theorem void_ok {st : St} (S : SRs A w0 st a w) (ts : List Nat) : SRs A w0 (st.void ts) a w := by
  obtain ⟨m, F, S⟩ := S
  have hl : (st.void ts).tmps.length = st.tmps.length := foldl_set_len ts _
  refine ⟨m, F, ?_⟩
  rw [hl]
  refine { S with slots := fun t => ?_ }
  rcases foldl_set_slot ts st.tmps t with h | h
  · show Rep F w m ((st.void ts).tmps.getD t .poison) _
    rw [show (st.void ts).tmps.getD t .poison = .poison from h]
    exact .poison _ _
  · show Rep F w m ((st.void ts).tmps.getD t .poison) _
    rw [show (st.void ts).tmps.getD t .poison = st.tmps.getD t .poison from h]
    exact S.slots t
theorem lose_ok {st : St} (S : SRs A w0 st a w) (B : Nat) : SRs A w0 (st.lose B) a w := by
  obtain ⟨m, F, S⟩ := S
  refine ⟨m.del B, F, ?_⟩
  have := S.lose B
  have hl : (st.lose B).tmps.length = st.tmps.length := by simp [St.lose]
  rw [hl, (St.lose_fn st B).1, (St.lose_fn st B).2]
  exact this
theorem drop_ok {st : St} (S : SRs A w0 st a w) (ts bs : List Nat) : SRs A w0 (st.drop ts bs) a w := by
  have key : ∀ (bs : List Nat) (st : St), SRs A w0 st a w → SRs A w0 (bs.foldl (fun st b => st.lose b) st) a w := by
    intro bs
    induction bs with
    | nil => exact fun _ h => h
    | cons b bs ih => exact fun st h => ih _ (lose_ok h b)
  exact key bs _ (void_ok S ts)

theorem execC_ok (hm : P.follows .mixedOrders = true) (hE : EnvOk P E) : ∀ (c : Code) (st : St) (K : Ex → St → Prop) (a : Act) (w : World), SRs A w0 st a w → execC E c st K →
    c.wp P (fun e a' w' => ∃ x st', e = exitOf x ∧ SRs A w0 st' a' w' ∧ K x st') a w := by
  intro c
  induction c with
  | skip => exact fun st K a w S h => wp_skip ⟨.norm, st, rfl, S, h⟩
  | label l => exact fun st K a w S h => wp_label ⟨.norm, st, rfl, S, h⟩
  | exit id => exact fun st K a w S h => wp_exit ⟨.exit id, st, rfl, S, h⟩
  | ret => exact fun st K a w S h => wp_ret ⟨.ret, st, rfl, S, h⟩
  | region id ops draw =>
    intro st K a w S h
    obtain ⟨st', h1, h⟩ := execR_of h
    refine Code.wp_mono ?_ (runR_ok hm hE S h1)
    rintro e a' w' ⟨rfl, S'⟩
    exact ⟨.norm, st', rfl, S', h⟩
  | seq c1 c2 ih1 ih2 =>
    intro st K a w S h
    refine wp_seq (Code.wp_mono ?_ (ih1 st _ a w S h))
    rintro e a' w' ⟨x, st', rfl, S', h⟩
    cases x with
    | norm => exact ih2 st' K a' w' S' h
    | exit i => exact ⟨.exit i, st', rfl, S', h⟩
    | ret => exact ⟨.ret, st', rfl, S', h⟩
  | cond c c1 c2 ih1 ih2 =>
    intro st K a w S h
    simp only [execC] at h
    have key : ∀ b, evalO st.slot c = some (.v (.bool b)) → a.eval c = .bool b := by
      intro b hb
      obtain ⟨m, F, S⟩ := S
      have := evalO_ok S.slots hb
      generalize a.eval c = v at this
      cases this
      rfl
    split at h
    · rename_i t hc
      rcases t with _ | _
      · exact wp_cond_false (key _ hc) (ih2 st K a w S (h.2 rfl))
      · exact wp_cond_true (key _ hc) (ih1 st K a w S (h.1 rfl))
    · exact h.elim
  | block id b ih =>
    intro st K a w S h
    refine wp_block (Code.wp_mono ?_ (ih st _ a w S h))
    rintro e a' w' ⟨x, st', rfl, S', h⟩
    cases x with
    | norm => exact ⟨.norm, st', rfl, S', h⟩
    | exit i =>
      simp only [blockK] at h
      show if i = id then _ else _
      split at h
      · rename_i hi _; rw [if_pos hi]; exact ⟨.norm, st', rfl, S', h⟩
      · rename_i hi _; rw [if_neg hi]; exact ⟨.exit i, st', rfl, S', h⟩
    | ret => exact ⟨.ret, st', rfl, S', h⟩
  | loop b ih =>
    intro st K a w S h
    rcases h with ⟨I, ⟨ts, bs, n, h0⟩, hI⟩ | ⟨n, h0⟩
    case inr =>
      let p : Act → World → Nat → Prop := fun a w k => ∃ st, SRs A w0 st a w ∧ unroll (execC E b) k st K
      refine wp_loop (fun a w => ∃ k, p a w k) (fun a w => leastOf (p a w)) ⟨n, _, S, h0⟩ (fun a w hk => ?_)
      obtain ⟨⟨st, S, h⟩, hmin⟩ := leastOf_spec hk
      generalize leastOf (p a w) = k at h hmin
      cases k with
      | zero => exact h.elim
      | succ k =>
        refine Code.wp_mono ?_ (ih st _ a w S h)
        rintro e a' w' ⟨x, st', rfl, S', h⟩
        cases x with
        | norm =>
          have hp : p a' w' k := ⟨_, S', h⟩
          exact ⟨⟨k, hp⟩, Nat.lt_succ_of_le ((leastOf_spec ⟨k, hp⟩).2 k hp)⟩
        | exit i => exact ⟨.exit i, st', rfl, S', h⟩
        | ret => exact ⟨.ret, st', rfl, S', h⟩
    let p : Act → World → Nat → Prop := fun a w k => ∃ st, SRs A w0 st a w ∧ I k st
    refine wp_loop (fun a w => ∃ k, p a w k) (fun a w => leastOf (p a w)) ⟨n, _, drop_ok S ts bs, h0⟩ (fun a w hk => ?_)
    obtain ⟨⟨st, S, h⟩, hmin⟩ := leastOf_spec hk
    refine Code.wp_mono ?_ (ih st _ a w S (hI _ st h))
    rintro e a' w' ⟨x, st', rfl, S', h⟩
    cases x with
    | norm =>
      obtain ⟨ts, bs, m, hm, h⟩ := h
      have hp : p a' w' m := ⟨_, drop_ok S' ts bs, h⟩
      exact ⟨⟨m, hp⟩, Nat.lt_of_le_of_lt ((leastOf_spec ⟨m, hp⟩).2 m hp) hm⟩
    | exit i => exact ⟨.exit i, st', rfl, S', h⟩
    | ret => exact ⟨.ret, st', rfl, S', h⟩
  | scope b ih =>
    intro st K a w S h
    refine wp_scope_straight (Code.wp_mono ?_ (ih st K a w S h))
    rintro e a' w' ⟨x, st', rfl, S', h⟩
    cases x with
    | norm => exact ⟨.norm, st', rfl, S', h⟩
    | exit i => exact ⟨.exit i, st', rfl, S', h⟩
    | ret => exact ⟨.ret, st', rfl, S', h⟩
  | rangeFunc f ps as b ih1 ih2 => exact fun st K a w S h => h.elim
  | goto l => exact fun st K a w S h => h.elim
  | refuse s => exact fun st K a w S h => h.elim

theorem enterL_ok {fn : Func} {ds : List LV} {w : World} {A : Nat → Prop} {args : Array Value} (hsz : args.size = ds.length) (hA : ∀ g, A g → g < w.heap.size) (hrep : ∀ (i : Nat) (u : LV), ds[i]? = some u → Rep A w noMap u (args.getD i undef)) :
    SRs A w (enterL fn ds) { tmps := args ++ Array.replicate (fn.ntmps - args.size) undef, defers := [] } w := by
  refine ⟨noMap, A, by simp [enterL, hsz], fun t => ?_, fun b k hk => by simp [enterL, St.blk, findB] at hk, fun b b' k k' l l' hk => by simp [enterL, St.blk, findB] at hk, rfl, Keeps.refl _ _, hA, fun g hg => .inl hg, fun g hg => hg, fun b _ => rfl⟩
  show Rep A w noMap ((ds ++ List.replicate (fn.ntmps - ds.length) noVal).getD t .poison) ((args ++ Array.replicate (fn.ntmps - args.size) undef).getD t undef)
  rw [List.getD_eq_getElem?_getD, Array.getD_eq_getD_getElem?]
  by_cases ht : t < ds.length
  · rw [List.getElem?_append_left ht, Array.getElem?_append_left (by omega)]
    obtain ⟨u, hu⟩ := getL_of ht
    have := hrep t u hu
    rw [Array.getD_eq_getD_getElem?] at this
    rw [hu]
    exact this
  · rw [List.getElem?_append_right (by omega), Array.getElem?_append_right (by omega), List.getElem?_replicate, Array.getElem?_replicate, hsz]
    split
    · exact undef_rep
    · exact .poison _ _
theorem execF_ok (hm : P.follows .mixedOrders = true) (hE : EnvOk P E) {f : Nat} {fn : Func} (hf : P.funcs[f]? = some fn) {ds : List LV} {r : LRes} (h : execF E fn ds r) : CallOk P f ds r := by
  intro w A args hsz hA hrep
  unfold execF at h
  split at h
  case h_2 => exact h.elim
  rename_i c hb
  rw [spine_eq] at h
  refine calls_of_wp hf hb (Code.wp_mono ?_ (execC_ok hm hE c _ _ _ _ (enterL_ok hsz hA hrep) h))
  rintro e a' w' ⟨x, st', rfl, S, h⟩
  have fin : resP E st' fn.results.toList r → a'.defers = [] ∧ ∃ v, (results fn a'.tmps).run P w' = .ok v w' ∧ ∃ v' F', (Ending.returned v) = .returned v' ∧ Keeps (fun _ => False) w w' ∧ (∀ g, A g → F' g) ∧ (∀ g, F' g → g < w'.heap.size ∧ (A g ∨ w.heap.size ≤ g)) ∧ ResOk F' w.heap.size w' r v' := by
    intro hr
    obtain ⟨v, F', h1, h2, h3, h4⟩ := resOf_ok hE.T S (resP_of hr)
    obtain ⟨m, F, S⟩ := S
    exact ⟨S.dfr, v, h1, v, F', rfl, S.keeps, h2, h3, h4⟩
  cases x with
  | norm => exact fin h
  | exit i => exact h.elim
  | ret => exact fin h
end
end Go.Proofs.Ytcmceadekcfpbaa
