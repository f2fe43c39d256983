/-
  The machine of plain values: operations that write, regions, code, functions.
-/
import Derived.Test.YtcmceadekcfpbaaM1
namespace Go.Proofs.Ytcmceadekcfpbaa
open Go.RowKit

structure St where
  tmps : List LV
  blks : List (Nat × Blk)
def St.slot (st : St) (t : Nat) : LV := st.tmps.getD t .poison
def findB : List (Nat × Blk) → Nat → Option Blk
  | [], _ => none
  | (i, k) :: l, b => if i = b then some k else findB l b
def St.blk (st : St) (b : Nat) : Option Blk := findB st.blks b
def setB : List (Nat × Blk) → Nat → Blk → List (Nat × Blk)
  | [], b, k => [(b, k)]
  | (i, k') :: l, b, k => if i = b then (b, k) :: l else (i, k') :: setB l b k

/-- Whether a value bears an address of block B (or may). -/
def LV.ment (B : Nat) : Nat → LV → Bool
  | _, .v _ | _, .str _ | _, .imp _ | _, .im _ _ _ _ | _, .poison | _, .agg (.flat _ _) => false
  | _, .ptr b _ => b == B
  | _, .sl _ b _ _ _ => b == B
  | D + 1, .agg (.gen l) | D + 1, .tup l => l.any (LV.ment B D)
  | D + 1, .iface _ u => LV.ment B D u
  | _, _ => true
def mentD : Nat := 4
/-- Nothing known where a value bears an address of block B. -/
def LV.lose (B : Nat) (u : LV) : LV := if u.ment B mentD then .poison else u
def Cont.lose (B : Nat) : Cont → Cont
  | .flat k l => .flat k l
  | .gen l => .gen (l.map (LV.lose B))
def loseB (B : Nat) (l : List (Nat × Blk)) : List (Nat × Blk) := (l.filter fun p => p.1 != B).map fun p => (p.1, { p.2 with x := p.2.x.lose B })
def St.lose (B : Nat) (st : St) : St := ⟨st.tmps.map (LV.lose B), loseB B st.blks⟩

/-- Block B stays as it is from now on: slices of it show their cells. -/
def LV.calm (B : Nat) (k : Blk) (u : LV) : LV :=
  match u with
  | .sl z b off n c => if b = B then match k.x.cut off (n * z) with
      | some (.flat k l) => .im z n c (.flat k l)
      | some (.gen l) => if l.all (LV.shut 6) then .im z n c (.gen l) else .poison
      | none => .poison else u
  | u => u.lose B
def Cont.calm (B : Nat) (k : Blk) : Cont → Cont
  | .flat k l => .flat k l
  | .gen l => .gen (l.map (LV.calm B k))
def St.calm (B : Nat) (k : Blk) (st : St) : St :=
  ⟨st.tmps.map (LV.calm B k), (st.blks.filter fun p => p.1 != B).map fun p => (p.1, { p.2 with x := p.2.x.calm B k })⟩
/-- What an operation does: a block whose other slices are known no more; a value; blocks. -/
def noVal : LV := .tup []
structure Upd where
  gone : Option Nat
  calm : Option Nat
  u : LV
  bs : List (Nat × Blk)
def putT (l : List LV) (dst : Option Nat) (u : LV) : List LV :=
  match dst with
  | some d => l.set d u
  | none => l
def setBs (l : List (Nat × Blk)) : List (Nat × Blk) → List (Nat × Blk)
  | [] => l
  | p :: bs => setBs (setB l p.1 p.2) bs
def St.calmO (st : St) (b : Nat) : St :=
  match st.blk b with
  | some k => st.calm b k
  | none => st
/-- The state ahead of the operation's own writing. -/
def St.pre (st : St) (p : Upd) : St :=
  match p.gone, p.calm with
  | some B, _ => st.lose B
  | none, some B => st.calmO B
  | none, none => st
def St.app (st : St) (dst : Option Nat) (p : Upd) : St := ⟨putT (st.pre p).tmps dst p.u, setBs (st.pre p).blks p.bs⟩

/-! The same, so that a reckoner by need comes to plain terms. -/
def natK {α : Type} (n : Nat) (k : Nat → α) : α :=
  match n with
  | 0 => k 0
  | .succ m => k (.succ m)
def intK {α : Type} (n : Int) (k : Int → α) : α :=
  match n with
  | .ofNat m => natK m fun m => k (.ofNat m)
  | .negSucc m => natK m fun m => k (.negSucc m)
def intsK {α : Type} : List Int → (List Int → α) → α
  | [], k => k []
  | n :: l, k => intK n fun n => intsK l fun l => k (n :: l)
def optK {α : Type} (c : Option Nat) (k : Option Nat → α) : α :=
  match c with
  | some n => natK n fun n => k (some n)
  | none => k none
def listK {α : Type} (f : LV → (LV → α) → α) : List LV → (List LV → α) → α
  | [], k => k []
  | u :: l, k => f u fun u => listK f l fun l => k (u :: l)
def contK {α : Type} (f : LV → (LV → α) → α) (x : Cont) (k : Cont → α) : α :=
  match x with
  | .flat j l => intsK l fun l => k (.flat j l)
  | .gen l => listK f l fun l => k (.gen l)
def lvK {α : Type} : Nat → LV → (LV → α) → α
  | 0, u, k => k u
  | D + 1, u, k => match u with
    | .v (.int j n) => intK n fun n => k (.v (.int j n))
    | .v (.bool true) => k (.v (.bool true))
    | .v (.bool false) => k (.v (.bool false))
    | .ptr b off => natK b fun b => natK off fun off => k (.ptr b off)
    | .sl z b off n c => natK z fun z => natK b fun b => natK off fun off => natK n fun n => optK c fun c => k (.sl z b off n c)
    | .im z n c x => natK z fun z => natK n fun n => optK c fun c => contK (lvK D) x fun x => k (.im z n c x)
    | .imp x => contK (lvK D) x fun x => k (.imp x)
    | .agg x => contK (lvK D) x fun x => k (.agg x)
    | .tup l => listK (lvK D) l fun l => k (.tup l)
    | .str l => intsK l fun l => k (.str l)
    | u => k u
def putK {α : Type} : List LV → Nat → LV → (List LV → α) → α
  | [], _, _, k => k []
  | _ :: l, 0, u, k => k (u :: l)
  | x :: l, n + 1, u, k => putK l n u fun l => k (x :: l)
def putTK {α : Type} (l : List LV) (dst : Option Nat) (u : LV) (k : List LV → α) : α :=
  match dst with
  | some d => lvK 4 u fun u => putK l d u k
  | none => k l
def blkK {α : Type} (b : Blk) (k : Blk → α) : α :=
  match b.spare with
  | true => contK (lvK 4) b.x fun x => natK b.e fun e => k ⟨x, e, true⟩
  | false => contK (lvK 4) b.x fun x => natK b.e fun e => k ⟨x, e, false⟩
def setBK {α : Type} : List (Nat × Blk) → Nat → Blk → (List (Nat × Blk) → α) → α
  | [], b, k, K => natK b fun b => K [(b, k)]
  | (i, k') :: l, b, k, K => if i = b then K ((i, k) :: l) else setBK l b k fun l => K ((i, k') :: l)
def setBsK {α : Type} (l : List (Nat × Blk)) : List (Nat × Blk) → (List (Nat × Blk) → α) → α
  | [], K => K l
  | (b, k) :: bs, K => blkK k fun k => setBK l b k fun l => setBsK l bs K
def blksK {α : Type} : List (Nat × Blk) → (List (Nat × Blk) → α) → α
  | [], K => K []
  | (b, k) :: l, K => natK b fun b => blkK k fun k => blksK l fun l => K ((b, k) :: l)
def St.allK {α : Type} (q : Bool) (st : St) (k : St → α) : α :=
  match q with
  | true => listK (lvK 4) st.tmps fun ts => blksK st.blks fun bl => k ⟨ts, bl⟩
  | false => k st
def St.appE {α : Type} (st : St) (dst : Option Nat) (p : Upd) (k : St → α) : α :=
  match p.gone, p.calm with
  | some B, _ => (st.lose B).allK true fun st => putTK st.tmps dst p.u fun ts => setBsK st.blks p.bs fun bl => k ⟨ts, bl⟩
  | none, some B => (st.calmO B).allK true fun st => putTK st.tmps dst p.u fun ts => setBsK st.blks p.bs fun bl => k ⟨ts, bl⟩
  | none, none => putTK st.tmps dst p.u fun ts => setBsK st.blks p.bs fun bl => k ⟨ts, bl⟩

def St.appK {α : Type} (q : Bool) (st : St) (dst : Option Nat) (p : Upd) (k : St → α) : α :=
  match q with
  | true => st.appE dst p k
  | false => k (st.app dst p)

theorem natK_eq {α : Type} (n : Nat) (k : Nat → α) : natK n k = k n := by cases n <;> rfl
theorem intK_eq {α : Type} (n : Int) (k : Int → α) : intK n k = k n := by cases n <;> simp [intK, natK_eq]
theorem optK_eq {α : Type} (n : Option Nat) (k : Option Nat → α) : optK n k = k n := by cases n <;> simp [optK, natK_eq]
theorem intsK_eq {α : Type} : ∀ (l : List Int) (k : List Int → α), intsK l k = k l
  | [], _ => rfl
  | n :: l, k => by simp [intsK, intK_eq, intsK_eq l]
theorem listK_eq {α : Type} {f : LV → (LV → α) → α} (hf : ∀ u k, f u k = k u) : ∀ (l : List LV) (k : List LV → α), listK f l k = k l
  | [], _ => rfl
  | n :: l, k => by simp [listK, hf, listK_eq hf l]
theorem contK_eq {α : Type} {f : LV → (LV → α) → α} (hf : ∀ u k, f u k = k u) (x : Cont) (k : Cont → α) : contK f x k = k x := by
  cases x <;> simp [contK, intsK_eq, listK_eq hf]
theorem lvK_eq {α : Type} : ∀ (D : Nat) (u : LV) (k : LV → α), lvK D u k = k u
  | 0, _, _ => rfl
  | D + 1, u, k => by
    have ih := lvK_eq (α := α) D
    unfold lvK
    split <;> simp [natK_eq, intK_eq, optK_eq, contK_eq ih, listK_eq ih, intsK_eq]
theorem putK_eq {α : Type} : ∀ (l : List LV) (d : Nat) (u : LV) (k : List LV → α), putK l d u k = k (l.set d u)
  | [], _, _, _ => by simp [putK]
  | _ :: l, 0, u, k => by simp [putK]
  | x :: l, n + 1, u, k => by simp [putK, putK_eq l]
theorem putTK_eq {α : Type} (l : List LV) (dst : Option Nat) (u : LV) (k : List LV → α) : putTK l dst u k = k (putT l dst u) := by
  cases dst <;> simp [putTK, putT, lvK_eq, putK_eq]
theorem blkK_eq {α : Type} (b : Blk) (k : Blk → α) : blkK b k = k b := by
  rcases b with ⟨x, e, s⟩
  cases s <;> simp [blkK, contK_eq (lvK_eq 4), natK_eq]
theorem setBK_eq {α : Type} : ∀ (l : List (Nat × Blk)) (b : Nat) (k : Blk) (K : List (Nat × Blk) → α), setBK l b k K = K (setB l b k)
  | [], b, k, K => by simp [setBK, setB, natK_eq]
  | (i, k') :: l, b, k, K => by
    unfold setBK setB
    split
    · rename_i h; subst h; rfl
    · simp [setBK_eq l]
theorem setBsK_eq {α : Type} : ∀ (bs l : List (Nat × Blk)) (K : List (Nat × Blk) → α), setBsK l bs K = K (setBs l bs)
  | [], _, _ => rfl
  | (b, k) :: bs, l, K => by simp [setBsK, setBs, blkK_eq, setBK_eq, setBsK_eq bs]
theorem blksK_eq {α : Type} : ∀ (l : List (Nat × Blk)) (K : List (Nat × Blk) → α), blksK l K = K l
  | [], _ => rfl
  | (b, k) :: l, K => by simp [blksK, blkK_eq, natK_eq, blksK_eq l]
theorem St.allK_eq {α : Type} (q : Bool) (st : St) (k : St → α) : st.allK q k = k st := by cases q <;> simp [St.allK, listK_eq (lvK_eq 4), blksK_eq]
theorem St.appE_eq {α : Type} (st : St) (dst : Option Nat) (p : Upd) (k : St → α) : st.appE dst p k = k (st.app dst p) := by
  unfold St.appE St.app St.pre
  rcases p with ⟨g, c, u, bs⟩
  cases g <;> cases c <;> simp [St.allK_eq, putTK_eq, setBsK_eq]
theorem St.appK_eq {α : Type} (q : Bool) (st : St) (dst : Option Nat) (p : Upd) (k : St → α) : st.appK q dst p k = k (st.app dst p) := by
  cases q
  · rfl
  · exact St.appE_eq st dst p k

def St.calmAll (st : St) : List (Nat × Blk) → St
  | [] => st
  | (b, _) :: l => (st.calmO b).calmAll l

def makes : Op → Bool
  | .alloc _ | .box _ _ | .buildSlice _ _ _ | .makeSlice _ _ _ => true
  | .call { callee := .value _, .. } => true
  | _ => false
/-- Blocks that the region is about to make anew stay as they were. -/
def stale (ops : List Oper) (st : St) : List (Nat × Blk) := st.blks.filter fun p => ops.any fun o => makes o.op && o.dst == some (p.1 / 8)
def ready (ops : List Oper) (st : St) : St := st.calmAll (stale ops st)
def readyK {α : Type} (q : Bool) (ops : List Oper) (st : St) (k : St → α) : α :=
  match stale ops st with
  | [] => k st
  | l => (st.calmAll l).allK q k
theorem readyK_eq {α : Type} (q : Bool) (ops : List Oper) (st : St) (k : St → α) : readyK q ops st k = k (ready ops st) := by
  unfold readyK ready
  split
  · rename_i h; rw [h]; rfl
  · rw [St.allK_eq]

def layOne (x : Cont) (off : Nat) (y : Cont) : Option Cont :=
  match y with
  | .flat k [n] => x.put off (.v (.int k n))
  | .gen [u] => x.put off u
  | y => x.lay off y

def appOk (z z' by_ cnt : Nat) (zc : Cont) : Bool := decide (z = z') && decide (cnt * by_ ≤ 140737488355328) && decide (cnt ≤ 9223372036854775807) && decide (0 < z) && decide (zc.len = z)
def Cont.free (B : Nat) : Cont → Bool
  | .flat _ _ => true
  | .gen l => l.all fun u => !u.ment B mentD
def newB (β : Nat → Option Blk) (d : Nat) : Option Nat := if (β (8 * d)).isSome then some (8 * d) else none
def appX (E : Env) (β : Nat → Option Blk) (d t : Nat) (s : LV) (y : Cont) (cnt : Nat) : Option Upd :=
  match E.T t with
  | some ⟨.slice e z, _, _, _, _⟩ => match E.T e with
    | some ⟨_, _, by_, _, some zc⟩ =>
      match s with
      | .v (.slice none 0 0) => if appOk z z by_ cnt zc ∧ ((newB β d).isNone || y.free (8 * d)) = true then some ⟨none, newB β d, .sl z (8 * d) 0 cnt none, [(8 * d, ⟨y, e, true⟩)]⟩ else none
      | .sl z' b 0 n none => match β b with
        | some k => if appOk z z' by_ (n + cnt) zc ∧ k.x.len = n * z ∧ k.spare = true ∧ k.e = e ∧ k.x.free b = true ∧ y.free b = true then
            some ⟨some b, none, .sl z b 0 (n + cnt) none, [(b, ⟨k.x.app y, e, true⟩)]⟩ else none
        | none => none
      | .sl z' b 0 n (some c) => match β b with
        | some k => if appOk z z' by_ (n + cnt) zc ∧ k.e = e then
            if n + cnt ≤ c then match layOne k.x (n * z) y with
              | some x => some ⟨none, none, .sl z b 0 (n + cnt) (some c), [(b, ⟨x, k.e, k.spare⟩)]⟩
              | none => none
            else match k.x.cut 0 (n * z) with
              | some x => if ((newB β d).isNone || (x.free (8 * d) && y.free (8 * d))) = true then some ⟨none, newB β d, .sl z (8 * d) 0 (n + cnt) none, [(8 * d, ⟨x.app y, e, true⟩)]⟩ else none
              | none => none
          else none
        | none => none
      | .im z' n (some c) x => if appOk z z' by_ (n + cnt) zc ∧ c < n + cnt ∧ ((newB β d).isNone || (x.free (8 * d) && y.free (8 * d))) = true then
          some ⟨none, newB β d, .sl z (8 * d) 0 (n + cnt) none, [(8 * d, ⟨x.app y, e, true⟩)]⟩ else none
      | _ => none
    | _ => none
  | _ => none

/-! Operations that write. -/
def opStore (E : Env) (β : Nat → Option Blk) (t : Nat) (p u : LV) : Option Upd :=
  match p with
  | .ptr b off => match E.T t, u.cells, β b with
    | some ti, some y, some k => if y.len = ti.size then match layOne k.x off y with
      | some x => some ⟨none, none, noVal, [(b, ⟨x, k.e, k.spare⟩)]⟩
      | none => none else none
    | _, _, _ => none
  | _ => none
def opAppend (E : Env) (β : Nat → Option Blk) (d t : Nat) (s x : LV) : Option Upd :=
  match E.T t with
  | some ⟨.slice _ z, _, _, _, _⟩ => match shown β z x with
    | some (y, cnt) => if y.leaves then appX E β d t s y cnt else none
    | none => none
  | _ => none
def opCopy (E : Env) (β : Nat → Option Blk) (t : Nat) (s x : LV) : Option Upd :=
  match E.T t, s with
  | some ⟨.slice _ z', _, _, _, _⟩, .sl z b off n _ => match shown β z x, β b with
    | some (y, cnt), some k => if z = z' ∧ y.leaves then match y.cut 0 (min cnt n * z) with
      | some y => match k.x.lay off y with
        | some x => some ⟨none, none, .v (.int .i64 (min cnt n : Nat)), [(b, ⟨x, k.e, k.spare⟩)]⟩
        | none => none
      | none => none else none
    | _, _ => none
  | _, _ => none
def mopX (E : Env) (β : Nat → Option Blk) (dst : Option Nat) (op : Op) (xs : List LV) : Option Upd :=
  match op, xs with
  | .store t _ _, [p, u] => opStore E β t p u
  | .call c, [s, x] => match c.callee, c.argTypes.toList with
    | .builtin .append, [t, t'] => match dst with
      | some d => if t = t' then opAppend E β d t s x else none
      | none => none
    | .builtin .copy, [t, t'] => if t = t' then opCopy E β t s x else none
    | _, _ => none
  | _, _ => none

/-- Whether an operation is to be carried out (none: it is not known). -/
def wantL (ops : List Oper) (ρ : Nat → LV) (o : Oper) : Option Bool :=
  match o.guard with
  | none => some true
  | some (j, want) => match (ops[j]?).bind (·.dst) with
    | some d => match ρ d with
      | .v (.bool b) => some (b == want)
      | .tup [] => some false
      | _ => none
    | none => none

/-- None of the blocks that an operation may make is there. -/
def freshD (st : St) (o : Oper) : Bool := !makes o.op || match o.dst with
  | some d => st.blks.all fun p => p.1 / 8 != d
  | none => true
def opStep (E : Env) (ops : List Oper) (st : St) (o : Oper) : Option Upd :=
  match wantL ops st.slot o with
  | some true => if freshD st o then match vop E st.slot st.blk (o.dst.getD 0) o.op with
    | some (u, bs) => some ⟨none, none, u, if o.dst.isSome then bs else []⟩
    | none => match optMap (evalO st.slot) (opers o.op) with
      | some xs => mopX E st.blk o.dst o.op xs
      | none => none else none
  | some false => some ⟨none, none, noVal, []⟩
  | none => none
def opSteps (E : Env) (ops : List Oper) : List Oper → St → Option St
  | [], st => some st
  | o :: l, st => match opStep E ops st o with
    | some p => st.appK E.eager o.dst p fun st => opSteps E ops l st
    | none => none

/-- The operations that each operation waits for, directly or not, as bits. -/
def deps : List Oper → List Nat → List Nat
  | [], acc => acc
  | o :: l, acc => natK (o.after.toList.foldl (fun s e => if Region.binds .any e then s ||| (1 <<< e.on) ||| acc.getD e.on 0 else s) 0) fun m => deps l (acc ++ [m])
/-- Whether slot t is none that an operation makes which is not among the bits m. -/
def vis (ops : List Oper) (S : Nat → Bool) (t : Nat) : Bool := (List.range ops.length).all fun j => ((ops[j]?).bind (·.dst) != some t) || S j
def freshA (st : St) (o : Oper) : Bool := match o.dst with
  | some d => st.blks.all fun p => p.1 / 8 != d
  | none => true
def preStep (E : Env) (ops pre : List Oper) (m : Nat) (st : St) (o : Oper) : Option Upd :=
  let ρ := fun t => if vis pre (Nat.testBit m) t then st.slot t else .poison
  let β := fun b => if vis pre (Nat.testBit m) (b / 8) then st.blk b else none
  match wantL ops ρ o with
  | some true => if freshA st o then match vop E ρ β (o.dst.getD 0) o.op with
    | some (u, bs) => some ⟨none, none, u, if o.dst.isSome then bs else []⟩
    | none => none else none
  | some false => if freshA st o then some ⟨none, none, noVal, []⟩ else none
  | none => none
def preSteps (E : Env) (ops pre : List Oper) : List Nat → List Oper → St → Option St
  | m :: ms, o :: l, st => match preStep E ops pre m st o with
    | some p => st.appK E.eager o.dst p fun st => preSteps E ops pre ms l st
    | none => none
  | _, _, st => some st
/-- What a region whose order is drawn must keep: no slot written twice, no edge forward. -/
def regB (ops : List Oper) : Bool :=
  ((List.range ops.length).all fun i => (List.range ops.length).all fun j => i == j || match ops[i]?, ops[j]? with
    | some o, some p => o.dst.isNone || o.dst != p.dst
    | _, _ => true) &&
  (List.range ops.length).all fun i => match ops[i]? with
    | some o => o.after.toList.all fun e => decide (e.on < i)
    | none => true
/-- From where on each operation waits for all before it. -/
def tailAt (ds : List Nat) : Nat → Nat
  | 0 => 0
  | n + 1 => if ds.getD n 0 == 2 ^ n - 1 then tailAt ds n else n + 1
def runR (E : Env) (ops : List Oper) (draw : Bool) (st : St) : Option St :=
  if draw then
    let ds := deps ops []
    let n := tailAt ds ops.length
    if regB ops then readyK E.eager ops st fun st => match preSteps E ops (ops.take n) (ds.take n) (ops.take n) st with
    | some st => opSteps E ops (ops.drop n) st
    | none => none
    else none
  else readyK E.eager ops st fun st => opSteps E ops ops st

inductive Ex where
  | norm
  | exit (id : Nat)
  | ret
def loopN (body : St → Option (Ex × St)) : Nat → St → Option (Ex × St)
  | 0, _ => none
  | n + 1, st => match body st with
    | some (.norm, st) => loopN body n st
    | r => r
def runC (E : Env) (fuel : Nat) : Code → St → Option (Ex × St)
  | .skip, st => some (.norm, st)
  | .label _, st => some (.norm, st)
  | .region _ ops draw, st => (runR E ops.toList draw st).map fun st => (.norm, st)
  | .seq a b, st => match runC E fuel a st with
    | some (.norm, st) => runC E fuel b st
    | r => r
  | .cond c a b, st => match evalO st.slot c with
    | some (.v (.bool true)) => runC E fuel a st
    | some (.v (.bool false)) => runC E fuel b st
    | _ => none
  | .block id b, st => match runC E fuel b st with
    | some (.exit i, st) => if i = id then some (.norm, st) else some (.exit i, st)
    | r => r
  | .loop b, st => loopN (runC E fuel b) fuel st
  | .scope b, st => runC E fuel b st
  | .exit id, st => some (.exit id, st)
  | .ret, st => some (.ret, st)
  | _, _ => none

/-- The block that goes over to the caller with a result. -/
def ownedB (β : Nat → Option Blk) (u : LV) : Option Nat :=
  match u with
  | .sl z b 0 n c => match β b with
    | some k => if n * z ≤ k.x.len ∧ (c = none ∨ (k.spare = false ∧ c.map (· * z) = some k.x.len)) then some b else none
    | none => none
  | _ => none
def hideB (bs : List Nat) (β : Nat → Option Blk) : Nat → Option Blk := fun b => if bs.contains b then none else β b
/-- What a result's slot gives to the caller. -/
def resSlot (β β' : Nat → Option Blk) (u : LV) : Option RC :=
  match ownedB β u with
  | some b => match u, β b with
    | .sl z _ _ n _, some k => match k.x.cut 0 (n * z) with
      | some (.flat j l) => some (.own z n k.e (.flat j l))
      | some (.gen l) => match optMap (expo β' expoD) l with
        | some l => some (.own z n k.e (.gen l))
        | none => none
      | none => none
    | _, _ => none
  | none => match expo β' expoD u with
    | some u => some (.val u)
    | none => none
def fstO (x : Out) : Option LV :=
  match x with
  | some (u, _) => some u
  | none => none
def resVar (E : Env) (st : St) : ResultVar → Option LV
  | .tmp t => some (st.slot t)
  | .cell p t => match st.slot p, E.T t with
    | .ptr b off, some ti => match st.blk b with
      | some k => fstO (loadC k.x off ti.size ti.agg)
      | none => none
    | _, _ => none
/-- No block goes over twice. -/
def apartR (β : Nat → Option Blk) (us : List LV) : Bool :=
  (List.range us.length).all fun i => (List.range us.length).all fun j => i == j || match us[i]?, us[j]? with
    | some u, some v => (ownedB β u).isNone || ownedB β u != ownedB β v
    | _, _ => true
def packR : List RC → LRes
  | [c] => .one c
  | cs => .many cs
def resOf (E : Env) (st : St) (rs : List ResultVar) : Option LRes :=
  match optMap (resVar E st) rs with
  | none => none
  | some us => if apartR st.blk us then match optMap (resSlot st.blk (hideB (us.filterMap (ownedB st.blk)) st.blk)) us with
    | none => none
    | some cs => some (packR cs) else none
def enterL (fn : Func) (args : List LV) : St := ⟨args ++ List.replicate (fn.ntmps - args.length) noVal, []⟩
def runF (E : Env) (fuel : Nat) (fn : Func) (args : List LV) : Option LRes :=
  match fn.body with
  | some c => match (enterL fn args).allK E.eager fun st => runC E fuel c st with
    | some (.norm, st) => resOf E st fn.results.toList
    | some (.ret, st) => resOf E st fn.results.toList
    | _ => none
  | none => none
/-- Calls down to depth n, each function by its text, but for those that o knows. -/
def evalF (q : Bool) (T : Nat → Option TI) (fns : Nat → Option Func) (o : Nat → List LV → Option LRes) (fuel : Nat) : Nat → Nat → List LV → Option LRes
  | 0, _, _ => none
  | n + 1, f, args => match o f args with
    | some r => some r
    | none => match fns f with
      | some fn => runF ⟨T, evalF q T fns o fuel n, q⟩ fuel fn args
      | none => none
end Go.Proofs.Ytcmceadekcfpbaa
