/-
  A machine of plain values, for functions that read their arguments and make new memory: its values, its memory and its operations. What it answers, the program answers (XM3 and on).
-/
import Derived.Test.YtcmceadekcfpbaaBase
import Derived.Laws.BytesArg
import Derived.Scope
namespace Go.Proofs.Ytcmceadekcfpbaa
open Go.RowKit

mutual
/-- A value: a scalar; a string; an address in a block of the call's own; an address of what stays as it is; a slice of a block of the call's own; a slice of what stays; a struct or an array; results; nothing that is known. -/
inductive LV where
  | v (x : Value)
  | str (l : List Int)
  | ptr (b off : Nat)
  | imp (x : Cont)
  | sl (z b off n : Nat) (c : Option Nat)
  | im (z n : Nat) (c : Option Nat) (x : Cont)
  | agg (x : Cont)
  | tup (l : List LV)
  | iface (t : Nat) (x : LV)
  | poison
/-- Cells. -/
inductive Cont where
  | flat (k : IntKind) (l : List Int)
  | gen (l : List LV)
end

def Cont.vals : Cont → List LV
  | .flat k l => l.map fun n => .v (.int k n)
  | .gen l => l
def Cont.len : Cont → Nat
  | .flat _ l => l.length
  | .gen l => l.length
def Cont.at? (x : Cont) (i : Nat) : Option LV :=
  match x with
  | .flat k l => if i < l.length then some (.v (.int k (l.getD i 0))) else none
  | .gen l => l[i]?
def Cont.put (x : Cont) (i : Nat) (u : LV) : Option Cont :=
  match x with
  | .flat k l => match u with
    | .v (.int k' n) => if k = k' ∧ i < l.length then some (.flat k (l.set i n)) else none
    | _ => none
  | .gen l => if i < l.length then some (.gen (l.set i u)) else none
def Cont.cut (x : Cont) (o n : Nat) : Option Cont :=
  if o = 0 ∧ n = x.len then some x else
  if o + n ≤ x.len then some (match x with
    | .flat k l => .flat k ((l.drop o).take n)
    | .gen l => .gen ((l.drop o).take n)) else none
def Cont.lay (x : Cont) (o : Nat) (y : Cont) : Option Cont :=
  if o + y.len ≤ x.len then
    match x, y with
    | .flat k l, .flat k' m => if k = k' then some (.flat k (l.take o ++ m ++ l.drop (o + m.length))) else none
    | .gen l, y => some (.gen (l.take o ++ y.vals ++ l.drop (o + y.len)))
    | _, _ => none
  else none
def Cont.app (x y : Cont) : Cont :=
  match x, y with
  | .flat k l, .flat k' m => if k = k' then .flat k (l ++ m) else .gen ((Cont.flat k l).vals ++ (Cont.flat k' m).vals)
  | .flat k l, .gen [] => .flat k l
  | .gen [], y => y
  | x, y => .gen (x.vals ++ y.vals)

def flatOf : List LV → Option (IntKind × List Int)
  | [] => none
  | u :: rest => match u with
    | .v (.int k n) => match rest with
      | [] => some (k, [n])
      | _ :: _ => match flatOf rest with
        | some (k', l) => if k = k' then some (k, n :: l) else none
        | none => none
    | _ => none
def mkCont (l : List LV) : Cont :=
  match flatOf l with
  | some (k, l) => .flat k l
  | none => .gen l

def LV.leaf : LV → Bool
  | .agg _ | .tup _ | .poison => false
  | _ => true
def Cont.leaves : Cont → Bool
  | .flat _ _ => true
  | .gen l => l.all LV.leaf
/-- The cells of a value. -/
def LV.cells : LV → Option Cont
  | .agg x => if x.leaves then some x else none
  | .v (.int k n) => some (.flat k [n])
  | u => if u.leaf then some (.gen [u]) else none

/-- A value that bears no address and is one cell, and no string. -/
def plain : Value → Bool
  | .bool _ | .int _ _ | .float _ _ | .complex _ _ _ | .pointer none | .slice none 0 0 | .map none | .chan none | .nilFunc | .nilIface => true
  | .func _ a b => a.isEmpty && b.isEmpty
  | _ => false
def lvOf : Value → Option LV
  | .string s => some (.str (s.data.toList.map fun b => (b.toNat : Int)))
  | x => if plain x then some (.v x) else none

/-! types -/

inductive TD where
  | int (k : IntKind)
  | bool
  | str
  | slice (e z : Nat)
  | arr (n e z : Nat)
  | struct (fs : List (Nat × Nat × Bool))
  | ptr
  | other
structure TI where
  d : TD
  size : Nat
  bytes : Nat
  agg : Bool
  zero : Option Cont

def isAggD : TypeDesc → Bool
  | .struct _ | .array _ _ => true
  | _ => false
def optMap {α β : Type} (f : α → Option β) : List α → Option (List β)
  | [] => some []
  | x :: l => match f x, optMap f l with
    | some y, some l => some (y :: l)
    | _, _ => none
def tdOf (P : Program) : TypeDesc → Option TD
  | .int k => some (.int k)
  | .bool => some .bool
  | .string => some .str
  | .slice e => (P.info? e).map fun i => .slice e i.size
  | .array n e => (P.info? e).map fun i => .arr n e i.size
  | .struct fs => (optMap (fun f : Field => match P.info? f.type, P.underlying f.type with
      | some i, some u => some (f.offset, i.size, isAggD u)
      | _, _ => none) fs.toList).map .struct
  | .pointer _ => some .ptr
  | _ => some .other
def zeroCont (z : Value) : Option Cont := (optMap lvOf z.cells.toList).map mkCont
def tiOf (P : Program) (t : Nat) : Option TI :=
  match P.info? t, P.underlying t with
  | some i, some u => (tdOf P u).map fun d => { d := d, size := i.size, bytes := i.bytes, agg := isAggD u, zero := i.zero.bind zeroCont }
  | _, _ => none

/-! operations -/

/-- A block of the call's own: its cells, their type; whether there may be more room behind them. -/
structure Blk where
  x : Cont
  e : Nat
  spare : Bool

/-- One result: a value; or a slice whose block goes over to the caller. -/
inductive RC where
  | val (u : LV)
  | own (z n e : Nat) (x : Cont)
inductive LRes where
  | one (r : RC)
  | many (l : List RC)
def RC.out (id : Nat) : RC → LV × List (Nat × Blk)
  | .val u => (u, [])
  | .own z n e x => (.sl z id 0 n none, [(id, ⟨x, e, true⟩)])
def outAll : Nat → List RC → List LV × List (Nat × Blk)
  | _, [] => ([], [])
  | id, r :: l => ((r.out id).1 :: (outAll (id + 1) l).1, (r.out id).2 ++ (outAll (id + 1) l).2)
def LRes.out (d : Nat) : LRes → Option (LV × List (Nat × Blk))
  | .one r => some (r.out (8 * d))
  | .many l => if l.length ≤ 8 then some (.tup (outAll (8 * d) l).1, (outAll (8 * d) l).2) else none

structure Env where
  T : Nat → Option TI
  orc : Nat → List LV → Option LRes
  eager : Bool

/-- What the caller's memory holds, without addresses in it. -/
def expo (β : Nat → Option Blk) : Nat → LV → Option LV
  | _, .v x => some (.v x)
  | _, .str l => some (.str l)
  | _, .imp x => some (.imp x)
  | _, .im z n c x => some (.im z n c x)
  | _, .agg (.flat k l) => some (.agg (.flat k l))
  | D + 1, .sl z b off n c => match β b with
    | some k => match k.x.cut off (n * z) with
      | some (.flat k l) => some (.im z n c (.flat k l))
      | some (.gen l) => (optMap (expo β D) l).map fun l => .im z n c (.gen l)
      | none => none
    | none => none
  | D + 1, .ptr b off => match β b with
    | some k => match k.x.cut off (k.x.len - off) with
      | some (.flat k l) => some (.imp (.flat k l))
      | some (.gen l) => (optMap (expo β D) l).map fun l => .imp (.gen l)
      | none => none
    | none => none
  | D + 1, .agg (.gen l) => (optMap (expo β D) l).map fun l => .agg (.gen l)
  | D + 1, .tup l => (optMap (expo β D) l).map .tup
  | D + 1, .iface t u => (expo β D u).map (.iface t)
  | _, _ => none
def expoD : Nat := 6

/-- Whether a value bears no address of a block of the call's own. -/
def LV.shut : Nat → LV → Bool
  | _, .v _ | _, .str _ | _, .imp _ | _, .im _ _ _ _ | _, .poison | _, .agg (.flat _ _) => true
  | D + 1, .agg (.gen l) | D + 1, .tup l => l.all (LV.shut D)
  | D + 1, .iface _ u => LV.shut D u
  | _, _ => false
/-- Whether a value bears no address at all. -/
def LV.pure : Nat → LV → Bool
  | _, .v _ | _, .str _ | _, .agg (.flat _ _) => true
  | D + 1, .agg (.gen l) | D + 1, .tup l => l.all (LV.pure D)
  | D + 1, .iface _ u => LV.pure D u
  | _, _ => false
def RC.pure : RC → Bool
  | .val u => u.pure 4
  | .own _ _ _ (.flat _ _) => true
  | .own _ _ _ (.gen l) => l.all (LV.pure 4)
def LRes.pure : LRes → Bool
  | .one r => r.pure
  | .many l => l.all RC.pure

def binI (op : BinOp) (k : IntKind) (a b : Int) : Option LV :=
  match op with
  | .add => some (.v (.int k (k.wrap (a + b))))
  | .sub => some (.v (.int k (k.wrap (a - b))))
  | .mul => some (.v (.int k (k.wrap (a * b))))
  | .quo => if b = 0 then none else some (.v (.int k (k.wrap (a.tdiv b))))
  | .rem => if b = 0 then none else some (.v (.int k (a.tmod b)))
  | .and => some (.v (.int k (bits .and k a b)))
  | .or => some (.v (.int k (bits .or k a b)))
  | .xor => some (.v (.int k (bits .xor k a b)))
  | .andNot => some (.v (.int k (bits .andNot k a b)))
  | .eql => some (.v (.bool (a == b)))
  | .neq => some (.v (.bool (a != b)))
  | .lss => some (.v (.bool (decide (a < b))))
  | .leq => some (.v (.bool (decide (a ≤ b))))
  | .gtr => some (.v (.bool (decide (a > b))))
  | .geq => some (.v (.bool (decide (a ≥ b))))
  | _ => none
def shiftI (op : BinOp) (k : IntKind) (a b : Int) : Option LV :=
  if b < 0 then none else
  match op with
  | .shl => some (.v (.int k (k.wrap (a * 2 ^ (min b.toNat k.bits)))))
  | .shr => some (.v (.int k (a.fdiv (2 ^ (min b.toNat k.bits)))))
  | _ => none
def byteOk (l : List Int) : Bool := l.all fun n => decide (0 ≤ n) && decide (n < 256)

def binV (op : BinOp) (x y : LV) : Option LV :=
  match op, x, y with
  | .shl, .v (.int k a), .v (.int _ b) => shiftI .shl k a b
  | .shr, .v (.int k a), .v (.int _ b) => shiftI .shr k a b
  | op, .v (.int k a), .v (.int k' b) => if k = k' then binI op k a b else none
  | .eql, .str a, .str b => if byteOk a && byteOk b then some (.v (.bool (a == b))) else none
  | .neq, .str a, .str b => if byteOk a && byteOk b then some (.v (.bool (!(a == b)))) else none
  | _, _, _ => none
def unV (op : UnOp) (x : LV) : Option LV :=
  match op, x with
  | .neg, .v (.int k n) => some (.v (.int k (k.wrap (0 - n))))
  | .xor, .v (.int k n) => some (.v (.int k (bits .xor k (if k.signed then -1 else k.max) n)))
  | .not, .v (.bool b) => some (.v (.bool (!b)))
  | _, _ => none

/-- The cells that a slice or string shows, and how many elements they are. -/
def shown (β : Nat → Option Blk) (z : Nat) : LV → Option (Cont × Nat)
  | .v (.slice none 0 0) => some (.gen [], 0)
  | .sl z' b off n _ => if z = z' then match β b with
    | some k => (k.x.cut off (n * z)).map fun y => (y, n)
    | none => none else none
  | .im z' n _ x => if z = z' then some (x, n) else none
  | _ => none
def convV (E : Env) (β : Nat → Option Blk) (src dst : Nat) (x : LV) : Option LV :=
  match E.T src, E.T dst, x with
  | some _, some ⟨.int k, _, _, _, _⟩, .v (.int _ n) => some (.v (.int k (k.wrap n)))
  | some ⟨.slice e _, _, _, _, _⟩, some ⟨.str, _, _, _, _⟩, x => match E.T e, shown β 1 x with
    | some ⟨.int .u8, _, _, _, _⟩, some (.flat .u8 l, n) => if byteOk l && l.length == n then some (.str l) else none
    | some ⟨.int .u8, _, _, _, _⟩, some (.gen [], _) => some (.str [])
    | _, _ => none
  | some ⟨.str, _, _, _, _⟩, some ⟨.str, _, _, _, _⟩, .str l => some (.str l)
  | _, _, _ => none

def pickInt : LV → Option Int
  | .v (.int _ n) => some n
  | _ => none
def inI (i : Int) (n : Nat) : Bool := decide (0 ≤ i) && decide (i < n)
def upI (i : Int) (n : Nat) : Bool := decide (0 ≤ i) && decide (i ≤ n)

/-- Cells laid at places of others. -/
def layAll (place : Nat → Option (Nat × Nat)) : Cont → List (Nat × LV) → Option Cont
  | x, [] => some x
  | x, (i, u) :: rest => match place i, u.cells with
    | some (off, size), some y => if y.len = size then match (match y with
        | .flat k [n] => x.put off (.v (.int k n))
        | .gen [u] => x.put off u
        | y => x.lay off y) with
      | some x => layAll place x rest
      | none => none else none
    | _, _ => none
def repCont (n : Nat) : Cont → Cont
  | .flat k l => .flat k ((List.replicate n l).flatten)
  | .gen l => .gen ((List.replicate n l).flatten)
def Cont.loose : Cont → Cont
  | .flat k l => .gen (Cont.flat k l).vals
  | .gen l => .gen l
def Cont.tight : Cont → Cont
  | .gen l => mkCont l
  | x => x

/-! Operations that leave the memory that was there as it is: a value, and the blocks that are made. -/
abbrev Out := Option (LV × List (Nat × Blk))
def just (u : Option LV) : Out :=
  match u with
  | some u => some (u, [])
  | none => none
def justA (x : Option Cont) : Out :=
  match x with
  | some x => some (.agg x, [])
  | none => none
def justP (x : Option Cont) : Out :=
  match x with
  | some x => some (.imp x, [])
  | none => none
def opAlloc (E : Env) (d t : Nat) : Out :=
  match E.T t with
  | some ⟨_, _, _, _, some z⟩ => some (.ptr (8 * d) 0, [(8 * d, ⟨z, t, false⟩)])
  | _ => none
def opBox (d t : Nat) (u : LV) : Out :=
  match u.cells with
  | some x => some (.ptr (8 * d) 0, [(8 * d, ⟨x, t, false⟩)])
  | none => none
def placeS (fs : List (Nat × Nat × Bool)) (i : Nat) : Option (Nat × Nat) :=
  match fs[i]? with
  | some f => some (f.1, f.2.1)
  | none => none
def opBuild (E : Env) (t : Nat) (is : List Nat) (xs : List LV) : Out :=
  match E.T t with
  | some ⟨.struct fs, _, _, _, some z⟩ => match layAll (placeS fs) z.loose (is.zip xs) with
    | some x => some (.agg x.tight, [])
    | none => none
  | some ⟨.arr _ _ s, _, _, _, some z⟩ => justA (layAll (fun i => some (i * s, s)) z (is.zip xs))
  | _ => none
def opBuildSlice (E : Env) (d t len : Nat) (is : List Nat) (xs : List LV) : Out :=
  match E.T t with
  | some ⟨.slice e s, _, _, _, _⟩ => match E.T e with
    | some ⟨_, _, _, _, some z⟩ => if len * s ≤ 16777216 ∧ 0 < s ∧ z.len = s then match layAll (fun i => some (i * s, s)) (repCont len z) (is.zip xs) with
        | some x => some (.sl s (8 * d) 0 len (some len), [(8 * d, ⟨x, e, false⟩)])
        | none => none else none
    | _ => none
  | _ => none
def loadC (x : Cont) (off s : Nat) (g : Bool) : Out := if g then justA (x.cut off s) else just (x.at? off)
def opLoad (E : Env) (β : Nat → Option Blk) (t : Nat) (u : LV) : Out :=
  match E.T t with
  | some ti => match u with
    | .ptr b off => match β b with
      | some k => loadC k.x off ti.size ti.agg
      | none => none
    | .imp x => loadC x 0 ti.size ti.agg
    | _ => none
  | none => none
def opNil (u : LV) : Out :=
  match u with
  | .ptr b off => some (.ptr b off, [])
  | .imp x => some (.imp x, [])
  | _ => none
def eqB (op : BinOp) (a b : Bool) : Option LV :=
  match op with
  | .eql => some (.v (.bool (a == b)))
  | .neq => some (.v (.bool (!(a == b))))
  | _ => none
def opBin (E : Env) (op : BinOp) (t : Nat) (x y : LV) : Out :=
  match x, y with
  | .v (.bool a), .v (.bool b) => match E.T t with
    | some ⟨.bool, _, _, _, _⟩ => just (eqB op a b)
    | _ => none
  | x, y => just (binV op x y)
def opFieldAddr (E : Env) (s f : Nat) (x : LV) : Out :=
  match E.T s with
  | some ⟨.struct fs, _, _, _, _⟩ => match fs[f]? with
    | some (o, z, _) => if z = 0 then none else match x with
      | .ptr b off => some (.ptr b (off + o), [])
      | .imp x => justP (x.cut o (x.len - o))
      | _ => none
    | none => none
  | _ => none
def opField (E : Env) (s f : Nat) (x : LV) : Out :=
  match E.T s with
  | some ⟨.struct fs, _, _, _, _⟩ => match fs[f]? with
    | some (o, z, g) => match x with
      | .agg x => loadC x o z g
      | _ => none
    | none => none
  | _ => none
def opIndexAddr (E : Env) (t : Nat) (x i : LV) : Out :=
  match E.T t, pickInt i with
  | some ⟨.arr n _ z, _, _, _, _⟩, some i => if inI i n then match x with
    | .ptr b off => some (.ptr b (off + i.toNat * z), [])
    | .imp x => justP (x.cut (i.toNat * z) (x.len - i.toNat * z))
    | _ => none else none
  | some ⟨.slice _ z, _, _, _, _⟩, some i => match x with
    | .sl z' b off n _ => if z = z' ∧ inI i n then some (.ptr b (off + i.toNat * z), []) else none
    | .im z' n _ x => if z = z' ∧ inI i n ∧ 0 < z then justP (x.cut (i.toNat * z) (x.len - i.toNat * z)) else none
    | _ => none
  | _, _ => none
def opIndex (E : Env) (t : Nat) (x i : LV) : Out :=
  match E.T t, pickInt i with
  | some ⟨.arr n e z, _, _, _, _⟩, some i => if inI i n then match E.T e, x with
    | some ti, .agg x => loadC x (i.toNat * z) z ti.agg
    | _, _ => none else none
  | _, _ => none
def opToArr (E : Env) (t : Nat) (x : LV) : Out :=
  match E.T t with
  | some ⟨.arr n _ z, _, _, _, _⟩ => match x with
    | .sl z' b off m _ => if z = z' ∧ n ≤ m ∧ 0 < n then some (.ptr b off, []) else none
    | .im z' m _ x => if z = z' ∧ n ≤ m ∧ 0 < n ∧ 0 < z then some (.imp x, []) else none
    | _ => none
  | _ => none
def opExtract (i : Nat) (x : LV) : Out :=
  match x with
  | .tup l => just l[i]?
  | _ => none
def opMakeSlice (E : Env) (d t : Nat) (l c : LV) : Out :=
  match pickInt l, pickInt c, E.T t with
  | some l, some c, some ⟨.slice e s, _, _, _, _⟩ => match E.T e with
    | some ⟨_, _, by_, _, some z⟩ => if 0 ≤ l ∧ l ≤ c ∧ c.toNat * by_ ≤ 281474976710656 ∧ c ≤ 9223372036854775807 ∧ 0 < s ∧ z.len = s then
        some (.sl s (8 * d) 0 l.toNat (some c.toNat), [(8 * d, ⟨repCont c.toNat z, e, false⟩)]) else none
    | _ => none
  | _, _, _ => none
/-- The bounds of a slice: low, high, max; of n elements with room for c. -/
def lowI (is : List Int) (lo : Bool) : Int := if lo then is.getD 0 0 else 0
def restI (is : List Int) (lo : Bool) : List Int := if lo then is.drop 1 else is
def highI (is : List Int) (hi : Bool) (n : Nat) : Int := if hi then is.getD 0 0 else n
def maxI (is : List Int) (mx : Bool) (c : Nat) : Int := if mx then is.getD 1 0 else c
def bounds (is : List Int) (lo hi mx : Bool) (n c : Nat) : Option (Nat × Nat × Nat) :=
  if 0 ≤ lowI is lo ∧ lowI is lo ≤ highI (restI is lo) hi n ∧ highI (restI is lo) hi n ≤ maxI (restI is lo) mx c ∧ maxI (restI is lo) mx c ≤ c ∧ (mx → hi) then
    some ((lowI is lo).toNat, (highI (restI is lo) hi n).toNat, (maxI (restI is lo) mx c).toNat) else none
def opSlice (E : Env) (t : Nat) (lo hi mx : Bool) (x : LV) (is : List LV) : Out :=
  match E.T t, optMap pickInt is with
  | some ⟨.arr n _ z, _, _, _, _⟩, some is => match bounds is lo hi mx n n, x with
    | some (l, h, m), .ptr b off => if n ≤ 9223372036854775807 then some (.sl z b (off + l * z) (h - l) (some (m - l)), []) else none
    | _, _ => none
  | some ⟨.slice _ z, _, _, _, _⟩, some is => match x with
    | .sl z' b off n c => if z = z' then match bounds is lo hi mx n (c.getD n) with
      | some (l, h, m) => some (.sl z b (off + l * z) (h - l) (if mx || c.isSome then some (m - l) else none), [])
      | none => none else none
    | .im z' n c x => if z = z' then match bounds is lo hi mx n (c.getD n) with
      | some (l, h, m) => if h ≤ n then match x.cut (l * z) ((h - l) * z) with
        | some y => some (.im z (h - l) (if mx || c.isSome then some (m - l) else none) y, [])
        | none => none else none
      | none => none else none
    | .v (.slice none 0 0) => match bounds is lo hi mx 0 0 with
      | some _ => some (.v (.slice none 0 0), [])
      | none => none
    | _ => none
  | _, _ => none
def opLen (E : Env) (t : Nat) (u : LV) : Out :=
  match E.T t with
  | some ⟨.slice _ _, _, _, _, _⟩ => match u with
    | .v (.slice none 0 0) => some (.v (.int .i64 0), [])
    | .sl _ _ _ n _ => some (.v (.int .i64 n), [])
    | .im _ n _ _ => some (.v (.int .i64 n), [])
    | _ => none
  | some ⟨.str, _, _, _, _⟩ => match u with
    | .str l => some (.v (.int .i64 l.length), [])
    | _ => none
  | _ => none
def opCall (E : Env) (β : Nat → Option Blk) (d f : Nat) (args : List LV) : Out :=
  match optMap (expo β expoD) args with
  | some ds => match E.orc f ds with
    | some r => if r.pure || args.all (LV.shut 6) then r.out d else none
    | none => none
  | none => none
def callX (E : Env) (β : Nat → Option Blk) (d : Nat) (c : Call) (xs : List LV) : Out :=
  match c.callee with
  | .value (.func f) => opCall E β d f xs.tail
  | .builtin .len => match xs, c.argTypes.toList with
    | [u], [t] => opLen E t u
    | _, _ => none
  | _ => none
def with1 (xs : List LV) (f : LV → Out) : Out :=
  match xs with
  | [x] => f x
  | _ => none
def with2 (xs : List LV) (f : LV → LV → Out) : Out :=
  match xs with
  | [x, y] => f x y
  | _ => none
def vopX (E : Env) (β : Nat → Option Blk) (d : Nat) (op : Op) (xs : List LV) : Out :=
  match op with
  | .move _ => with1 xs fun u => some (u, [])
  | .assign _ => with1 xs fun u => some (u, [])
  | .alloc t => opAlloc E d t
  | .box t _ => with1 xs fun u => opBox d t u
  | .build t ps => opBuild E t (ps.toList.map (·.1)) xs
  | .buildSlice t len ps => opBuildSlice E d t len (ps.toList.map (·.1)) xs
  | .load t _ => with1 xs fun u => opLoad E β t u
  | .nilCheck _ => with1 xs fun u => opNil u
  | .binOp op t _ _ _ => with2 xs fun x y => opBin E op t x y
  | .unOp op _ _ => with1 xs fun x => just (unV op x)
  | .convert src dst _ => with1 xs fun x => just (convV E β src dst x)
  | .fieldAddr s _ f => with1 xs fun x => opFieldAddr E s f x
  | .field s _ f => with1 xs fun x => opField E s f x
  | .indexAddr t _ _ => with2 xs fun x i => opIndexAddr E t x i
  | .index t _ _ => with2 xs fun x i => opIndex E t x i
  | .extract _ i => with1 xs fun x => opExtract i x
  | .sliceToArrayPointer t _ => with1 xs fun x => opToArr E t x
  | .makeSlice t _ _ => with2 xs fun l c => opMakeSlice E d t l c
  | .slice t _ lo hi mx => match xs with
    | x :: is => opSlice E t lo.isSome hi.isSome mx.isSome x is
    | [] => none
  | .call c => callX E β d c xs
  | _ => none

/-- The operands. -/
def opers : Op → List Operand
  | .alloc _ | .ready _ | .waits _ => []
  | .move x | .assign x | .box _ x | .load _ x | .nilCheck x | .unOp _ _ x | .convert _ _ x | .fieldAddr _ x _ | .field _ x _ | .extract x _ => [x]
  | .build _ ps | .buildSlice _ _ ps => ps.toList.map (·.2)
  | .store _ a v | .binOp _ _ a v _ | .makeSlice _ a v | .indexAddr _ a v | .index _ a v => [a, v]
  | .slice _ x l h m => x :: (l.toList ++ h.toList ++ m.toList)
  | .call { callee := .value f, args, .. } => f :: args.toList
  | .call { args, .. } => args.toList
  | op => op.operands.toList

def evalO (ρ : Nat → LV) : Operand → Option LV
  | .tmp t => match ρ t with
    | .poison => none
    | u => some u
  | .const v => lvOf v
  | .func f => some (.v (.func (.func f) #[] #[]))
  | .global _ => none

def vop (E : Env) (ρ : Nat → LV) (β : Nat → Option Blk) (d : Nat) (op : Op) : Option (LV × List (Nat × Blk)) :=
  match op with
  | .pick c a b => match evalO ρ c with
    | some (.v (.bool true)) => (evalO ρ a).map fun u => (u, [])
    | some (.v (.bool false)) => (evalO ρ b).map fun u => (u, [])
    | _ => none
  | op => match optMap (evalO ρ) (opers op) with
    | some xs => vopX E β d op xs
    | none => none
end Go.Proofs.Ytcmceadekcfpbaa
