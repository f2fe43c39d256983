import Derived.Laws.BytesArg
import Derived.Scope
import Derived.Test.YtdeigmjbcbjgeaaGreatDoorYcBase
namespace Go.Proofs.YtdeigmjbcbjgeaaGreatDoor
open Go.RowKit
mutual
inductive LV where
 | v (x : Value)
 | str (l : List Int)
 | ptr (b off : Nat)
 | imp (x : Cont)
 | sl (z b off n : Nat) (c : Option Nat)
 | im (z n : Nat) (c : Option Nat) (x : Cont)
 | agg (x : Cont)
 | tup (l : List LV)
 | iface (t : Nat) (x : LV)
 | fn (f : Nat) (l : List LV)
 | poison
inductive Cont where
 | flat (k : IntKind) (l : List Int)
 | gen (l : List LV)
end
def Cont.vals : Cont → List LV
 | .flat k l => l.map fun n => .v (.int k n)
 | .gen l => l
def Cont.len : Cont → Nat
 | .flat _ l => l.length
 | .gen l => l.length
def Cont.at? (x : Cont) (i : Nat) : Option LV :=
 match x with
 | .flat k l => if i < l.length then some (.v (.int k (l.getD i 0))) else none
 | .gen l => l[i]?
def Cont.put (x : Cont) (i : Nat) (u : LV) : Option Cont :=
 match x with
 | .flat k l => match u with
  | .v (.int k' n) => if k = k' ∧ i < l.length then some (.flat k (l.set i n)) else none
  | _ => none
 | .gen l => if i < l.length then some (.gen (l.set i u)) else none
def Cont.cut (x : Cont) (o n : Nat) : Option Cont :=
 if o = 0 ∧ n = x.len then some x else
 if o + n ≤ x.len then some (match x with
  | .flat k l => .flat k ((l.drop o).take n)
  | .gen l => .gen ((l.drop o).take n)) else none
def Cont.lay (x : Cont) (o : Nat) (y : Cont) : Option Cont :=
 if o + y.len ≤ x.len then
  match x, y with
  | .flat k l, .flat k' m => if k = k' then some (.flat k (l.take o ++ m ++ l.drop (o + m.length))) else none
  | .gen l, y => some (.gen (l.take o ++ y.vals ++ l.drop (o + y.len)))
  | _, _ => none
 else none
def Cont.app (x y : Cont) : Cont :=
 match x, y with
 | .flat k l, .flat k' m => if k = k' then .flat k (l ++ m) else .gen ((Cont.flat k l).vals ++ (Cont.flat k' m).vals)
 | .flat k l, .gen [] => .flat k l
 | .gen [], y => y
 | x, y => .gen (x.vals ++ y.vals)
def flatOf : List LV → Option (IntKind × List Int)
 | [] => none
 | u :: rest => match u with
  | .v (.int k n) => match rest with
   | [] => some (k, [n])
   | _ :: _ => match flatOf rest with
    | some (k', l) => if k = k' then some (k, n :: l) else none
    | none => none
  | _ => none
def mkCont (l : List LV) : Cont :=
 match flatOf l with
 | some (k, l) => .flat k l
 | none => .gen l
def LV.leaf : LV → Bool
 | .agg _ | .tup _ | .poison => false
 | _ => true
def Cont.leaves : Cont → Bool
 | .flat _ _ => true
 | .gen l => l.all LV.leaf
def LV.cells : LV → Option Cont
 | .agg x => if x.leaves then some x else none
 | .v (.int k n) => some (.flat k [n])
 | u => if u.leaf then some (.gen [u]) else none
def plain : Value → Bool
 | .bool _ | .int _ _ | .float _ _ | .complex _ _ _ | .pointer none | .slice none 0 0 | .map none | .chan none | .nilFunc | .nilIface => true
 | .func _ a b => a.isEmpty && b.isEmpty
 | _ => false
def lvOf : Value → Option LV
 | .string s => some (.str (s.data.toList.map fun b => (b.toNat : Int)))
 | x => if plain x then some (.v x) else none
inductive TD where
 | int (k : IntKind)
 | bool
 | str
 | slice (e z : Nat)
 | arr (n e z : Nat)
 | struct (fs : List (Nat × Nat × Bool))
 | ptr
 | other
structure TI where
 d : TD
 size : Nat
 bytes : Nat
 agg : Bool
 zero : Option Cont
def isAggD : TypeDesc → Bool
 | .struct _ | .array _ _ => true
 | _ => false
def optMap {α β : Type} (f : α → Option β) : List α → Option (List β)
 | [] => some []
 | x :: l => match f x, optMap f l with
  | some y, some l => some (y :: l)
  | _, _ => none
def tdOf (P : Program) : TypeDesc → Option TD
 | .int k => some (.int k)
 | .bool => some .bool
 | .string => some .str
 | .slice e => (P.info? e).map fun i => .slice e i.size
 | .array n e => (P.info? e).map fun i => .arr n e i.size
 | .struct fs => (optMap (fun f : Field => match P.info? f.type, P.underlying f.type with
   | some i, some u => some (f.offset, i.size, isAggD u)
   | _, _ => none) fs.toList).map .struct
 | .pointer _ => some .ptr
 | _ => some .other
def zeroCont (z : Value) : Option Cont := (optMap lvOf z.cells.toList).map mkCont
def tiOf (P : Program) (t : Nat) : Option TI :=
 match P.info? t, P.underlying t with
 | some i, some u => (tdOf P u).map fun d => { d := d, size := i.size, bytes := i.bytes, agg := isAggD u, zero := i.zero.bind zeroCont }
 | _, _ => none
structure Blk where
 x : Cont
 e : Nat
 spare : Bool
inductive RC where
 | val (u : LV)
 | own (z n e : Nat) (x : Cont)
 | optr (e : Nat) (x : Cont)
def RC.blk : RC → Option Blk
 | .val _ => none
 | .own _ _ e x => some ⟨x, e, true⟩
 | .optr e x => some ⟨x, e, false⟩
inductive LRes where
 | one (r : RC)
 | many (l : List RC)
def RC.out (id : Nat) : RC → LV × List (Nat × Blk)
 | .val u => (u, [])
 | .own z n e x => (.sl z id 0 n none, [(id, ⟨x, e, true⟩)])
 | .optr e x => (.ptr id 0, [(id, ⟨x, e, false⟩)])
def outAll : Nat → List RC → List LV × List (Nat × Blk)
 | _, [] => ([], [])
 | id, r :: l => ((r.out id).1 :: (outAll (id + 1) l).1, (r.out id).2 ++ (outAll (id + 1) l).2)
def LRes.out (d : Nat) : LRes → Option (LV × List (Nat × Blk))
 | .one r => some (r.out (8 * d))
 | .many l => if l.length ≤ 7 then some (.tup (outAll (8 * d) l).1, (outAll (8 * d) l).2) else none
structure Env where
 T : Nat → Option TI
 orc : Nat → List LV → Option LRes
 eager : Bool
 wk : Nat → Bool
 orw : Nat → List LV → List (Nat × Blk) → Option (LRes × List (Nat × Blk))
def noWk (_ : Nat) : Bool := false
def noOrw (_ : Nat) (_ : List LV) (_ : List (Nat × Blk)) : Option (LRes × List (Nat × Blk)) := none
def expo (β : Nat → Option Blk) : Nat → LV → Option LV
 | _, .v x => some (.v x)
 | _, .str l => some (.str l)
 | _, .imp x => some (.imp x)
 | _, .im z n c x => some (.im z n c x)
 | _, .agg (.flat k l) => some (.agg (.flat k l))
 | D + 1, .sl z b off n c => match β b with
  | some k => match k.x.cut off (n * z) with
   | some (.flat k l) => some (.im z n c (.flat k l))
   | some (.gen l) => (optMap (expo β D) l).map fun l => .im z n c (.gen l)
   | none => none
  | none => none
 | D + 1, .ptr b off => match β b with
  | some k => match k.x.cut off (k.x.len - off) with
   | some (.flat k l) => some (.imp (.flat k l))
   | some (.gen l) => (optMap (expo β D) l).map fun l => .imp (.gen l)
   | none => none
  | none => none
 | D + 1, .agg (.gen l) => (optMap (expo β D) l).map fun l => .agg (.gen l)
 | D + 1, .tup l => (optMap (expo β D) l).map .tup
 | D + 1, .iface t u => (expo β D u).map (.iface t)
 | _, _ => none
def expoD : Nat := 6
def LV.shut : Nat → LV → Bool
 | _, .v _ | _, .str _ | _, .imp _ | _, .im _ _ _ _ | _, .poison | _, .agg (.flat _ _) => true
 | D + 1, .agg (.gen l) | D + 1, .tup l => l.all (LV.shut D)
 | D + 1, .iface _ u => LV.shut D u
 | _, _ => false
def LV.pure : Nat → LV → Bool
 | _, .v _ | _, .str _ | _, .agg (.flat _ _) => true
 | D + 1, .agg (.gen l) | D + 1, .tup l => l.all (LV.pure D)
 | D + 1, .iface _ u => LV.pure D u
 | _, _ => false
def RC.pure : RC → Bool
 | .val u => u.pure 4
 | .own _ _ _ (.flat _ _) => true
 | .own _ _ _ (.gen l) => l.all (LV.pure 4)
 | .optr _ (.flat _ _) => true
 | .optr _ (.gen l) => l.all (LV.pure 4)
def LRes.pure : LRes → Bool
 | .one r => r.pure
 | .many l => l.all RC.pure
def binI (op : BinOp) (k : IntKind) (a b : Int) : Option LV :=
 match op with
 | .add => some (.v (.int k (k.wrap (a + b))))
 | .sub => some (.v (.int k (k.wrap (a - b))))
 | .mul => some (.v (.int k (k.wrap (a * b))))
 | .quo => if b = 0 then none else some (.v (.int k (k.wrap (a.tdiv b))))
 | .rem => if b = 0 then none else some (.v (.int k (a.tmod b)))
 | .and => some (.v (.int k (bits .and k a b)))
 | .or => some (.v (.int k (bits .or k a b)))
 | .xor => some (.v (.int k (bits .xor k a b)))
 | .andNot => some (.v (.int k (bits .andNot k a b)))
 | .eql => some (.v (.bool (a == b)))
 | .neq => some (.v (.bool (a != b)))
 | .lss => some (.v (.bool (decide (a < b))))
 | .leq => some (.v (.bool (decide (a ≤ b))))
 | .gtr => some (.v (.bool (decide (a > b))))
 | .geq => some (.v (.bool (decide (a ≥ b))))
 | _ => none
def shiftI (op : BinOp) (k : IntKind) (a b : Int) : Option LV :=
 if b < 0 then none else
 match op with
 | .shl => some (.v (.int k (k.wrap (a * 2 ^ (min b.toNat k.bits)))))
 | .shr => some (.v (.int k (a.fdiv (2 ^ (min b.toNat k.bits)))))
 | _ => none
def byteOk (l : List Int) : Bool := l.all fun n => decide (0 ≤ n) && decide (n < 256)
def binV (op : BinOp) (x y : LV) : Option LV :=
 match op, x, y with
 | .shl, .v (.int k a), .v (.int _ b) => shiftI .shl k a b
 | .shr, .v (.int k a), .v (.int _ b) => shiftI .shr k a b
 | op, .v (.int k a), .v (.int k' b) => if k = k' then binI op k a b else none
 | .eql, .str a, .str b => if byteOk a && byteOk b then some (.v (.bool (a == b))) else none
 | .neq, .str a, .str b => if byteOk a && byteOk b then some (.v (.bool (!(a == b)))) else none
 | _, _, _ => none
def unV (op : UnOp) (x : LV) : Option LV :=
 match op, x with
 | .neg, .v (.int k n) => some (.v (.int k (k.wrap (0 - n))))
 | .xor, .v (.int k n) => some (.v (.int k (bits .xor k (if k.signed then -1 else k.max) n)))
 | .not, .v (.bool b) => some (.v (.bool (!b)))
 | _, _ => none
def shown (β : Nat → Option Blk) (z : Nat) : LV → Option (Cont × Nat)
 | .v (.slice none 0 0) => some (.gen [], 0)
 | .sl z' b off n _ => if z = z' then match β b with
  | some k => (k.x.cut off (n * z)).map fun y => (y, n)
  | none => none else none
 | .im z' n _ x => if z = z' then some (x, n) else none
 | _ => none
def convV (E : Env) (β : Nat → Option Blk) (src dst : Nat) (x : LV) : Option LV :=
 match E.T src, E.T dst, x with
 | some _, some ⟨.int k, _, _, _, _⟩, .v (.int _ n) => some (.v (.int k (k.wrap n)))
 | some ⟨.slice e _, _, _, _, _⟩, some ⟨.str, _, _, _, _⟩, x => match E.T e, shown β 1 x with
  | some ⟨.int .u8, _, _, _, _⟩, some (.flat .u8 l, n) => if byteOk l && l.length == n then some (.str l) else none
  | some ⟨.int .u8, _, _, _, _⟩, some (.gen [], _) => some (.str [])
  | _, _ => none
 | some ⟨.str, _, _, _, _⟩, some ⟨.str, _, _, _, _⟩, .str l => some (.str l)
 | _, _, _ => none
def pickInt : LV → Option Int
 | .v (.int _ n) => some n
 | _ => none
def inI (i : Int) (n : Nat) : Bool := decide (0 ≤ i) && decide (i < n)
def layAll (place : Nat → Option (Nat × Nat)) : Cont → List (Nat × LV) → Option Cont
 | x, [] => some x
 | x, (i, u) :: rest => match place i, u.cells with
  | some (off, size), some y => if y.len = size then match (match y with
    | .flat k [n] => x.put off (.v (.int k n))
    | .gen [u] => x.put off u
    | y => x.lay off y) with
   | some x => layAll place x rest
   | none => none else none
  | _, _ => none
def repCont (n : Nat) : Cont → Cont
 | .flat k l => .flat k ((List.replicate n l).flatten)
 | .gen l => .gen ((List.replicate n l).flatten)
def Cont.loose : Cont → Cont
 | .flat k l => .gen (Cont.flat k l).vals
 | .gen l => .gen l
def Cont.tight : Cont → Cont
 | .gen l => mkCont l
 | x => x
abbrev Out := Option (LV × List (Nat × Blk))
def just (u : Option LV) : Out :=
 match u with
 | some u => some (u, [])
 | none => none
def justA (x : Option Cont) : Out :=
 match x with
 | some x => some (.agg x, [])
 | none => none
def justP (x : Option Cont) : Out :=
 match x with
 | some x => some (.imp x, [])
 | none => none
def opAlloc (E : Env) (d t : Nat) : Out :=
 match E.T t with
 | some ⟨_, _, _, _, some z⟩ => some (.ptr (8 * d) 0, [(8 * d, ⟨z, t, false⟩)])
 | _ => none
def opBox (d t : Nat) (u : LV) : Out :=
 match u.cells with
 | some x => some (.ptr (8 * d) 0, [(8 * d, ⟨x, t, false⟩)])
 | none => none
def placeS (fs : List (Nat × Nat × Bool)) (i : Nat) : Option (Nat × Nat) :=
 match fs[i]? with
 | some f => some (f.1, f.2.1)
 | none => none
def opBuild (E : Env) (t : Nat) (is : List Nat) (xs : List LV) : Out :=
 match E.T t with
 | some ⟨.struct fs, _, _, _, some z⟩ => match layAll (placeS fs) z.loose (is.zip xs) with
  | some x => some (.agg x.tight, [])
  | none => none
 | some ⟨.arr _ _ s, _, _, _, some z⟩ => justA (layAll (fun i => some (i * s, s)) z (is.zip xs))
 | _ => none
def opBuildSlice (E : Env) (d t len : Nat) (is : List Nat) (xs : List LV) : Out :=
 match E.T t with
 | some ⟨.slice e s, _, _, _, _⟩ => match E.T e with
  | some ⟨_, _, _, _, some z⟩ => if len * s ≤ 16777216 ∧ 0 < s ∧ z.len = s then match layAll (fun i => some (i * s, s)) (repCont len z) (is.zip xs) with
    | some x => some (.sl s (8 * d) 0 len (some len), [(8 * d, ⟨x, e, false⟩)])
    | none => none else none
  | _ => none
 | _ => none
def loadC (x : Cont) (off s : Nat) (g : Bool) : Out := if g then justA (x.cut off s) else just (x.at? off)
def opLoad (E : Env) (β : Nat → Option Blk) (t : Nat) (u : LV) : Out :=
 match E.T t with
 | some ti => match u with
  | .ptr b off => match β b with
   | some k => loadC k.x off ti.size ti.agg
   | none => none
  | .imp x => loadC x 0 ti.size ti.agg
  | _ => none
 | none => none
def opNil (u : LV) : Out :=
 match u with
 | .ptr b off => some (.ptr b off, [])
 | .imp x => some (.imp x, [])
 | _ => none
def eqB (op : BinOp) (a b : Bool) : Option LV :=
 match op with
 | .eql => some (.v (.bool (a == b)))
 | .neq => some (.v (.bool (!(a == b))))
 | _ => none
def eqL (op : BinOp) (a b : List Int) : Option LV :=
 match op with
 | .eql => some (.v (.bool (a == b)))
 | .neq => some (.v (.bool (!(a == b))))
 | _ => none
def opBin (E : Env) (op : BinOp) (t : Nat) (x y : LV) : Out :=
 match x, y with
 | .v (.bool a), .v (.bool b) => match E.T t with
  | some ⟨.bool, _, _, _, _⟩ => just (eqB op a b)
  | _ => none
 | .agg (.flat k a), .agg (.flat k' b) => match E.T t with
  | some ⟨.arr n e 1, _, _, _, _⟩ => match E.T e with
   | some ⟨.int _, _, _, false, _⟩ => if k = k' ∧ a.length = n ∧ b.length = n then just (eqL op a b) else none
   | _ => none
  | _ => none
 | x, y => just (binV op x y)
def opFieldAddr (E : Env) (s f : Nat) (x : LV) : Out :=
 match E.T s with
 | some ⟨.struct fs, _, _, _, _⟩ => match fs[f]? with
  | some (o, z, _) => if z = 0 then none else match x with
   | .ptr b off => some (.ptr b (off + o), [])
   | .imp x => justP (x.cut o (x.len - o))
   | _ => none
  | none => none
 | _ => none
def opField (E : Env) (s f : Nat) (x : LV) : Out :=
 match E.T s with
 | some ⟨.struct fs, _, _, _, _⟩ => match fs[f]? with
  | some (o, z, g) => match x with
   | .agg x => loadC x o z g
   | _ => none
  | none => none
 | _ => none
def opIndexAddr (E : Env) (t : Nat) (x i : LV) : Out :=
 match E.T t, pickInt i with
 | some ⟨.arr n _ z, _, _, _, _⟩, some i => if inI i n then match x with
  | .ptr b off => some (.ptr b (off + i.toNat * z), [])
  | .imp x => justP (x.cut (i.toNat * z) (x.len - i.toNat * z))
  | _ => none else none
 | some ⟨.slice _ z, _, _, _, _⟩, some i => match x with
  | .sl z' b off n _ => if z = z' ∧ inI i n then some (.ptr b (off + i.toNat * z), []) else none
  | .im z' n _ x => if z = z' ∧ inI i n ∧ 0 < z then justP (x.cut (i.toNat * z) (x.len - i.toNat * z)) else none
  | _ => none
 | _, _ => none
def opIndex (E : Env) (t : Nat) (x i : LV) : Out :=
 match E.T t, pickInt i with
 | some ⟨.arr n e z, _, _, _, _⟩, some i => if inI i n then match E.T e, x with
  | some ti, .agg x => loadC x (i.toNat * z) z ti.agg
  | _, _ => none else none
 | _, _ => none
def opToArr (E : Env) (t : Nat) (x : LV) : Out :=
 match E.T t with
 | some ⟨.arr n _ z, _, _, _, _⟩ => match x with
  | .sl z' b off m _ => if z = z' ∧ n ≤ m ∧ 0 < n then some (.ptr b off, []) else none
  | .im z' m _ x => if z = z' ∧ n ≤ m ∧ 0 < n ∧ 0 < z then some (.imp x, []) else none
  | _ => none
 | _ => none
def opExtract (i : Nat) (x : LV) : Out :=
 match x with
 | .tup l => just l[i]?
 | _ => none
def opMakeSlice (E : Env) (d t : Nat) (l c : LV) : Out :=
 match pickInt l, pickInt c, E.T t with
 | some l, some c, some ⟨.slice e s, _, _, _, _⟩ => match E.T e with
  | some ⟨_, _, by_, _, some z⟩ => if 0 ≤ l ∧ l ≤ c ∧ c.toNat * by_ ≤ 281474976710656 ∧ c ≤ 9223372036854775807 ∧ 0 < s ∧ z.len = s then
    some (.sl s (8 * d) 0 l.toNat (some c.toNat), [(8 * d, ⟨repCont c.toNat z, e, false⟩)]) else none
  | _ => none
 | _, _, _ => none
def lowI (is : List Int) (lo : Bool) : Int := if lo then is.getD 0 0 else 0
def restI (is : List Int) (lo : Bool) : List Int := if lo then is.drop 1 else is
def highI (is : List Int) (hi : Bool) (n : Nat) : Int := if hi then is.getD 0 0 else n
def maxI (is : List Int) (mx : Bool) (c : Nat) : Int := if mx then is.getD 1 0 else c
def bounds (is : List Int) (lo hi mx : Bool) (n c : Nat) : Option (Nat × Nat × Nat) :=
 if 0 ≤ lowI is lo ∧ lowI is lo ≤ highI (restI is lo) hi n ∧ highI (restI is lo) hi n ≤ maxI (restI is lo) mx c ∧ maxI (restI is lo) mx c ≤ c ∧ (mx → hi) then
  some ((lowI is lo).toNat, (highI (restI is lo) hi n).toNat, (maxI (restI is lo) mx c).toNat) else none
def opSlice (E : Env) (t : Nat) (lo hi mx : Bool) (x : LV) (is : List LV) : Out :=
 match E.T t, optMap pickInt is with
 | some ⟨.arr n _ z, _, _, _, _⟩, some is => match bounds is lo hi mx n n, x with
  | some (l, h, m), .ptr b off => if n ≤ 9223372036854775807 then some (.sl z b (off + l * z) (h - l) (some (m - l)), []) else none
  | _, _ => none
 | some ⟨.slice _ z, _, _, _, _⟩, some is => match x with
  | .sl z' b off n c => if z = z' then match bounds is lo hi mx n (c.getD n) with
   | some (l, h, m) => some (.sl z b (off + l * z) (h - l) (if mx || c.isSome then some (m - l) else none), [])
   | none => none else none
  | .im z' n c x => if z = z' then match bounds is lo hi mx n (c.getD n) with
   | some (l, h, m) => if h ≤ n then match x.cut (l * z) ((h - l) * z) with
    | some y => some (.im z (h - l) (if mx || c.isSome then some (m - l) else none) y, [])
    | none => none else none
   | none => none else none
  | .v (.slice none 0 0) => match bounds is lo hi mx 0 0 with
   | some _ => some (.v (.slice none 0 0), [])
   | none => none
  | _ => none
 | _, _ => none
def opLen (E : Env) (t : Nat) (u : LV) : Out :=
 match E.T t with
 | some ⟨.slice _ _, _, _, _, _⟩ => match u with
  | .v (.slice none 0 0) => some (.v (.int .i64 0), [])
  | .sl _ _ _ n _ => some (.v (.int .i64 n), [])
  | .im _ n _ _ => some (.v (.int .i64 n), [])
  | _ => none
 | some ⟨.str, _, _, _, _⟩ => match u with
  | .str l => some (.v (.int .i64 l.length), [])
  | _ => none
 | _ => none
def opCall (E : Env) (β : Nat → Option Blk) (d f : Nat) (args : List LV) : Out :=
 match E.wk f with
 | true => none
 | false => match optMap (expo β expoD) args with
  | some ds => match E.orc f ds with
   | some r => if r.pure || args.all (LV.shut 6) then r.out d else none
   | none => none
  | none => none
def opMin (xs : List LV) : Out :=
 match xs with
 | [.v (.int k a), .v (.int _ b)] => some (.v (.int k (if b < a then b else a)), [])
 | _ => none
def callX (E : Env) (β : Nat → Option Blk) (d : Nat) (c : Call) (xs : List LV) : Out :=
 match c.callee with
 | .value (.func f) => opCall E β d f xs.tail
 | .builtin .len => match xs, c.argTypes.toList with
  | [u], [t] => opLen E t u
  | _, _ => none
 | .builtin .min => opMin xs
 | _ => none
def with1 (xs : List LV) (f : LV → Out) : Out :=
 match xs with
 | [x] => f x
 | _ => none
def with2 (xs : List LV) (f : LV → LV → Out) : Out :=
 match xs with
 | [x, y] => f x y
 | _ => none
def vopX (E : Env) (β : Nat → Option Blk) (d : Nat) (op : Op) (xs : List LV) : Out :=
 match op with
 | .move _ => with1 xs fun u => some (u, [])
 | .assign _ => with1 xs fun u => some (u, [])
 | .alloc t => opAlloc E d t
 | .box t _ => with1 xs fun u => opBox d t u
 | .build t ps => opBuild E t (ps.toList.map (·.1)) xs
 | .buildSlice t len ps => opBuildSlice E d t len (ps.toList.map (·.1)) xs
 | .load t _ => with1 xs fun u => opLoad E β t u
 | .nilCheck _ => with1 xs fun u => opNil u
 | .binOp op t _ _ _ => with2 xs fun x y => opBin E op t x y
 | .unOp op _ _ => with1 xs fun x => just (unV op x)
 | .convert src dst _ => with1 xs fun x => just (convV E β src dst x)
 | .fieldAddr s _ f => with1 xs fun x => opFieldAddr E s f x
 | .field s _ f => with1 xs fun x => opField E s f x
 | .indexAddr t _ _ => with2 xs fun x i => opIndexAddr E t x i
 | .index t _ _ => with2 xs fun x i => opIndex E t x i
 | .extract _ i => with1 xs fun x => opExtract i x
 | .sliceToArrayPointer t _ => with1 xs fun x => opToArr E t x
 | .makeSlice t _ _ => with2 xs fun l c => opMakeSlice E d t l c
 | .slice t _ lo hi mx => match xs with
  | x :: is => opSlice E t lo.isSome hi.isSome mx.isSome x is
  | [] => none
 | .call c => callX E β d c xs
 | .makeFunc (.func f) first _ => if first.isEmpty then some (.fn f xs, []) else none
 | _ => none
def opers : Op → List Operand
 | .alloc _ | .ready _ | .waits _ => []
 | .move x | .assign x | .box _ x | .load _ x | .nilCheck x | .unOp _ _ x | .convert _ _ x | .fieldAddr _ x _ | .field _ x _ | .extract x _ => [x]
 | .build _ ps | .buildSlice _ _ ps => ps.toList.map (·.2)
 | .store _ a v | .binOp _ _ a v _ | .makeSlice _ a v | .indexAddr _ a v | .index _ a v => [a, v]
 | .slice _ x l h m => x :: (l.toList ++ h.toList ++ m.toList)
 | .call { callee := .value f, args, .. } => f :: args.toList
 | .call { args, .. } => args.toList
 | op => op.operands.toList
def globL : Nat → Option Cont
 | 0 => some (.flat .u8 [163, 120, 89, 19, 202, 77, 235, 117, 171, 216, 65, 65, 77, 10, 112, 0, 152, 232, 121, 119, 121, 64, 199, 140, 115, 254, 111, 43, 238, 108, 3, 82])
 | _ => none
def evalO (ρ : Nat → LV) : Operand → Option LV
 | .tmp t => match ρ t with
  | .poison => none
  | u => some u
 | .const v => lvOf v
 | .func f => some (.v (.func (.func f) #[] #[]))
 | .global g => (globL g).map LV.imp
def vop (E : Env) (ρ : Nat → LV) (β : Nat → Option Blk) (d : Nat) (op : Op) : Option (LV × List (Nat × Blk)) :=
 match op with
 | .pick c a b => match evalO ρ c with
  | some (.v (.bool true)) => (evalO ρ a).map fun u => (u, [])
  | some (.v (.bool false)) => (evalO ρ b).map fun u => (u, [])
  | _ => none
 | op => match optMap (evalO ρ) (opers op) with
  | some xs => vopX E β d op xs
  | none => none
end Go.Proofs.YtdeigmjbcbjgeaaGreatDoor
namespace Go.Proofs.YtdeigmjbcbjgeaaGreatDoor
open Go.RowKit
structure St where
 tmps : List LV
 blks : List (Nat × Blk)
def St.slot (st : St) (t : Nat) : LV := st.tmps.getD t .poison
def findB : List (Nat × Blk) → Nat → Option Blk
 | [], _ => none
 | (i, k) :: l, b => if i = b then some k else findB l b
def St.blk (st : St) (b : Nat) : Option Blk := findB st.blks b
def setB : List (Nat × Blk) → Nat → Blk → List (Nat × Blk)
 | [], b, k => [(b, k)]
 | (i, k') :: l, b, k => if i = b then (b, k) :: l else (i, k') :: setB l b k
def LV.ment (B : Nat) : Nat → LV → Bool
 | _, .v _ | _, .str _ | _, .imp _ | _, .im _ _ _ _ | _, .poison | _, .agg (.flat _ _) => false
 | _, .ptr b _ => b == B
 | _, .sl _ b _ _ _ => b == B
 | D + 1, .agg (.gen l) | D + 1, .tup l | D + 1, .fn _ l => l.any (LV.ment B D)
 | D + 1, .iface _ u => LV.ment B D u
 | _, _ => true
def mentD : Nat := 4
def LV.lose (B : Nat) (u : LV) : LV := if u.ment B mentD then .poison else u
def Cont.lose (B : Nat) : Cont → Cont
 | .flat k l => .flat k l
 | .gen l => .gen (l.map (LV.lose B))
def loseB (B : Nat) (l : List (Nat × Blk)) : List (Nat × Blk) := (l.filter fun p => p.1 != B).map fun p => (p.1, { p.2 with x := p.2.x.lose B })
def St.lose (B : Nat) (st : St) : St := ⟨st.tmps.map (LV.lose B), loseB B st.blks⟩
def LV.calm (B : Nat) (k : Blk) (u : LV) : LV :=
 match u with
 | .sl z b off n c => if b = B then match k.x.cut off (n * z) with
   | some (.flat k l) => .im z n c (.flat k l)
   | some (.gen l) => if l.all (LV.shut 6) then .im z n c (.gen l) else .poison
   | none => .poison else u
 | u => u.lose B
def Cont.calm (B : Nat) (k : Blk) : Cont → Cont
 | .flat k l => .flat k l
 | .gen l => .gen (l.map (LV.calm B k))
def St.calm (B : Nat) (k : Blk) (st : St) : St :=
 ⟨st.tmps.map (LV.calm B k), (st.blks.filter fun p => p.1 != B).map fun p => (p.1, { p.2 with x := p.2.x.calm B k })⟩
def noVal : LV := .tup []
structure Upd where
 gone : Option Nat
 calm : Option Nat
 u : LV
 bs : List (Nat × Blk)
def putT (l : List LV) (dst : Option Nat) (u : LV) : List LV :=
 match dst with
 | some d => l.set d u
 | none => l
def setBs (l : List (Nat × Blk)) : List (Nat × Blk) → List (Nat × Blk)
 | [] => l
 | p :: bs => setBs (setB l p.1 p.2) bs
def St.calmO (st : St) (b : Nat) : St :=
 match st.blk b with
 | some k => st.calm b k
 | none => st
def St.pre (st : St) (p : Upd) : St :=
 match p.gone, p.calm with
 | some B, _ => st.lose B
 | none, some B => st.calmO B
 | none, none => st
def St.app (st : St) (dst : Option Nat) (p : Upd) : St := ⟨putT (st.pre p).tmps dst p.u, setBs (st.pre p).blks p.bs⟩
def natK {α : Type} (n : Nat) (k : Nat → α) : α :=
 match n with
 | 0 => k 0
 | .succ m => k (.succ m)
def intK {α : Type} (n : Int) (k : Int → α) : α :=
 match n with
 | .ofNat m => natK m fun m => k (.ofNat m)
 | .negSucc m => natK m fun m => k (.negSucc m)
def intsK {α : Type} : List Int → (List Int → α) → α
 | [], k => k []
 | n :: l, k => intK n fun n => intsK l fun l => k (n :: l)
def optK {α : Type} (c : Option Nat) (k : Option Nat → α) : α :=
 match c with
 | some n => natK n fun n => k (some n)
 | none => k none
def listK {α : Type} (f : LV → (LV → α) → α) : List LV → (List LV → α) → α
 | [], k => k []
 | u :: l, k => f u fun u => listK f l fun l => k (u :: l)
def contK {α : Type} (f : LV → (LV → α) → α) (x : Cont) (k : Cont → α) : α :=
 match x with
 | .flat j l => intsK l fun l => k (.flat j l)
 | .gen l => listK f l fun l => k (.gen l)
def lvK {α : Type} : Nat → LV → (LV → α) → α
 | 0, u, k => k u
 | D + 1, u, k => match u with
  | .v (.int j n) => intK n fun n => k (.v (.int j n))
  | .v (.bool true) => k (.v (.bool true))
  | .v (.bool false) => k (.v (.bool false))
  | .ptr b off => natK b fun b => natK off fun off => k (.ptr b off)
  | .sl z b off n c => natK z fun z => natK b fun b => natK off fun off => natK n fun n => optK c fun c => k (.sl z b off n c)
  | .im z n c x => natK z fun z => natK n fun n => optK c fun c => contK (lvK D) x fun x => k (.im z n c x)
  | .imp x => contK (lvK D) x fun x => k (.imp x)
  | .agg x => contK (lvK D) x fun x => k (.agg x)
  | .tup l => listK (lvK D) l fun l => k (.tup l)
  | .str l => intsK l fun l => k (.str l)
  | u => k u
def putK {α : Type} : List LV → Nat → LV → (List LV → α) → α
 | [], _, _, k => k []
 | _ :: l, 0, u, k => k (u :: l)
 | x :: l, n + 1, u, k => putK l n u fun l => k (x :: l)
def putTK {α : Type} (l : List LV) (dst : Option Nat) (u : LV) (k : List LV → α) : α :=
 match dst with
 | some d => lvK 4 u fun u => putK l d u k
 | none => k l
def blkK {α : Type} (b : Blk) (k : Blk → α) : α :=
 match b.spare with
 | true => contK (lvK 4) b.x fun x => natK b.e fun e => k ⟨x, e, true⟩
 | false => contK (lvK 4) b.x fun x => natK b.e fun e => k ⟨x, e, false⟩
def setBK {α : Type} : List (Nat × Blk) → Nat → Blk → (List (Nat × Blk) → α) → α
 | [], b, k, K => natK b fun b => K [(b, k)]
 | (i, k') :: l, b, k, K => if i = b then K ((i, k) :: l) else setBK l b k fun l => K ((i, k') :: l)
def setBsK {α : Type} (l : List (Nat × Blk)) : List (Nat × Blk) → (List (Nat × Blk) → α) → α
 | [], K => K l
 | (b, k) :: bs, K => blkK k fun k => setBK l b k fun l => setBsK l bs K
def blksK {α : Type} : List (Nat × Blk) → (List (Nat × Blk) → α) → α
 | [], K => K []
 | (b, k) :: l, K => natK b fun b => blkK k fun k => blksK l fun l => K ((b, k) :: l)
def St.allK {α : Type} (q : Bool) (st : St) (k : St → α) : α :=
 match q with
 | true => listK (lvK 4) st.tmps fun ts => blksK st.blks fun bl => k ⟨ts, bl⟩
 | false => k st
def St.appE {α : Type} (st : St) (dst : Option Nat) (p : Upd) (k : St → α) : α :=
 match p.gone, p.calm with
 | some B, _ => (st.lose B).allK true fun st => putTK st.tmps dst p.u fun ts => setBsK st.blks p.bs fun bl => k ⟨ts, bl⟩
 | none, some B => (st.calmO B).allK true fun st => putTK st.tmps dst p.u fun ts => setBsK st.blks p.bs fun bl => k ⟨ts, bl⟩
 | none, none => putTK st.tmps dst p.u fun ts => setBsK st.blks p.bs fun bl => k ⟨ts, bl⟩
def St.appK {α : Type} (q : Bool) (st : St) (dst : Option Nat) (p : Upd) (k : St → α) : α :=
 match q with
 | true => st.appE dst p k
 | false => k (st.app dst p)
theorem natK_eq {α : Type} (n : Nat) (k : Nat → α) : natK n k = k n := by cases n <;> rfl
theorem intK_eq {α : Type} (n : Int) (k : Int → α) : intK n k = k n := by cases n <;> simp [intK, natK_eq]
theorem optK_eq {α : Type} (n : Option Nat) (k : Option Nat → α) : optK n k = k n := by cases n <;> simp [optK, natK_eq]
theorem intsK_eq {α : Type} : ∀ (l : List Int) (k : List Int → α), intsK l k = k l
 | [], _ => rfl
 | n :: l, k => by simp [intsK, intK_eq, intsK_eq l]
theorem listK_eq {α : Type} {f : LV → (LV → α) → α} (hf : ∀ u k, f u k = k u) : ∀ (l : List LV) (k : List LV → α), listK f l k = k l
 | [], _ => rfl
 | n :: l, k => by simp [listK, hf, listK_eq hf l]
theorem contK_eq {α : Type} {f : LV → (LV → α) → α} (hf : ∀ u k, f u k = k u) (x : Cont) (k : Cont → α) : contK f x k = k x := by
 cases x <;> simp [contK, intsK_eq, listK_eq hf]
theorem lvK_eq {α : Type} : ∀ (D : Nat) (u : LV) (k : LV → α), lvK D u k = k u
 | 0, _, _ => rfl
 | D + 1, u, k => by
  have ih := lvK_eq (α := α) D
  unfold lvK
  split <;> simp [natK_eq, intK_eq, optK_eq, contK_eq ih, listK_eq ih, intsK_eq]
theorem putK_eq {α : Type} : ∀ (l : List LV) (d : Nat) (u : LV) (k : List LV → α), putK l d u k = k (l.set d u)
 | [], _, _, _ => by simp [putK]
 | _ :: l, 0, u, k => by simp [putK]
 | x :: l, n + 1, u, k => by simp [putK, putK_eq l]
theorem putTK_eq {α : Type} (l : List LV) (dst : Option Nat) (u : LV) (k : List LV → α) : putTK l dst u k = k (putT l dst u) := by
 cases dst <;> simp [putTK, putT, lvK_eq, putK_eq]
theorem blkK_eq {α : Type} (b : Blk) (k : Blk → α) : blkK b k = k b := by
 rcases b with ⟨x, e, s⟩
 cases s <;> simp [blkK, contK_eq (lvK_eq 4), natK_eq]
theorem setBK_eq {α : Type} : ∀ (l : List (Nat × Blk)) (b : Nat) (k : Blk) (K : List (Nat × Blk) → α), setBK l b k K = K (setB l b k)
 | [], b, k, K => by simp [setBK, setB, natK_eq]
 | (i, k') :: l, b, k, K => by
  unfold setBK setB
  split
  ·rename_i h; subst h; rfl
  ·simp [setBK_eq l]
theorem setBsK_eq {α : Type} : ∀ (bs l : List (Nat × Blk)) (K : List (Nat × Blk) → α), setBsK l bs K = K (setBs l bs)
 | [], _, _ => rfl
 | (b, k) :: bs, l, K => by simp [setBsK, setBs, blkK_eq, setBK_eq, setBsK_eq bs]
theorem blksK_eq {α : Type} : ∀ (l : List (Nat × Blk)) (K : List (Nat × Blk) → α), blksK l K = K l
 | [], _ => rfl
 | (b, k) :: l, K => by simp [blksK, blkK_eq, natK_eq, blksK_eq l]
theorem St.allK_eq {α : Type} (q : Bool) (st : St) (k : St → α) : st.allK q k = k st := by cases q <;> simp [St.allK, listK_eq (lvK_eq 4), blksK_eq]
theorem St.appE_eq {α : Type} (st : St) (dst : Option Nat) (p : Upd) (k : St → α) : st.appE dst p k = k (st.app dst p) := by
 unfold St.appE St.app St.pre
 rcases p with ⟨g, c, u, bs⟩
 cases g <;> cases c <;> simp [St.allK_eq, putTK_eq, setBsK_eq]
theorem St.appK_eq {α : Type} (q : Bool) (st : St) (dst : Option Nat) (p : Upd) (k : St → α) : st.appK q dst p k = k (st.app dst p) := by
 cases q
 ·rfl
 ·exact St.appE_eq st dst p k
def St.calmAll (st : St) : List (Nat × Blk) → St
 | [] => st
 | (b, _) :: l => (st.calmO b).calmAll l
def makes : Op → Bool
 | .alloc _ | .box _ _ | .buildSlice _ _ _ | .makeSlice _ _ _ => true
 | .call { callee := .value _, .. } => true
 | _ => false
def stale (ops : List Oper) (st : St) : List (Nat × Blk) := st.blks.filter fun p => ops.any fun o => makes o.op && o.dst == some (p.1 / 8)
def ready (ops : List Oper) (st : St) : St := st.calmAll (stale ops st)
def readyK {α : Type} (q : Bool) (ops : List Oper) (st : St) (k : St → α) : α :=
 match stale ops st with
 | [] => k st
 | l => (st.calmAll l).allK q k
theorem readyK_eq {α : Type} (q : Bool) (ops : List Oper) (st : St) (k : St → α) : readyK q ops st k = k (ready ops st) := by
 unfold readyK ready
 split
 ·rename_i h; rw [h]; rfl
 ·rw [St.allK_eq]
def layOne (x : Cont) (off : Nat) (y : Cont) : Option Cont :=
 match y with
 | .flat k [n] => x.put off (.v (.int k n))
 | .gen [u] => x.put off u
 | y => x.lay off y
def appOk (z z' by_ cnt : Nat) (zc : Cont) : Bool := decide (z = z') && decide (cnt * by_ ≤ 140737488355328) && decide (cnt ≤ 9223372036854775807) && decide (0 < z) && decide (zc.len = z)
def Cont.free (B : Nat) : Cont → Bool
 | .flat _ _ => true
 | .gen l => l.all fun u => !u.ment B mentD
def newB (β : Nat → Option Blk) (d : Nat) : Option Nat := if (β (8 * d)).isSome then some (8 * d) else none
def appX (E : Env) (β : Nat → Option Blk) (d t : Nat) (s : LV) (y : Cont) (cnt : Nat) : Option Upd :=
 match E.T t with
 | some ⟨.slice e z, _, _, _, _⟩ => match E.T e with
  | some ⟨_, _, by_, _, some zc⟩ =>
   match s with
   | .v (.slice none 0 0) => if appOk z z by_ cnt zc ∧ ((newB β d).isNone || y.free (8 * d)) = true then some ⟨none, newB β d, .sl z (8 * d) 0 cnt none, [(8 * d, ⟨y, e, true⟩)]⟩ else none
   | .sl z' b 0 n none => match β b with
    | some k => if appOk z z' by_ (n + cnt) zc ∧ k.x.len = n * z ∧ k.spare = true ∧ k.e = e ∧ k.x.free b = true ∧ y.free b = true then
      some ⟨some b, none, .sl z b 0 (n + cnt) none, [(b, ⟨k.x.app y, e, true⟩)]⟩
     else if appOk z z' by_ (n + cnt) zc ∧ k.e = e ∧ (n + cnt) * z ≤ k.x.len then match layOne k.x (n * z) y with
      | some x => some ⟨none, none, .sl z b 0 (n + cnt) none, [(b, ⟨x, k.e, k.spare⟩)]⟩
      | none => none
     else none
    | none => none
   | .sl z' b 0 n (some c) => match β b with
    | some k => if appOk z z' by_ (n + cnt) zc ∧ k.e = e then
      if n + cnt ≤ c then match layOne k.x (n * z) y with
       | some x => some ⟨none, none, .sl z b 0 (n + cnt) (some c), [(b, ⟨x, k.e, k.spare⟩)]⟩
       | none => none
      else match k.x.cut 0 (n * z) with
       | some x => if ((newB β d).isNone || (x.free (8 * d) && y.free (8 * d))) = true then some ⟨none, newB β d, .sl z (8 * d) 0 (n + cnt) none, [(8 * d, ⟨x.app y, e, true⟩)]⟩ else none
       | none => none
     else none
    | none => none
   | .im z' n (some c) x => if appOk z z' by_ (n + cnt) zc ∧ c < n + cnt ∧ ((newB β d).isNone || (x.free (8 * d) && y.free (8 * d))) = true then
     some ⟨none, newB β d, .sl z (8 * d) 0 (n + cnt) none, [(8 * d, ⟨x.app y, e, true⟩)]⟩ else none
   | _ => none
  | _ => none
 | _ => none
def opStore (E : Env) (β : Nat → Option Blk) (t : Nat) (p u : LV) : Option Upd :=
 match p with
 | .ptr b off => match E.T t, u.cells, β b with
  | some ti, some y, some k => if y.len = ti.size then match layOne k.x off y with
   | some x => some ⟨none, none, noVal, [(b, ⟨x, k.e, k.spare⟩)]⟩
   | none => none else none
  | _, _, _ => none
 | _ => none
def opAppend (E : Env) (β : Nat → Option Blk) (d t : Nat) (s x : LV) : Option Upd :=
 match E.T t with
 | some ⟨.slice _ z, _, _, _, _⟩ => match shown β z x with
  | some (y, cnt) => if y.leaves then appX E β d t s y cnt else none
  | none => none
 | _ => none
def opCopy (E : Env) (β : Nat → Option Blk) (t : Nat) (s x : LV) : Option Upd :=
 match E.T t, s with
 | some ⟨.slice _ z', _, _, _, _⟩, .sl z b off n _ => match shown β z x, β b with
  | some (y, cnt), some k => if z = z' ∧ y.leaves then match y.cut 0 (min cnt n * z) with
   | some y => match k.x.lay off y with
    | some x => some ⟨none, none, .v (.int .i64 (min cnt n : Nat)), [(b, ⟨x, k.e, k.spare⟩)]⟩
    | none => none
   | none => none else none
  | _, _ => none
 | _, _ => none
def hideB (bs : List Nat) (β : Nat → Option Blk) : Nat → Option Blk := fun b => if bs.contains b then none else β b
def lentOf (β : Nat → Option Blk) (u : LV) : Option Nat :=
 match u with
 | .ptr b 0 => match β b with
  | some k => if k.spare then none else some b
  | none => none
 | _ => none
def lendB (β : Nat → Option Blk) : Nat → List LV → List (Nat × Nat)
 | _, [] => []
 | i, u :: l => match lentOf β u with
  | some b => (8 * i + 7, b) :: lendB β (i + 1) l
  | none => lendB β (i + 1) l
def lendD (β βh : Nat → Option Blk) (p : LV × Nat) : Option LV :=
 match lentOf β p.1 with
 | some _ => some (.ptr (8 * p.2 + 7) 0)
 | none => expo βh expoD p.1
def Cont.shut : Cont → Bool
 | .flat _ _ => true
 | .gen l => l.all (LV.shut 6)
def Cont.pure : Cont → Bool
 | .flat _ _ => true
 | .gen l => l.all (LV.pure 4)
def lendK (β : Nat → Option Blk) (p : Nat × Nat) : Option (Nat × Blk) :=
 match β p.2 with
 | some k => if k.x.shut then some (p.1, k) else none
 | none => none
def backB (ls : List (Nat × Blk)) (p : Nat × Nat) : Option (Nat × Blk) := (findB ls p.1).map fun k => (p.2, k)
def apartN : List Nat → Bool
 | [] => true
 | b :: l => !l.contains b && apartN l
def callW (E : Env) (β : Nat → Option Blk) (dst : Option Nat) (f : Nat) (args : List LV) : Option Upd :=
 let ps := lendB β 0 args
 let ids := ps.map (·.2)
 if apartN ids = true then
  match optMap (lendD β (hideB ids β)) args.zipIdx, optMap (lendK β) ps with
  | some ds, some ls => match E.orw f ds ls with
   | some (r, ls') => if ((r.pure && ls'.all fun p => p.2.x.pure) || args.all fun u => (lentOf β u).isSome || u.shut 6) = true then
     match r.out (dst.getD 0), optMap (backB ls') ps with
     | some (u, bs), some cs => some ⟨none, none, u, (if dst.isSome then bs else []) ++ cs⟩
     | _, _ => none else none
   | none => none
  | _, _ => none
 else none
def wcall (op : Op) (xs : List LV) : Option (Nat × List LV) :=
 match op with
 | .call { callee := .value (.func f), .. } => some (f, xs.tail)
 | .call { callee := .value (.tmp _), .. } => match xs with
  | .fn f l :: xs => some (f, xs ++ l)
  | _ => none
 | _ => none
def opZeros (E : Env) (β : Nat → Option Blk) (t tn : Nat) (s x : LV) : Option Upd :=
 match E.T tn, x with
 | some ⟨.int _, _, _, _, _⟩, .v (.int _ n) => match E.T t with
  | some ⟨.slice e z, _, _, _, _⟩ => match E.T e with
   | some ⟨.int k, _, by_, _, some (.flat k' [0])⟩ => match s with
    | .sl z' b 0 N none => match β b with
     | some kb => if k = k' ∧ z = 1 ∧ z' = 1 ∧ by_ ≤ 8 ∧ 0 ≤ n ∧ n ≤ 4096 ∧ N ≤ 100000 ∧ kb.x.len = N ∧ kb.spare = true ∧ kb.e = e ∧ kb.x.free b = true then
       some ⟨some b, none, .sl 1 b 0 (N + n.toNat) none, [(b, ⟨kb.x.app (.flat k (List.replicate n.toNat 0)), e, true⟩)]⟩ else none
     | none => none
    | _ => none
   | _ => none
  | _ => none
 | _, _ => none
def mopX0 (E : Env) (β : Nat → Option Blk) (dst : Option Nat) (op : Op) (xs : List LV) : Option Upd :=
 match op, xs with
 | .store t _ _, [p, u] => opStore E β t p u
 | .call c, [s, x] => match c.callee, c.argTypes.toList with
  | .builtin .append, [t, t'] => match dst with
   | some d => if t = t' then opAppend E β d t s x else opZeros E β t t' s x
   | none => none
  | .builtin .copy, [t, t'] => if t = t' then opCopy E β t s x else none
  | _, _ => none
 | _, _ => none
def mopX (E : Env) (β : Nat → Option Blk) (dst : Option Nat) (op : Op) (xs : List LV) : Option Upd :=
 match wcall op xs with
 | some (f, args) => if E.wk f then callW E β dst f args else none
 | none => mopX0 E β dst op xs
def wantL (ops : List Oper) (ρ : Nat → LV) (o : Oper) : Option Bool :=
 match o.guard with
 | none => some true
 | some (j, want) => match (ops[j]?).bind (·.dst) with
  | some d => match ρ d with
   | .v (.bool b) => some (b == want)
   | .tup [] => some false
   | _ => none
  | none => none
def freshD (st : St) (o : Oper) : Bool := !makes o.op || match o.dst with
 | some d => st.blks.all fun p => p.1 / 8 != d
 | none => true
def opStep (E : Env) (ops : List Oper) (st : St) (o : Oper) : Option Upd :=
 match wantL ops st.slot o with
 | some true => if freshD st o then match vop E st.slot st.blk (o.dst.getD 0) o.op with
  | some (u, bs) => some ⟨none, none, u, if o.dst.isSome then bs else []⟩
  | none => match optMap (evalO st.slot) (opers o.op) with
   | some xs => mopX E st.blk o.dst o.op xs
   | none => none else none
 | some false => some ⟨none, none, noVal, []⟩
 | none => none
def opSteps (E : Env) (ops : List Oper) : List Oper → St → Option St
 | [], st => some st
 | o :: l, st => match opStep E ops st o with
  | some p => st.appK E.eager o.dst p fun st => opSteps E ops l st
  | none => none
def deps : List Oper → List Nat → List Nat
 | [], acc => acc
 | o :: l, acc => natK (o.after.toList.foldl (fun s e => if Region.binds .any e then s ||| (1 <<< e.on) ||| acc.getD e.on 0 else s) 0) fun m => deps l (acc ++ [m])
def vis (ops : List Oper) (S : Nat → Bool) (t : Nat) : Bool := (List.range ops.length).all fun j => ((ops[j]?).bind (·.dst) != some t) || S j
def freshA (st : St) (o : Oper) : Bool := match o.dst with
 | some d => st.blks.all fun p => p.1 / 8 != d
 | none => true
def preStep (E : Env) (ops pre : List Oper) (m : Nat) (st : St) (o : Oper) : Option Upd :=
 let ρ := fun t => if vis pre (Nat.testBit m) t then st.slot t else .poison
 let β := fun b => if vis pre (Nat.testBit m) (b / 8) then st.blk b else none
 match wantL ops ρ o with
 | some true => if freshA st o then match vop E ρ β (o.dst.getD 0) o.op with
  | some (u, bs) => some ⟨none, none, u, if o.dst.isSome then bs else []⟩
  | none => none else none
 | some false => if freshA st o then some ⟨none, none, noVal, []⟩ else none
 | none => none
def preSteps (E : Env) (ops pre : List Oper) : List Nat → List Oper → St → Option St
 | m :: ms, o :: l, st => match preStep E ops pre m st o with
  | some p => st.appK E.eager o.dst p fun st => preSteps E ops pre ms l st
  | none => none
 | _, _, st => some st
def regB (ops : List Oper) : Bool :=
 ((List.range ops.length).all fun i => (List.range ops.length).all fun j => i == j || match ops[i]?, ops[j]? with
  | some o, some p => o.dst.isNone || o.dst != p.dst
  | _, _ => true) &&
 (List.range ops.length).all fun i => match ops[i]? with
  | some o => o.after.toList.all fun e => !Region.binds .any e || decide (e.on < i)
  | none => true
def tailAt (ds : List Nat) : Nat → Nat
 | 0 => 0
 | n + 1 => if ds.getD n 0 == 2 ^ n - 1 then tailAt ds n else n + 1
def isTmp : Operand → Nat → Bool
 | .tmp t, d => t == d
 | _, _ => false
def pureT : Op → Bool
 | .extract _ _ | .binOp _ _ _ _ _ | .unOp _ _ _ | .move _ | .assign _ | .build _ _ | .indexAddr _ _ _ | .fieldAddr _ _ _ => true
 | _ => false
def staysT (ops : List Oper) (t : Nat) : Bool := ops.all fun o => o.dst != some t
def madeT (ops : List Oper) (k t : Nat) : Bool := (List.range k).any fun j => match ops[j]? with
 | some o => match o.op, o.guard with
  | .alloc _, none => o.dst == some t
  | _, _ => false
 | none => false
def ptrB (st : St) (z : Nat) : Option Nat := match st.slot z with
 | .ptr b _ => some b
 | _ => none
def addrB (ops : List Oper) (n : Nat) (st : St) (y : Nat) : Option Nat :=
 if staysT ops y then ptrB st y else if y < st.tmps.length then (List.range n).findSome? fun j => match ops[j]? with
  | some o => match o.op, o.guard with
   | .indexAddr _ (.tmp z) _, none => if o.dst == some y && staysT ops z then ptrB st z else none
   | .fieldAddr _ (.tmp z) _, none => if o.dst == some y && staysT ops z then ptrB st z else none
   | _, _ => none
  | none => none
 else none
def floats (ops : List Oper) (n : Nat) (st : St) (op : Op) (x : Operand) : Bool :=
 pureT op || match op, x with
 | .load _ (.tmp y), .tmp x => match addrB ops n st y with
  | some b => if staysT ops x then (match st.slot x with
   | .ptr b' _ => b != b'
   | _ => false) else madeT ops n x && b != 8 * x && decide (x < st.tmps.length)
  | none => false
 | _, _ => false
def isExt (ops : List Oper) (n : Nat) (st : St) (o : Oper) (x v : Operand) : Bool :=
 match o.dst, o.guard with
 | some d, none => floats ops n st o.op x && !(isTmp x d) && !(isTmp v d)
 | _, _ => false
def floatAt (ops : List Oper) (st : St) (ds : List Nat) (k : Nat) : Bool :=
 match ops[k]? with
 | some o => match o.op, o.dst, o.guard with
  | .store _ x v, none, none => (List.range k).all fun j => Nat.testBit (ds.getD k 0) j || match ops[j]? with
   | some p => isExt ops k st p x v
   | none => false
  | _, _, _ => false
 | none => false
def backOne (ops : List Oper) (st : St) (ds : List Nat) (n : Nat) : Nat :=
 match n with
 | 0 => 0
 | k + 1 => if floatAt ops st ds k then backOne ops st ds k else k + 1
def tail2 (ops : List Oper) (st : St) (ds : List Nat) : Nat := natK (tailAt ds ops.length) fun n => backOne ops st ds n
def runR (E : Env) (ops : List Oper) (draw : Bool) (st : St) : Option St :=
 if draw then
  let ds := deps ops []
  if regB ops then readyK E.eager ops st fun st => match preSteps E ops (ops.take (tail2 ops st ds)) (ds.take (tail2 ops st ds)) (ops.take (tail2 ops st ds)) st with
  | some st' => opSteps E ops (ops.drop (tail2 ops st ds)) st'
  | none => none
  else none
 else readyK E.eager ops st fun st => opSteps E ops ops st
inductive Ex where
 | norm
 | exit (id : Nat)
 | ret
def loopN (body : St → Option (Ex × St)) : Nat → St → Option (Ex × St)
 | 0, _ => none
 | n + 1, st => match body st with
  | some (.norm, st) => loopN body n st
  | r => r
def runC (E : Env) (fuel : Nat) : Code → St → Option (Ex × St)
 | .skip, st => some (.norm, st)
 | .label _, st => some (.norm, st)
 | .region _ ops draw, st => (runR E ops.toList draw st).map fun st => (.norm, st)
 | .seq a b, st => match runC E fuel a st with
  | some (.norm, st) => runC E fuel b st
  | r => r
 | .cond c a b, st => match evalO st.slot c with
  | some (.v (.bool true)) => runC E fuel a st
  | some (.v (.bool false)) => runC E fuel b st
  | _ => none
 | .block id b, st => match runC E fuel b st with
  | some (.exit i, st) => if i = id then some (.norm, st) else some (.exit i, st)
  | r => r
 | .loop b, st => loopN (runC E fuel b) fuel st
 | .scope b, st => runC E fuel b st
 | .exit id, st => some (.exit id, st)
 | .ret, st => some (.ret, st)
 | _, _ => none
def ownedB (β : Nat → Option Blk) (u : LV) : Option Nat :=
 match u with
 | .sl z b 0 n c => match β b with
  | some k => if (n * z ≤ k.x.len ∧ (c = none ∨ (k.spare = false ∧ c.map (· * z) = some k.x.len))) ∧ b % 8 ≠ 7 then some b else none
  | none => none
 | .ptr b 0 => match β b with
  | some k => if k.spare = false ∧ b % 8 ≠ 7 then some b else none
  | none => none
 | _ => none
def lids (st : St) : List Nat := (st.blks.map (·.1)).filter fun b => b % 8 == 7
def resSlot (β β' : Nat → Option Blk) (u : LV) : Option RC :=
 match ownedB β u with
 | some b => match u, β b with
  | .sl z _ _ n _, some k => match k.x.cut 0 (n * z) with
   | some (.flat j l) => some (.own z n k.e (.flat j l))
   | some (.gen l) => match optMap (expo β' expoD) l with
    | some l => some (.own z n k.e (.gen l))
    | none => none
   | none => none
  | .ptr _ _, some k => match k.x with
   | .flat j l => some (.optr k.e (.flat j l))
   | .gen l => match optMap (expo β' expoD) l with
    | some l => some (.optr k.e (.gen l))
    | none => none
  | _, _ => none
 | none => match expo β' expoD u with
  | some u => some (.val u)
  | none => none
def fstO (x : Out) : Option LV :=
 match x with
 | some (u, _) => some u
 | none => none
def resVar (E : Env) (st : St) : ResultVar → Option LV
 | .tmp t => some (st.slot t)
 | .cell p t => match st.slot p, E.T t with
  | .ptr b off, some ti => match st.blk b with
   | some k => fstO (loadC k.x off ti.size ti.agg)
   | none => none
  | _, _ => none
def apartR (β : Nat → Option Blk) (us : List LV) : Bool :=
 (List.range us.length).all fun i => (List.range us.length).all fun j => i == j || match us[i]?, us[j]? with
  | some u, some v => (ownedB β u).isNone || ownedB β u != ownedB β v
  | _, _ => true
def packR : List RC → LRes
 | [c] => .one c
 | cs => .many cs
def resOf (E : Env) (st : St) (rs : List ResultVar) : Option LRes :=
 match optMap (resVar E st) rs with
 | none => none
 | some us => if apartR st.blk us then match optMap (resSlot st.blk (hideB (lids st ++ us.filterMap (ownedB st.blk)) st.blk)) us with
  | none => none
  | some cs => some (packR cs) else none
def enterL (fn : Func) (args : List LV) : St := ⟨args ++ List.replicate (fn.ntmps - args.length) noVal, []⟩
def runF (E : Env) (fuel : Nat) (fn : Func) (args : List LV) : Option LRes :=
 match fn.body with
 | some c => match (enterL fn args).allK E.eager fun st => runC E fuel c st with
  | some (.norm, st) => resOf E st fn.results.toList
  | some (.ret, st) => resOf E st fn.results.toList
  | _ => none
 | none => none
end Go.Proofs.YtdeigmjbcbjgeaaGreatDoor
namespace Go.Proofs.YtdeigmjbcbjgeaaGreatDoor
open Go.RowKit
theorem Cont.len_vals (x : Cont) : x.len = x.vals.length := by cases x <;> simp [Cont.len, Cont.vals]
theorem Cont.at_vals {x : Cont} {i : Nat} {u : LV} (h : x.at? i = some u) : x.vals[i]? = some u := by
 cases x with
 | flat k l =>
  simp only [Cont.at?] at h
  split at h
  ·rename_i hi
   simp only [Cont.vals, List.getElem?_map, List.getElem?_eq_getElem hi, Option.map_some]
   rw [← h, List.getD_eq_getElem?_getD, List.getElem?_eq_getElem hi]
   rfl
  ·cases h
 | gen l => exact h
theorem Cont.cut_vals {x y : Cont} {o n : Nat} (h : x.cut o n = some y) : o + n ≤ x.vals.length ∧ y.vals = (x.vals.drop o).take n := by
 unfold Cont.cut at h
 split at h
 ·rename_i hc
  obtain ⟨rfl, rfl⟩ := hc
  cases h
  rw [Cont.len_vals]
  simp
 ·split at h
  ·rename_i hc
   rw [Cont.len_vals] at hc
   refine ⟨hc, ?_⟩
   cases h
   cases x <;> simp [Cont.vals, List.map_take, List.map_drop]
  ·cases h
theorem Cont.put_vals {x y : Cont} {i : Nat} {u : LV} (h : x.put i u = some y) : i < x.vals.length ∧ y.vals = x.vals.set i u := by
 cases x with
 | flat k l =>
  simp only [Cont.put] at h
  split at h
  ·split at h
   ·rename_i hc
    obtain ⟨rfl, hc⟩ := hc
    cases h
    simp [Cont.vals, hc, List.map_set]
   ·cases h
  ·cases h
 | gen l =>
  simp only [Cont.put] at h
  split at h
  ·rename_i hc; cases h; exact ⟨hc, rfl⟩
  ·cases h
theorem Cont.lay_vals {x y z : Cont} {o : Nat} (h : x.lay o y = some z) : o + y.vals.length ≤ x.vals.length ∧ z.vals = x.vals.take o ++ y.vals ++ x.vals.drop (o + y.vals.length) := by
 unfold Cont.lay at h
 split at h
 ·rename_i hc
  rw [Cont.len_vals, Cont.len_vals] at hc
  refine ⟨hc, ?_⟩
  split at h
  ·split at h
   ·rename_i hk; subst hk; cases h; simp [Cont.vals, List.map_take, List.map_drop]
   ·cases h
  ·cases h; simp [Cont.vals, Cont.len_vals]
  ·cases h
 ·cases h
theorem Cont.app_vals (x y : Cont) : (x.app y).vals = x.vals ++ y.vals := by
 unfold Cont.app
 split
 ·split
  ·rename_i h; subst h; simp [Cont.vals]
  ·simp [Cont.vals]
 ·simp [Cont.vals]
 ·simp [Cont.vals]
 ·simp [Cont.vals]
theorem flatOf_vals : ∀ (l : List LV) (k : IntKind) (m : List Int), flatOf l = some (k, m) → m.map (fun n => LV.v (.int k n)) = l
 | [], k, m, h => by simp [flatOf] at h
 | u :: rest, k, m, h => by
  simp only [flatOf] at h
  split at h
  ·split at h
   ·cases h; rfl
   ·split at h
    ·rename_i h2
     split at h
     ·rename_i hk; subst hk; cases h
      simp only [List.map_cons, flatOf_vals _ _ _ h2]
     ·cases h
    ·cases h
  ·cases h
theorem mkCont_vals (l : List LV) : (mkCont l).vals = l := by
 unfold mkCont
 split
 ·rename_i k m h; exact flatOf_vals _ _ _ h
 ·rfl
theorem Cont.loose_vals (x : Cont) : x.loose.vals = x.vals := by cases x <;> rfl
theorem Cont.tight_vals (x : Cont) : x.tight.vals = x.vals := by cases x <;> simp [Cont.tight, mkCont_vals]; rfl
theorem repCont_vals (n : Nat) (x : Cont) : (repCont n x).vals = (List.replicate n x.vals).flatten := by
 cases x <;> simp [repCont, Cont.vals, List.map_flatten]
theorem layOne_vals {x y z : Cont} {o : Nat} (h : layOne x o y = some z) : o + y.vals.length ≤ x.vals.length ∧ z.vals = x.vals.take o ++ y.vals ++ x.vals.drop (o + y.vals.length) := by
 unfold layOne at h
 split at h
 ·rename_i k n
  obtain ⟨h1, h2⟩ := Cont.put_vals h
  refine ⟨h1, ?_⟩
  rw [h2, List.set_eq_take_append_cons_drop, if_pos h1]
  simp [Cont.vals]
 ·rename_i u
  obtain ⟨h1, h2⟩ := Cont.put_vals h
  refine ⟨h1, ?_⟩
  rw [h2, List.set_eq_take_append_cons_drop, if_pos h1]
  simp [Cont.vals]
 ·exact Cont.lay_vals h
theorem optMap_spec {α β : Type} {f : α → Option β} : ∀ {l : List α} {r : List β}, optMap f l = some r → r.length = l.length ∧ ∀ (i : Nat) (y : β), r[i]? = some y → ∃ x, l[i]? = some x ∧ f x = some y
 | [], r, h => by simp [optMap] at h; subst h; simp
 | a :: l, r, h => by
  unfold optMap at h
  split at h
  ·rename_i y l' h1 h2
   cases h
   obtain ⟨h3, h4⟩ := optMap_spec h2
   refine ⟨by simp [h3], fun i y' hi => ?_⟩
   cases i with
   | zero => simp at hi; subst hi; exact ⟨a, rfl, h1⟩
   | succ i => simp at hi; simpa using h4 i y' hi
  ·cases h
structure Loc where
 g : Nat
 s : Nat
abbrev Map := Nat → Option (Option Loc)
def noMap : Map := fun _ => none
inductive Rep (F : Nat → Prop) (w : World) : Map → LV → Value → Prop
 | poison (m : Map) (v : Value) : Rep F w m .poison v
 | v (m : Map) (x : Value) (h : plain x = true) : Rep F w m (.v x) x
 | str (m : Map) (l : List Int) : Rep F w m (.str l) (.string (strOfNums l))
 | ptr (m : Map) (b off g s : Nat) (h : m b = some (some ⟨g, s⟩)) : Rep F w m (.ptr b off) (.pointer (some ⟨g, off, none⟩))
 | imp (m : Map) (x : Cont) (g o : Nat) (f : Nat → Value) (hF : F g) (hc : ∀ i, i < x.vals.length → w.cell? ⟨g, o + i, none⟩ = some (f i))
   (hr : ∀ i u, x.vals[i]? = some u → Rep F w noMap u (f i)) : Rep F w m (.imp x) (.pointer (some ⟨g, o, none⟩))
 | sl (m : Map) (z b off n : Nat) (c : Option Nat) (g s : Nat) (a : Addr) (c' : Nat) (h : m b = some (some ⟨g, s⟩)) (ha : a = ⟨g, off, none⟩ ∨ n = 0 ∧ 0 < off ∧ c' = 0)
   (hn : n ≤ c') (hk : ∀ k, c = some k → c' = k) (hs : c = none → off + c' * z = s) (hx : c' ≤ 9223372036854775807) : Rep F w m (.sl z b off n c) (.slice (some a) n c')
 | slNil (m : Map) (z b : Nat) (c : Option Nat) (h : m b = some none) (hk : ∀ k, c = some k → k = 0) : Rep F w m (.sl z b 0 0 c) (.slice none 0 0)
 | im (m : Map) (z n : Nat) (c : Option Nat) (x : Cont) (a : Option Addr) (c' : Nat) (f : Nat → Value) (hl : x.vals.length = n * z) (hn : n ≤ c') (hk : ∀ k, c = some k → c' = k)
   (ha : a = none → n = 0 ∧ c' = 0) (hm : x.vals = [] ∨ ∃ g o, a = some ⟨g, o, none⟩ ∧ F g ∧ ∀ i, i < x.vals.length → w.cell? ⟨g, o + i, none⟩ = some (f i))
   (hr : ∀ i u, x.vals[i]? = some u → Rep F w noMap u (f i)) : Rep F w m (.im z n c x) (.slice a n c')
 | agg (m : Map) (x : Cont) (cs : Array Value) (hl : cs.size = x.vals.length) (hr : ∀ i u, x.vals[i]? = some u → Rep F w m u (cs.getD i undef)) : Rep F w m (.agg x) (.agg cs)
 | tup (m : Map) (l : List LV) (vs : Array Value) (hl : vs.size = l.length) (hr : ∀ i u, l[i]? = some u → Rep F w m u (vs.getD i undef)) : Rep F w m (.tup l) (.tuple vs)
 | iface (m : Map) (t : Nat) (u : LV) (v : Value) (h : Rep F w m u v) : Rep F w m (.iface t u) (.iface t v)
 | fn (m : Map) (f : Nat) (l : List LV) (vs : Array Value) (hl : vs.size = l.length) (hr : ∀ i u, l[i]? = some u → Rep F w m u (vs.getD i undef)) : Rep F w m (.fn f l) (.func (.func f) #[] vs)
theorem Rep.mono {F F' : Nat → Prop} {w w' : World} {m : Map} {u : LV} {v : Value} (h : Rep F w m u v) (hF : ∀ g, F g → F' g) (hw : ∀ g, F g → w'.heap[g]? = w.heap[g]?) :
  ∀ m' : Map, (∀ b l, m b = some l → m' b = some l) → Rep F' w' m' u v := by
 induction h with
 | poison m v => exact fun _ _ => .poison _ _
 | v m x h => exact fun _ _ => .v _ _ h
 | str m l => exact fun _ _ => .str _ _
 | ptr m b off g s h => exact fun m' hm => .ptr _ _ _ _ _ (hm _ _ h)
 | imp m x g o f h1 hc hr ih => exact fun m' _ => .imp _ _ _ _ f (hF _ h1) (fun i hi => by rw [World.cell?_of_block (w := w) (hw g h1)]; exact hc i hi) (fun i u hu => ih i u hu _ (fun _ _ h => h))
 | sl m z b off n c g s a c' h ha hn hk hs hx => exact fun m' hm => .sl _ _ _ _ _ _ _ _ _ _ (hm _ _ h) ha hn hk hs hx
 | slNil m z b c h hk => exact fun m' hm => .slNil _ _ _ _ (hm _ _ h) hk
 | im m z n c x a c' f hl hn hk ha hm hr ih =>
  refine fun m' _ => .im _ _ _ _ _ _ _ f hl hn hk ha ?_ (fun i u hu => ih i u hu _ (fun _ _ h => h))
  rcases hm with hm | ⟨g, o, h1, h2, h3⟩
  ·exact .inl hm
  ·exact .inr ⟨g, o, h1, hF _ h2, fun i hi => by rw [World.cell?_of_block (w := w) (hw g h2)]; exact h3 i hi⟩
 | agg m x cs hl hr ih => exact fun m' hm => .agg _ _ _ hl (fun i u hu => ih i u hu _ hm)
 | tup m l vs hl hr ih => exact fun m' hm => .tup _ _ _ hl (fun i u hu => ih i u hu _ hm)
 | iface m t u v h ih => exact fun m' hm => .iface _ _ _ _ (ih _ hm)
 | fn m f l vs hl hr ih => exact fun m' hm => .fn _ _ _ _ hl (fun i u hu => ih i u hu _ hm)
def Map.del (m : Map) (B : Nat) : Map := fun b => if b = B then none else m b
def Map.add (m : Map) (B : Nat) (l : Option Loc) : Map := fun b => if b = B then some l else m b
theorem Map.add_same (m : Map) (B : Nat) (l : Option Loc) : m.add B l B = some l := by simp [Map.add]
theorem Map.add_ext {m : Map} {B : Nat} {l : Option Loc} (h : m B = none) : ∀ b l', m b = some l' → m.add B l b = some l' := by
 intro b l' hb
 unfold Map.add
 split
 ·rename_i e; subst e; rw [h] at hb; cases hb
 ·exact hb
theorem Map.del_at (m : Map) (B : Nat) : m.del B B = none := by simp [Map.del]
theorem all_false {p : LV → Bool} {l : List LV} (h : l.any p = false) {i : Nat} {u : LV} (hi : l[i]? = some u) : p u = false := by
 rcases hp : p u with _ | _
 ·rfl
 ·exact absurd (List.any_eq_true.2 ⟨u, List.mem_of_getElem? hi, hp⟩) (by rw [h]; simp)
theorem all_true {p : LV → Bool} {l : List LV} (h : l.all p = true) {i : Nat} {u : LV} (hi : l[i]? = some u) : p u = true :=
 List.all_eq_true.1 h u (List.mem_of_getElem? hi)
theorem Rep.del {F : Nat → Prop} {w : World} {m : Map} {u : LV} {v : Value} (h : Rep F w m u v) (B : Nat) : ∀ D, u.ment B D = false → Rep F w (m.del B) u v := by
 induction h with
 | poison m v => exact fun _ _ => .poison _ _
 | v m x h => exact fun _ _ => .v _ _ h
 | str m l => exact fun _ _ => .str _ _
 | ptr m b off g s h =>
  intro D hD
  have hb : b ≠ B := by cases D <;> simpa [LV.ment] using hD
  exact .ptr _ _ _ g s (by simp [Map.del, hb, h])
 | imp m x g o f h1 hc hr ih => exact fun _ _ => .imp _ _ _ _ f h1 hc hr
 | sl m z b off n c g s a c' h ha hn hk hs hx =>
  intro D hD
  have hb : b ≠ B := by cases D <;> simpa [LV.ment] using hD
  exact .sl _ _ _ _ _ _ g s _ _ (by simp [Map.del, hb, h]) ha hn hk hs hx
 | slNil m z b c h hk =>
  intro D hD
  have hb : b ≠ B := by cases D <;> simpa [LV.ment] using hD
  exact .slNil _ _ _ _ (by simp [Map.del, hb, h]) hk
 | im m z n c x a c' f hl hn hk ha hm hr ih => exact fun _ _ => .im _ _ _ _ _ _ _ f hl hn hk ha hm hr
 | agg m x cs hl hr ih =>
  intro D hD
  refine .agg _ _ _ hl (fun i u hu => ?_)
  cases x with
  | flat k l =>
   refine ih i u hu 0 ?_
   simp only [Cont.vals, List.getElem?_map] at hu
   rcases hq : l[i]? with _ | n
   ·simp [hq] at hu
   ·simp [hq] at hu; subst hu; rfl
  | gen l =>
   cases D with
   | zero => simp [LV.ment] at hD
   | succ D => exact ih i u hu D (all_false (l := l) (by simpa [LV.ment] using hD) hu)
 | tup m l vs hl hr ih =>
  intro D hD
  cases D with
  | zero => simp [LV.ment] at hD
  | succ D => exact .tup _ _ _ hl (fun i u hu => ih i u hu D (all_false (by simpa [LV.ment] using hD) hu))
 | iface m t u v h ih =>
  intro D hD
  cases D with
  | zero => simp [LV.ment] at hD
  | succ D => exact .iface _ _ _ _ (ih D (by simpa [LV.ment] using hD))
 | fn m f l vs hl hr ih =>
  intro D hD
  cases D with
  | zero => simp [LV.ment] at hD
  | succ D => exact .fn _ _ _ _ hl (fun i u hu => ih i u hu D (all_false (by simpa [LV.ment] using hD) hu))
theorem Rep.lose {F : Nat → Prop} {w : World} {m : Map} {u : LV} {v : Value} (h : Rep F w m u v) (B : Nat) : Rep F w (m.del B) (u.lose B) v := by
 unfold LV.lose
 split
 ·exact .poison _ _
 ·rename_i hm; exact h.del B _ (by simpa using hm)
theorem Rep.shut {F : Nat → Prop} {w : World} {m : Map} {u : LV} {v : Value} (h : Rep F w m u v) (m' : Map) : ∀ D, u.shut D = true → Rep F w m' u v := by
 induction h with
 | poison m v => exact fun _ _ => .poison _ _
 | v m x h => exact fun _ _ => .v _ _ h
 | str m l => exact fun _ _ => .str _ _
 | ptr m b off g s h => intro D hD; cases D <;> simp [LV.shut] at hD
 | imp m x g o f h1 hc hr ih => exact fun _ _ => .imp _ _ _ _ f h1 hc hr
 | sl m z b off n c g s a c' h ha hn hk hs hx => intro D hD; cases D <;> simp [LV.shut] at hD
 | slNil m z b c h hk => intro D hD; cases D <;> simp [LV.shut] at hD
 | im m z n c x a c' f hl hn hk ha hm hr ih => exact fun _ _ => .im _ _ _ _ _ _ _ f hl hn hk ha hm hr
 | agg m x cs hl hr ih =>
  intro D hD
  refine .agg _ _ _ hl (fun i u hu => ?_)
  cases x with
  | flat k l =>
   refine ih i u hu 0 ?_
   simp only [Cont.vals, List.getElem?_map] at hu
   rcases hq : l[i]? with _ | n
   ·simp [hq] at hu
   ·simp [hq] at hu; subst hu; rfl
  | gen l =>
   cases D with
   | zero => simp [LV.shut] at hD
   | succ D => exact ih i u hu D (all_true (l := l) (by simpa [LV.shut] using hD) hu)
 | tup m l vs hl hr ih =>
  intro D hD
  cases D with
  | zero => simp [LV.shut] at hD
  | succ D => exact .tup _ _ _ hl (fun i u hu => ih i u hu D (all_true (by simpa [LV.shut] using hD) hu))
 | iface m t u v h ih =>
  intro D hD
  cases D with
  | zero => simp [LV.shut] at hD
  | succ D => exact .iface _ _ _ _ (ih D (by simpa [LV.shut] using hD))
 | fn m f l vs hl hr ih => intro D hD; cases D <;> simp [LV.shut] at hD
theorem Rep.pure {F : Nat → Prop} {w : World} {m : Map} {u : LV} {v : Value} (h : Rep F w m u v) (F' : Nat → Prop) (w' : World) (m' : Map) : ∀ D, u.pure D = true → Rep F' w' m' u v := by
 induction h with
 | poison m v => exact fun _ _ => .poison _ _
 | v m x h => exact fun _ _ => .v _ _ h
 | str m l => exact fun _ _ => .str _ _
 | ptr m b off g s h => intro D hD; cases D <;> simp [LV.pure] at hD
 | imp m x g o f h1 hc hr ih => intro D hD; cases D <;> simp [LV.pure] at hD
 | sl m z b off n c g s a c' h ha hn hk hs hx => intro D hD; cases D <;> simp [LV.pure] at hD
 | slNil m z b c h hk => intro D hD; cases D <;> simp [LV.pure] at hD
 | im m z n c x a c' f hl hn hk ha hm hr ih => intro D hD; cases D <;> simp [LV.pure] at hD
 | agg m x cs hl hr ih =>
  intro D hD
  refine .agg _ _ _ hl (fun i u hu => ?_)
  cases x with
  | flat k l =>
   refine ih i u hu 0 ?_
   simp only [Cont.vals, List.getElem?_map] at hu
   rcases hq : l[i]? with _ | n
   ·simp [hq] at hu
   ·simp [hq] at hu; subst hu; rfl
  | gen l =>
   cases D with
   | zero => simp [LV.pure] at hD
   | succ D => exact ih i u hu D (all_true (l := l) (by simpa [LV.pure] using hD) hu)
 | tup m l vs hl hr ih =>
  intro D hD
  cases D with
  | zero => simp [LV.pure] at hD
  | succ D => exact .tup _ _ _ hl (fun i u hu => ih i u hu D (all_true (by simpa [LV.pure] using hD) hu))
 | iface m t u v h ih =>
  intro D hD
  cases D with
  | zero => simp [LV.pure] at hD
  | succ D => exact .iface _ _ _ _ (ih D (by simpa [LV.pure] using hD))
 | fn m f l vs hl hr ih => intro D hD; cases D <;> simp [LV.pure] at hD
theorem strOfNums_bytes (s : ByteArray) : strOfNums (s.data.toList.map fun b => (b.toNat : Int)) = s := by
 unfold strOfNums
 rw [List.map_map]
 have : (List.map ((fun n : Int => UInt8.ofNat n.toNat) ∘ fun b : UInt8 => (b.toNat : Int)) s.data.toList) = s.data.toList := by
  conv => rhs; rw [← List.map_id s.data.toList]
  apply List.map_congr_left
  intro b _
  simp
 rw [this]
theorem lvOf_rep {F : Nat → Prop} {w : World} {m : Map} {x : Value} {u : LV} (h : lvOf x = some u) : Rep F w m u x := by
 unfold lvOf at h
 split at h
 ·rename_i s
  cases h
  conv => rhs; rw [← strOfNums_bytes s]
  exact .str _ _
 ·split at h
  ·rename_i hp; cases h; exact .v _ _ hp
  ·cases h
theorem Rep.one {F : Nat → Prop} {w : World} {m : Map} {u : LV} {v : Value} (h : Rep F w m u v) (hl : u.leaf = true) : v.oneCell' = true := by
 cases h <;> first
  | rfl
  | (simp [LV.leaf] at hl; done)
  | (rename_i h; cases v <;> first | rfl | (simp [plain] at h; done))
theorem cells_cases {u : LV} {y : Cont} (h : u.cells = some y) : (u = .agg y ∧ y.leaves = true) ∨ (u.leaf = true ∧ y.vals = [u]) := by
 cases u with
 | agg x =>
  simp only [LV.cells] at h
  split at h
  ·rename_i hl; cases h; exact .inl ⟨rfl, hl⟩
  ·cases h
 | v x =>
  refine .inr ⟨rfl, ?_⟩
  cases x <;> simp only [LV.cells, LV.leaf, if_true, Option.some.injEq] at h <;> subst h <;> rfl
 | poison => simp [LV.cells, LV.leaf] at h
 | tup l => simp [LV.cells, LV.leaf] at h
 | _ =>
  refine .inr ⟨rfl, ?_⟩
  simp only [LV.cells, LV.leaf, if_true, Option.some.injEq] at h
  subst h; rfl
theorem flat_leaf {k : IntKind} {l : List Int} {i : Nat} {u : LV} (hu : (Cont.flat k l).vals[i]? = some u) : ∃ n, u = .v (.int k n) := by
 simp only [Cont.vals, List.getElem?_map] at hu
 rcases hq : l[i]? with _ | n
 ·simp [hq] at hu
 ·simp [hq] at hu; exact ⟨n, hu.symm⟩
theorem leaves_leaf {x : Cont} (h : x.leaves = true) {i : Nat} {u : LV} (hu : x.vals[i]? = some u) : u.leaf = true := by
 cases x with
 | flat k l => obtain ⟨n, rfl⟩ := flat_leaf hu; rfl
 | gen l => exact all_true (l := l) (by simpa [Cont.leaves] using h) hu
theorem cells_rep {F : Nat → Prop} {w : World} {m : Map} {u : LV} {v : Value} {y : Cont} (h : Rep F w m u v) (hy : u.cells = some y) :
  v.cells.size = y.vals.length ∧ (∀ (i : Nat) (u' : LV), y.vals[i]? = some u' → Rep F w m u' (v.cells.getD i undef)) ∧ (∀ (i : Nat) (u' : LV), y.vals[i]? = some u' → u'.leaf = true) := by
 rcases cells_cases hy with ⟨rfl, hl⟩ | ⟨hlf, hv⟩
 ·cases h with
  | agg _ _ cs hl' hr => exact ⟨hl', hr, fun i u' hu => leaves_leaf hl hu⟩
 ·have h1 := h.one hlf
  have hc : v.cells = #[v] := by cases v <;> first | rfl | (simp [Value.oneCell'] at h1; done)
  rw [hc, hv]
  refine ⟨rfl, fun i u' hu => ?_, fun i u' hu => ?_⟩
  ·rcases i with _ | i
   ·simp at hu; subst hu; exact h
   ·simp at hu
  ·rcases i with _ | i
   ·simp at hu; subst hu; exact hlf
   ·simp at hu
end Go.Proofs.YtdeigmjbcbjgeaaGreatDoor
