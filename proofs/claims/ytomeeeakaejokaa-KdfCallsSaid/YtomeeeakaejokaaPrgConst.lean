/-
  What the program's constants come to: the estimates of the roots and their correction, as plain functions, reckoned by the kernel.
-/
import Derived.Test.YtomeeeakaejokaaPrgFloat
import Derived.Test.YtomeeeakaejokaaRefSum256
import Derived.Test.YtomeeeakaejokaaCube
namespace Go.Proofs.Ytomeeeakaejokaa
open Go.RowKit

abbrev fMul (x y : Nat) : Option Nat := floatBits .mul .f64 x y
abbrev fQuo (x y : Nat) : Option Nat := floatBits .quo .f64 x y
abbrev fAdd (x y : Nat) : Option Nat := floatBits .add .f64 x y
abbrev fSub (x y : Nat) : Option Nat := floatBits .sub .f64 x y

def cbrtT0 (x : Nat) : Nat := (IntKind.u64.wrap (IntKind.u64.wrap ((x : Int) / 3) + 3071306043645493248)).toNat
def cbrtChop (t : Nat) : Nat := (IntKind.u64.wrap (bits .and .u64 (t : Int) 18446744072635809792 + 1073741824)).toNat
/-- Every value on cbrt's way. -/
structure CbrtWay where
  (t0 a1 r1 a2 s1 b1 b2 b3 b4 b5 t1 t2 s2 r2 w1 c1 c2 r3 c3 t : Nat)
def cbrtWay (x : Nat) : Option CbrtWay :=
  let t0 := cbrtT0 x
  (fMul t0 t0).bind fun a1 => (fQuo a1 x).bind fun r1 => (fMul r1 t0).bind fun a2 => (fAdd 4603064841997850097 a2).bind fun s1 =>
  (fAdd s1 4609048195788499471).bind fun b1 => (fQuo 13827900089180538932 s1).bind fun b2 => (fAdd b1 b2).bind fun b3 =>
  (fQuo 4609916747145206638 b3).bind fun b4 => (fAdd 4600105333671292343 b4).bind fun b5 => (fMul t0 b5).bind fun t1 =>
  let t2 := cbrtChop t1
  (fMul t2 t2).bind fun s2 => (fQuo x s2).bind fun r2 => (fAdd t2 t2).bind fun w1 => (fSub r2 t2).bind fun c1 => (fAdd w1 r2).bind fun c2 =>
  (fQuo c1 c2).bind fun r3 => (fMul t2 r3).bind fun c3 => (fAdd t2 c3).bind fun t =>
  some ⟨t0, a1, r1, a2, s1, b1, b2, b3, b4, b5, t1, t2, s2, r2, w1, c1, c2, r3, c3, t⟩
/-- No special case: neither a zero nor a NaN nor infinite nor negative nor below the normal numbers. -/
def plainW (x : Nat) : Bool :=
  !(FloatKind.f64.format.order x 0 == some .eq) && !(FloatKind.f64.format.order x x != some .eq) && !(FloatKind.f64.format.order (absW x) 9218868437227405311 == some .gt) &&
  !(FloatKind.f64.format.order x 0 == some .lt) && !(FloatKind.f64.format.order x 4503599627370496 == some .lt)
def cbrtW (x : Nat) : Option Nat := if plainW x then (cbrtWay x).map (·.t) else none
def rootW (p : Int) (d : Nat) : Option Nat := if d = 2 then FloatKind.f64.format.sqrt (floatOfInt .f64 p) else cbrtW (floatOfInt .f64 p)

def frac32W (p : Int) (d : Nat) : Option Int :=
  (rootW p d).bind fun r => (wholeW .zero r).bind fun i => (fSub r i).bind fun dd => (fMul (copyW dd r) 4751297606875873280).bind fun m => floatToIntVal .f64 m .u32

/-- One word of a product by whole + f / 2^64: the word, and what goes over to the next. -/
def timesStep (whole f below carry x : Int) : Int × Int :=
  let s1 := (mulLo x f + mulLo below whole) % 18446744073709551616
  let c1 := (mulLo x f + mulLo below whole) / 18446744073709551616
  ((s1 + carry) % 18446744073709551616, IntKind.u64.wrap (IntKind.u64.wrap (IntKind.u64.wrap (mulHi x f + mulHi below whole) + c1) + (s1 + carry) / 18446744073709551616))
/-- The first i words of the product, and what goes over. -/
def timesTo (whole f : Int) (z : List Int) : Nat → List Int × Int
  | 0 => ([], 0)
  | i + 1 =>
    let s := timesStep whole f (if i = 0 then 0 else z.getD (i - 1) 0) (timesTo whole f z i).2 (z.getD i 0)
    ((timesTo whole f z i).1 ++ [s.1], s.2)
def timesL (whole f : Int) (z : List Int) : List Int := (timesTo whole f z 4).1
def powerL (whole f : Int) : Nat → List Int
  | 0 => [1, 0, 0, 0]
  | n + 1 => timesL whole f (powerL whole f n)

def frac64W (p : Int) (d : Nat) : Option Int :=
  (rootW p d).bind fun e => (wholeW .zero e).bind fun i => (fSub e i).bind fun dd => (fMul (copyW dd e) 4895412794951729152).bind fun m =>
  (floatToIntVal .f64 m .u64).bind fun f => (floatToIntVal .f64 i .u64).bind fun wh =>
  (fQuo (floatOfInt .f64 ((powerL wh f d).getD (d - 2) 0)) 4895412794951729152).bind fun q =>
  (fAdd (floatOfInt .f64 (IntKind.i64.wrap ((powerL wh f d).getD (d - 1) 0))) q).bind fun ex =>
  (fMul (floatOfInt .f64 (d : Int)) (floatOfInt .f64 p)).bind fun m1 => (fQuo m1 e).bind fun sl => (fQuo (Op.negFloat .f64 ex) sl).bind fun q2 =>
  (wholeW .down q2).bind fun fl => (floatToIntVal .f64 fl .i64).bind fun n => some (IntKind.u64.wrap (f + IntKind.u64.wrap n))

def primes80 : List Int := [2, 3, 5, 7, 11, 13, 17, 19, 23, 29, 31, 37, 41, 43, 47, 53, 59, 61, 67, 71, 73, 79, 83, 89, 97, 101, 103, 107, 109, 113, 127, 131, 137, 139, 149, 151, 157, 163, 167, 173, 179, 181, 191, 193, 197, 199, 211, 223, 227, 229, 233, 239, 241, 251, 257, 263, 269, 271, 277, 281, 283, 293, 307, 311, 313, 317, 331, 337, 347, 349, 353, 359, 367, 373, 379, 383, 389, 397, 401, 409]

set_option maxRecDepth 1000000 in
theorem fracs64_cubes : primes80.map (frac64W · 3) = refKs.map some := by kernel_rfl
set_option maxRecDepth 1000000 in
theorem fracs64_squares : (primes80.take 8).map (frac64W · 2) = refIs.map some := by kernel_rfl
set_option maxRecDepth 1000000 in
theorem fracs32_cubes : (primes80.take 64).map (frac32W · 3) = (refKs.take 64).map (fun k => some (k / 4294967296)) := by kernel_rfl
set_option maxRecDepth 1000000 in
theorem fracs32_squares : (primes80.take 8).map (frac32W · 2) = refIs.map (fun k => some (k / 4294967296)) := by kernel_rfl
end Go.Proofs.Ytomeeeakaejokaa
