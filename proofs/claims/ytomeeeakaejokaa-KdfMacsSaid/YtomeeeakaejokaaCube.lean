/-
  ShaConstants: math/bits.Mul64, Add64, and the statement's cube.
-/
import Derived.Test.YtomeeeakaejokaaMkS
import Derived.Laws.Externs
import Derived.Deep.Cut
namespace Go.Proofs.Ytomeeeakaejokaa
open Go.RowKit

/-- The product of two words, as Go's text makes it: its upper half and its lower half. -/
def mulT (x y : Int) : Int := IntKind.u64.wrap (IntKind.u64.wrap (x / 4294967296 * bits .and .u64 y 4294967295) + IntKind.u64.wrap (bits .and .u64 x 4294967295 * bits .and .u64 y 4294967295) / 4294967296)
def mulHi (x y : Int) : Int :=
  IntKind.u64.wrap (IntKind.u64.wrap (IntKind.u64.wrap (x / 4294967296 * (y / 4294967296)) + mulT x y / 4294967296) +
    IntKind.u64.wrap (bits .and .u64 (mulT x y) 4294967295 + IntKind.u64.wrap (bits .and .u64 x 4294967295 * (y / 4294967296))) / 4294967296)
def mulLo (x y : Int) : Int := IntKind.u64.wrap (x * y)
theorem mulHi_nonneg (x y : Int) : 0 ≤ mulHi x y := wrap_u64_nonneg _
theorem mulLo_nonneg (x y : Int) : 0 ≤ mulLo x y := wrap_u64_nonneg _

/-- The cube of hi + lo / 2^64: its whole part, and two words of what is behind it, as the statement's text reckons. -/
def cubeOf (lo hi : Int) : Int × Int × Int :=
  let s0h := mulHi lo lo
  let s0 := mulLo lo lo
  let c1h := mulHi (IntKind.u64.wrap (2 * hi)) lo
  let c1 := mulLo (IntKind.u64.wrap (2 * hi)) lo
  let s1 := (s0h + c1) % 18446744073709551616
  let c := (s0h + c1) / 18446744073709551616
  let s2 := IntKind.u64.wrap (IntKind.u64.wrap (IntKind.u64.wrap (hi * hi) + c1h) + c)
  let t0h := mulHi s0 lo
  let a1h := mulHi s1 lo
  let a1 := mulLo s1 lo
  let b1h := mulHi s0 hi
  let b1 := mulLo s0 hi
  let x1 := (t0h + a1) % 18446744073709551616
  let d1 := (t0h + a1) / 18446744073709551616
  let x2 := (x1 + b1) % 18446744073709551616
  let d2 := (x1 + b1) / 18446744073709551616
  let e1h := mulHi s2 lo
  let e1 := mulLo s2 lo
  let f1h := mulHi s1 hi
  let f1 := mulLo s1 hi
  let y1 := (a1h + IntKind.u64.wrap (d1 + d2)) % 18446744073709551616
  let g0 := (a1h + IntKind.u64.wrap (d1 + d2)) / 18446744073709551616
  let y2 := (y1 + b1h) % 18446744073709551616
  let g1 := (y1 + b1h) / 18446744073709551616
  let y3 := (y2 + e1) % 18446744073709551616
  let g2 := (y2 + e1) / 18446744073709551616
  let y4 := (y3 + f1) % 18446744073709551616
  let g3 := (y3 + f1) / 18446744073709551616
  let z := IntKind.u64.wrap (IntKind.u64.wrap (IntKind.u64.wrap (IntKind.u64.wrap (IntKind.u64.wrap (IntKind.u64.wrap (IntKind.u64.wrap (s2 * hi) + e1h) + f1h) + g0) + g1) + g2) + g3)
  (z, x2, y4)
def belowB (lo hi p : Int) : Bool := decide ((cubeOf lo hi).1 < p) || (decide ((cubeOf lo hi).1 = p) && decide ((cubeOf lo hi).2.1 = 0) && decide ((cubeOf lo hi).2.2 = 0))

end Go.Proofs.Ytomeeeakaejokaa
