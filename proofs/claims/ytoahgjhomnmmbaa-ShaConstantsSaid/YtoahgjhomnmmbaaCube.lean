/-
  ShaConstants: math/bits.Mul64, Add64, and the statement's cube.
-/
import Derived.Test.YtoahgjhomnmmbaaMkS
import Derived.Laws.Externs
import Derived.Deep.Cut
namespace Go.Proofs.Ytoahgjhomnmmbaa
open Go.RowKit

/-- The product of two words, as Go's text makes it: its upper half and its lower half. -/
def mulT (x y : Int) : Int := IntKind.u64.wrap (IntKind.u64.wrap (x / 4294967296 * bits .and .u64 y 4294967295) + IntKind.u64.wrap (bits .and .u64 x 4294967295 * bits .and .u64 y 4294967295) / 4294967296)
def mulHi (x y : Int) : Int :=
  IntKind.u64.wrap (IntKind.u64.wrap (IntKind.u64.wrap (x / 4294967296 * (y / 4294967296)) + mulT x y / 4294967296) +
    IntKind.u64.wrap (bits .and .u64 (mulT x y) 4294967295 + IntKind.u64.wrap (bits .and .u64 x 4294967295 * (y / 4294967296))) / 4294967296)
def mulLo (x y : Int) : Int := IntKind.u64.wrap (x * y)
theorem mulHi_nonneg (x y : Int) : 0 ≤ mulHi x y := wrap_u64_nonneg _
theorem mulLo_nonneg (x y : Int) : 0 ≤ mulLo x y := wrap_u64_nonneg _

set_option maxHeartbeats 400000 in
theorem Mul64_any (x y : Int) (w : World) :
    Calls Try.prog 31 #[.int .u64 x, .int .u64 y] w fun e w' => e = .returned (.tuple #[.int .u64 (mulHi x y), .int .u64 (mulLo x y)]) ∧ w = w' := by
  go_enter Try.func31, Try.ntmps31
  go_wp2
  go_ret2
  exact ⟨rfl, rfl⟩

theorem Add64_run (x y : Int) (w : World) (hx : 0 ≤ x) (hy : 0 ≤ y) :
    (callFunc 32 #[.int .u64 x, .int .u64 y, .int .u64 0]).run Try.prog w = .ok (.value (.tuple #[.int .u64 ((x + y + 0) % 18446744073709551616), .int .u64 ((x + y + 0) / 18446744073709551616)])) w := by
  rw [run_callFunc_extern Try.func32 (by kernel_rfl) (by kernel_rfl) (by kernel_rfl) (e := add64Entry) (by kernel_rfl), run_add64 x y 0 hx hy (by omega) (by omega)]
  rfl

/-- The cube of hi + lo / 2^64: its whole part, and two words of what is behind it, as the statement's text reckons. -/
def cubeOf (lo hi : Int) : Int × Int × Int :=
  let s0h := mulHi lo lo
  let s0 := mulLo lo lo
  let c1h := mulHi (IntKind.u64.wrap (2 * hi)) lo
  let c1 := mulLo (IntKind.u64.wrap (2 * hi)) lo
  let s1 := (s0h + c1) % 18446744073709551616
  let c := (s0h + c1) / 18446744073709551616
  let s2 := IntKind.u64.wrap (IntKind.u64.wrap (IntKind.u64.wrap (hi * hi) + c1h) + c)
  let t0h := mulHi s0 lo
  let a1h := mulHi s1 lo
  let a1 := mulLo s1 lo
  let b1h := mulHi s0 hi
  let b1 := mulLo s0 hi
  let x1 := (t0h + a1) % 18446744073709551616
  let d1 := (t0h + a1) / 18446744073709551616
  let x2 := (x1 + b1) % 18446744073709551616
  let d2 := (x1 + b1) / 18446744073709551616
  let e1h := mulHi s2 lo
  let e1 := mulLo s2 lo
  let f1h := mulHi s1 hi
  let f1 := mulLo s1 hi
  let y1 := (a1h + IntKind.u64.wrap (d1 + d2)) % 18446744073709551616
  let g0 := (a1h + IntKind.u64.wrap (d1 + d2)) / 18446744073709551616
  let y2 := (y1 + b1h) % 18446744073709551616
  let g1 := (y1 + b1h) / 18446744073709551616
  let y3 := (y2 + e1) % 18446744073709551616
  let g2 := (y2 + e1) / 18446744073709551616
  let y4 := (y3 + f1) % 18446744073709551616
  let g3 := (y3 + f1) / 18446744073709551616
  let z := IntKind.u64.wrap (IntKind.u64.wrap (IntKind.u64.wrap (IntKind.u64.wrap (IntKind.u64.wrap (IntKind.u64.wrap (IntKind.u64.wrap (s2 * hi) + e1h) + f1h) + g0) + g1) + g2) + g3)
  (z, x2, y4)
def belowB (lo hi p : Int) : Bool := decide ((cubeOf lo hi).1 < p) || (decide ((cubeOf lo hi).1 = p) && decide ((cubeOf lo hi).2.1 = 0) && decide ((cubeOf lo hi).2.2 = 0))

set_option maxHeartbeats 1000000 in
set_option maxRecDepth 100000 in
theorem below_any (lo hi p : Int) (g : Nat) (w : World) (hp : w.cell? ⟨g, 0, none⟩ = some (.int .u64 p)) :
    Calls Try.prog 30 #[.int .u64 lo, .int .u64 hi, .pointer (some ⟨g, 0, none⟩)] w fun e w' => e = .returned (.bool (belowB lo hi p)) ∧ w = w' := by
  have HA := Add64_run
  go_enter Try.func30, Try.ntmps30
  go_wp2_with fail
  refine (Mul64_any lo lo w).mono ?_
  rintro e w' ⟨rfl, rfl⟩
  obtain ⟨s0h, q1⟩ : ∃ v, v = mulHi lo lo := ⟨_, rfl⟩
  obtain ⟨s0, q2⟩ : ∃ v, v = mulLo lo lo := ⟨_, rfl⟩
  rw [← q1, ← q2]
  have Ns0h : 0 ≤ s0h := by rw [q1]; exact mulHi_nonneg _ _
  have Ns0 : 0 ≤ s0 := by rw [q2]; exact mulLo_nonneg _ _
  have Qs0h := hid q1; have Qs0 := hid q2
  clear q1 q2
  go_wp2_with fail
  refine (Mul64_any (IntKind.u64.wrap (2 * hi)) lo w).mono ?_
  rintro e w' ⟨rfl, rfl⟩
  obtain ⟨c1h, q1⟩ : ∃ v, v = mulHi (IntKind.u64.wrap (2 * hi)) lo := ⟨_, rfl⟩
  obtain ⟨c1, q2⟩ : ∃ v, v = mulLo (IntKind.u64.wrap (2 * hi)) lo := ⟨_, rfl⟩
  rw [← q1, ← q2]
  have Nc1h : 0 ≤ c1h := by rw [q1]; exact mulHi_nonneg _ _
  have Nc1 : 0 ≤ c1 := by rw [q2]; exact mulLo_nonneg _ _
  have Qc1h := hid q1; have Qc1 := hid q2
  clear q1 q2
  go_upto_region 6 with (fail)
  obtain ⟨s1, q1⟩ : ∃ v : Int, v = (s0h + c1) % 18446744073709551616 := ⟨_, rfl⟩
  rw [← q1]
  have Qs1 := hid q1
  have Ns1 : 0 ≤ s1 := by rw [q1]; omega
  clear q1
  obtain ⟨c, q1⟩ : ∃ v : Int, v = (s0h + c1) / 18446744073709551616 := ⟨_, rfl⟩
  rw [← q1]
  have Qc := hid q1
  have Nc : 0 ≤ c := by rw [q1]; omega
  clear q1
  obtain ⟨s2, q1⟩ : ∃ v : Int, v = IntKind.u64.wrap (IntKind.u64.wrap (IntKind.u64.wrap (hi * hi) + c1h) + c) := ⟨_, rfl⟩
  rw [← q1]
  have Qs2 := hid q1
  have Ns2 : 0 ≤ s2 := by rw [q1]; exact wrap_u64_nonneg _
  clear q1
  go_wp2_with fail
  refine (Mul64_any s0 lo w).mono ?_
  rintro e w' ⟨rfl, rfl⟩
  obtain ⟨t0h, q1⟩ : ∃ v, v = mulHi s0 lo := ⟨_, rfl⟩
  obtain ⟨t0, q2⟩ : ∃ v, v = mulLo s0 lo := ⟨_, rfl⟩
  rw [← q1, ← q2]
  have Nt0h : 0 ≤ t0h := by rw [q1]; exact mulHi_nonneg _ _
  have Nt0 : 0 ≤ t0 := by rw [q2]; exact mulLo_nonneg _ _
  have Qt0h := hid q1; have Qt0 := hid q2
  clear q1 q2
  go_wp2_with fail
  refine (Mul64_any s1 lo w).mono ?_
  rintro e w' ⟨rfl, rfl⟩
  obtain ⟨a1h, q1⟩ : ∃ v, v = mulHi s1 lo := ⟨_, rfl⟩
  obtain ⟨a1, q2⟩ : ∃ v, v = mulLo s1 lo := ⟨_, rfl⟩
  rw [← q1, ← q2]
  have Na1h : 0 ≤ a1h := by rw [q1]; exact mulHi_nonneg _ _
  have Na1 : 0 ≤ a1 := by rw [q2]; exact mulLo_nonneg _ _
  have Qa1h := hid q1; have Qa1 := hid q2
  clear q1 q2
  go_wp2_with fail
  refine (Mul64_any s0 hi w).mono ?_
  rintro e w' ⟨rfl, rfl⟩
  obtain ⟨b1h, q1⟩ : ∃ v, v = mulHi s0 hi := ⟨_, rfl⟩
  obtain ⟨b1, q2⟩ : ∃ v, v = mulLo s0 hi := ⟨_, rfl⟩
  rw [← q1, ← q2]
  have Nb1h : 0 ≤ b1h := by rw [q1]; exact mulHi_nonneg _ _
  have Nb1 : 0 ≤ b1 := by rw [q2]; exact mulLo_nonneg _ _
  have Qb1h := hid q1; have Qb1 := hid q2
  clear q1 q2
  go_upto_region 10 with (fail)
  obtain ⟨x1, q1⟩ : ∃ v : Int, v = (t0h + a1) % 18446744073709551616 := ⟨_, rfl⟩
  rw [← q1]
  have Qx1 := hid q1
  have Nx1 : 0 ≤ x1 := by rw [q1]; omega
  clear q1
  obtain ⟨d1, q1⟩ : ∃ v : Int, v = (t0h + a1) / 18446744073709551616 := ⟨_, rfl⟩
  rw [← q1]
  have Qd1 := hid q1
  have Nd1 : 0 ≤ d1 := by rw [q1]; omega
  clear q1
  go_upto_region 11 with (fail)
  obtain ⟨x2, q1⟩ : ∃ v : Int, v = (x1 + b1) % 18446744073709551616 := ⟨_, rfl⟩
  rw [← q1]
  have Qx2 := hid q1
  have Nx2 : 0 ≤ x2 := by rw [q1]; omega
  clear q1
  obtain ⟨d2, q1⟩ : ∃ v : Int, v = (x1 + b1) / 18446744073709551616 := ⟨_, rfl⟩
  rw [← q1]
  have Qd2 := hid q1
  have Nd2 : 0 ≤ d2 := by rw [q1]; omega
  clear q1
  go_wp2_with fail
  refine (Mul64_any s2 lo w).mono ?_
  rintro e w' ⟨rfl, rfl⟩
  obtain ⟨e1h, q1⟩ : ∃ v, v = mulHi s2 lo := ⟨_, rfl⟩
  obtain ⟨e1, q2⟩ : ∃ v, v = mulLo s2 lo := ⟨_, rfl⟩
  rw [← q1, ← q2]
  have Ne1h : 0 ≤ e1h := by rw [q1]; exact mulHi_nonneg _ _
  have Ne1 : 0 ≤ e1 := by rw [q2]; exact mulLo_nonneg _ _
  have Qe1h := hid q1; have Qe1 := hid q2
  clear q1 q2
  go_wp2_with fail
  refine (Mul64_any s1 hi w).mono ?_
  rintro e w' ⟨rfl, rfl⟩
  obtain ⟨f1h, q1⟩ : ∃ v, v = mulHi s1 hi := ⟨_, rfl⟩
  obtain ⟨f1, q2⟩ : ∃ v, v = mulLo s1 hi := ⟨_, rfl⟩
  rw [← q1, ← q2]
  have Nf1h : 0 ≤ f1h := by rw [q1]; exact mulHi_nonneg _ _
  have Nf1 : 0 ≤ f1 := by rw [q2]; exact mulLo_nonneg _ _
  have Qf1h := hid q1; have Qf1 := hid q2
  clear q1 q2
  go_upto_region 14 with (fail)
  obtain ⟨y1, q1⟩ : ∃ v : Int, v = (a1h + IntKind.u64.wrap (d1 + d2)) % 18446744073709551616 := ⟨_, rfl⟩
  rw [← q1]
  have Qy1 := hid q1
  have Ny1 : 0 ≤ y1 := by rw [q1]; have := wrap_u64_nonneg (d1 + d2); omega
  clear q1
  obtain ⟨g0, q1⟩ : ∃ v : Int, v = (a1h + IntKind.u64.wrap (d1 + d2)) / 18446744073709551616 := ⟨_, rfl⟩
  rw [← q1]
  have Qg0 := hid q1
  have Ng0 : 0 ≤ g0 := by rw [q1]; have := wrap_u64_nonneg (d1 + d2); omega
  clear q1
  go_upto_region 15 with (fail)
  obtain ⟨y2, q1⟩ : ∃ v : Int, v = (y1 + b1h) % 18446744073709551616 := ⟨_, rfl⟩
  rw [← q1]
  have Qy2 := hid q1
  have Ny2 : 0 ≤ y2 := by rw [q1]; omega
  clear q1
  obtain ⟨g1, q1⟩ : ∃ v : Int, v = (y1 + b1h) / 18446744073709551616 := ⟨_, rfl⟩
  rw [← q1]
  have Qg1 := hid q1
  have Ng1 : 0 ≤ g1 := by rw [q1]; omega
  clear q1
  go_upto_region 16 with (fail)
  obtain ⟨y3, q1⟩ : ∃ v : Int, v = (y2 + e1) % 18446744073709551616 := ⟨_, rfl⟩
  rw [← q1]
  have Qy3 := hid q1
  have Ny3 : 0 ≤ y3 := by rw [q1]; omega
  clear q1
  obtain ⟨g2, q1⟩ : ∃ v : Int, v = (y2 + e1) / 18446744073709551616 := ⟨_, rfl⟩
  rw [← q1]
  have Qg2 := hid q1
  have Ng2 : 0 ≤ g2 := by rw [q1]; omega
  clear q1
  go_upto_region 17 with (fail)
  obtain ⟨y4, q1⟩ : ∃ v : Int, v = (y3 + f1) % 18446744073709551616 := ⟨_, rfl⟩
  rw [← q1]
  have Qy4 := hid q1
  have Ny4 : 0 ≤ y4 := by rw [q1]; omega
  clear q1
  obtain ⟨g3, q1⟩ : ∃ v : Int, v = (y3 + f1) / 18446744073709551616 := ⟨_, rfl⟩
  rw [← q1]
  have Qg3 := hid q1
  have Ng3 : 0 ≤ g3 := by rw [q1]; omega
  clear q1
  go_upto_region 18 with (fail)
  obtain ⟨z, q1⟩ : ∃ v : Int, v = IntKind.u64.wrap (IntKind.u64.wrap (IntKind.u64.wrap (IntKind.u64.wrap (IntKind.u64.wrap (IntKind.u64.wrap (IntKind.u64.wrap (s2 * hi) + e1h) + f1h) + g0) + g1) + g2) + g3) := ⟨_, rfl⟩
  rw [← q1]
  have Qz := hid q1
  clear q1
  have hz : cubeOf lo hi = (z, x2, y4) := by
    have ez := Qz.out
    have eg3 := Qg3.out
    have ey4 := Qy4.out
    have eg2 := Qg2.out
    have ey3 := Qy3.out
    have eg1 := Qg1.out
    have ey2 := Qy2.out
    have eg0 := Qg0.out
    have ey1 := Qy1.out
    have ef1h := Qf1h.out
    have ef1 := Qf1.out
    have ee1h := Qe1h.out
    have ee1 := Qe1.out
    have ed2 := Qd2.out
    have ex2 := Qx2.out
    have ed1 := Qd1.out
    have ex1 := Qx1.out
    have eb1h := Qb1h.out
    have eb1 := Qb1.out
    have ea1h := Qa1h.out
    have ea1 := Qa1.out
    have et0h := Qt0h.out
    have et0 := Qt0.out
    have es2 := Qs2.out
    have ec := Qc.out
    have es1 := Qs1.out
    have ec1h := Qc1h.out
    have ec1 := Qc1.out
    have es0h := Qs0h.out
    have es0 := Qs0.out
    clear HA
    subst ez
    subst eg3
    subst ey4
    subst eg2
    subst ey3
    subst eg1
    subst ey2
    subst eg0
    subst ey1
    subst ef1h
    subst ef1
    subst ee1h
    subst ee1
    subst ed2
    subst ex2
    subst ed1
    subst ex1
    subst eb1h
    subst eb1
    subst ea1h
    subst ea1
    subst et0h
    subst et0
    subst es2
    subst ec
    subst es1
    subst ec1h
    subst ec1
    subst es0h
    subst es0
    rfl
  have HZ := hid hz
  clear hz
  by_cases h1 : z < p
  · go_wp2
    go_ret
    exact ⟨by rw [belowB, HZ.out]; simp [h1], rfl⟩
  by_cases h2 : z = p
  · subst h2
    have h2' : (z == z) = true := by simp
    by_cases h3 : x2 = 0
    · have h3' : (x2 == 0) = true := by simp [h3]
      by_cases h4 : y4 = 0
      · have h4' : (y4 == 0) = true := by simp [h4]
        go_wp2
        go_ret
        exact ⟨by rw [belowB, HZ.out]; simp [h3, h4], rfl⟩
      · have h4' : (y4 == 0) = false := by simp [h4]
        go_wp2
        go_ret
        exact ⟨by rw [belowB, HZ.out]; simp [h4], rfl⟩
    · have h3' : (x2 == 0) = false := by simp [h3]
      go_wp2
      go_ret
      exact ⟨by rw [belowB, HZ.out]; simp [h3], rfl⟩
  · have h2' : (z == p) = false := by simp [h2]
    go_wp2
    go_ret
    exact ⟨by rw [belowB, HZ.out]; simp [h1, h2], rfl⟩
end Go.Proofs.Ytoahgjhomnmmbaa
