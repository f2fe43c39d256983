/-
  What the program's constants come to: the estimates of the roots and their correction, as plain functions, reckoned by the kernel.
-/
import Derived.Test.YtdeigmjbcbjgeaaGreatDoorYdCube
import Derived.Test.YtdeigmjbcbjgeaaGreatDoorYdPrgFloat
import Derived.Test.YtdeigmjbcbjgeaaGreatDoorYdRefBlk
import Derived.BigQuiet
import Derived.BigRegion
import Derived.StillTailTactics
import Derived.Test.YtdeigmjbcbjgeaaGreatDoorYdTail
namespace Go.Proofs.YtdeigmjbcbjgeaaGreatDoor
open Go.RowKit

abbrev fMul (x y : Nat) : Option Nat := floatBits .mul .f64 x y
abbrev fQuo (x y : Nat) : Option Nat := floatBits .quo .f64 x y
abbrev fAdd (x y : Nat) : Option Nat := floatBits .add .f64 x y
abbrev fSub (x y : Nat) : Option Nat := floatBits .sub .f64 x y

def cbrtT0 (x : Nat) : Nat := (IntKind.u64.wrap (IntKind.u64.wrap ((x : Int) / 3) + 3071306043645493248)).toNat
def cbrtChop (t : Nat) : Nat := (IntKind.u64.wrap (bits .and .u64 (t : Int) 18446744072635809792 + 1073741824)).toNat
/-- Every value on cbrt's way. -/
structure CbrtWay where
  (t0 a1 r1 a2 s1 b1 b2 b3 b4 b5 t1 t2 s2 r2 w1 c1 c2 r3 c3 t : Nat)
def cbrtWay (x : Nat) : Option CbrtWay :=
  let t0 := cbrtT0 x
  (fMul t0 t0).bind fun a1 => (fQuo a1 x).bind fun r1 => (fMul r1 t0).bind fun a2 => (fAdd 4603064841997850097 a2).bind fun s1 =>
  (fAdd s1 4609048195788499471).bind fun b1 => (fQuo 13827900089180538932 s1).bind fun b2 => (fAdd b1 b2).bind fun b3 =>
  (fQuo 4609916747145206638 b3).bind fun b4 => (fAdd 4600105333671292343 b4).bind fun b5 => (fMul t0 b5).bind fun t1 =>
  let t2 := cbrtChop t1
  (fMul t2 t2).bind fun s2 => (fQuo x s2).bind fun r2 => (fAdd t2 t2).bind fun w1 => (fSub r2 t2).bind fun c1 => (fAdd w1 r2).bind fun c2 =>
  (fQuo c1 c2).bind fun r3 => (fMul t2 r3).bind fun c3 => (fAdd t2 c3).bind fun t =>
  some ⟨t0, a1, r1, a2, s1, b1, b2, b3, b4, b5, t1, t2, s2, r2, w1, c1, c2, r3, c3, t⟩
/-- No special case: neither a zero nor a NaN nor infinite nor negative nor below the normal numbers. -/
def plainW (x : Nat) : Bool :=
  !(FloatKind.f64.format.order x 0 == some .eq) && !(FloatKind.f64.format.order x x != some .eq) && !(FloatKind.f64.format.order (absW x) 9218868437227405311 == some .gt) &&
  !(FloatKind.f64.format.order x 0 == some .lt) && !(FloatKind.f64.format.order x 4503599627370496 == some .lt)
def cbrtW (x : Nat) : Option Nat := if plainW x then (cbrtWay x).map (·.t) else none
def rootW (p : Int) (d : Nat) : Option Nat := if d = 2 then FloatKind.f64.format.sqrt (floatOfInt .f64 p) else cbrtW (floatOfInt .f64 p)

/-- One word of a product by whole + f / 2^64: the word, and what goes over to the next. -/
def timesStep (whole f below carry x : Int) : Int × Int :=
  let s1 := (mulLo x f + mulLo below whole) % 18446744073709551616
  let c1 := (mulLo x f + mulLo below whole) / 18446744073709551616
  ((s1 + carry) % 18446744073709551616, IntKind.u64.wrap (IntKind.u64.wrap (IntKind.u64.wrap (mulHi x f + mulHi below whole) + c1) + (s1 + carry) / 18446744073709551616))
/-- The first i words of the product, and what goes over. -/
def timesTo (whole f : Int) (z : List Int) : Nat → List Int × Int
  | 0 => ([], 0)
  | i + 1 =>
    let s := timesStep whole f (if i = 0 then 0 else z.getD (i - 1) 0) (timesTo whole f z i).2 (z.getD i 0)
    ((timesTo whole f z i).1 ++ [s.1], s.2)
def timesL (whole f : Int) (z : List Int) : List Int := (timesTo whole f z 4).1
def powerL (whole f : Int) : Nat → List Int
  | 0 => [1, 0, 0, 0]
  | n + 1 => timesL whole f (powerL whole f n)

def frac64W (p : Int) (d : Nat) : Option Int :=
  (rootW p d).bind fun e => (wholeW .zero e).bind fun i => (fSub e i).bind fun dd => (fMul (copyW dd e) 4895412794951729152).bind fun m =>
  (floatToIntVal .f64 m .u64).bind fun f => (floatToIntVal .f64 i .u64).bind fun wh =>
  (fQuo (floatOfInt .f64 ((powerL wh f d).getD (d - 2) 0)) 4895412794951729152).bind fun q =>
  (fAdd (floatOfInt .f64 (IntKind.i64.wrap ((powerL wh f d).getD (d - 1) 0))) q).bind fun ex =>
  (fMul (floatOfInt .f64 (d : Int)) (floatOfInt .f64 p)).bind fun m1 => (fQuo m1 e).bind fun sl => (fQuo (Op.negFloat .f64 ex) sl).bind fun q2 =>
  (wholeW .down q2).bind fun fl => (floatToIntVal .f64 fl .i64).bind fun n => some (IntKind.u64.wrap (f + IntKind.u64.wrap n))

def primes80 : List Int := [2, 3, 5, 7, 11, 13, 17, 19, 23, 29, 31, 37, 41, 43, 47, 53, 59, 61, 67, 71, 73, 79, 83, 89, 97, 101, 103, 107, 109, 113, 127, 131, 137, 139, 149, 151, 157, 163, 167, 173, 179, 181, 191, 193, 197, 199, 211, 223, 227, 229, 233, 239, 241, 251, 257, 263, 269, 271, 277, 281, 283, 293, 307, 311, 313, 317, 331, 337, 347, 349, 353, 359, 367, 373, 379, 383, 389, 397, 401, 409]

set_option maxRecDepth 1000000 in
theorem fracs64_cubes : primes80.map (frac64W · 3) = refKs.map some := by kernel_rfl
set_option maxRecDepth 1000000 in
theorem fracs64_squares : (primes80.take 8).map (frac64W · 2) = refIs.map some := by kernel_rfl
end Go.Proofs.YtdeigmjbcbjgeaaGreatDoor
/-
  The program's roots: walked.
-/
namespace Go.Proofs.YtdeigmjbcbjgeaaGreatDoor
open Go.RowKit

set_option maxHeartbeats 2000000 in
set_option maxRecDepth 100000 in
theorem cbrt_any (x r : Nat) (w : World) (h : cbrtW x = some r) :
    Calls Tryz.prog 148 #[.float .f64 x] w fun e w' => e = .returned (.float .f64 r) ∧ w = w' := by
  have hb := Bits_run
  have hf := From_run
  unfold cbrtW at h
  split at h
  case isFalse => cases h
  rename_i hp
  simp only [plainW, Bool.and_eq_true, Bool.not_eq_true'] at hp
  obtain ⟨⟨⟨⟨p1, p2⟩, p3⟩, p4⟩, p5⟩ := hp
  have HN := hid (fun w => IsNaN_any x w p2)
  have HI := hid (fun w => IsInf_any x w p3)
  simp only [Option.map_eq_some_iff, cbrtWay, Option.bind_eq_some_iff, Option.some.injEq] at h
  obtain ⟨ww, ⟨a1, h0, r1, h1, a2, h2, s1, h3, b1, h4, b2, h5, b3, h6, b4, h7, b5, h8, t1, h9, s2, h10, r2, h11, w1, h12, c1, h13, c2, h14, r3, h15, c3, h16, t, h17, e⟩, rfl⟩ := h
  subst e
  have ht0 := hid (show (IntKind.u64.wrap (IntKind.u64.wrap ((x : Int) / 3) + 3071306043645493248)).toNat = cbrtT0 x from rfl)
  generalize cbrtT0 x = t0 at *
  have ht2 := hid (show (IntKind.u64.wrap (bits .and .u64 (t1 : Int) 18446744072635809792 + 1073741824)).toNat = cbrtChop t1 from rfl)
  generalize cbrtChop t1 = t2 at *
  have f0 := fun w => run_float_arith (P := Tryz.prog) w .mul 136 .f64 t0 t0 a1 h0
  have f1 := fun w => run_float_arith (P := Tryz.prog) w .quo 136 .f64 a1 x r1 h1
  have f2 := fun w => run_float_arith (P := Tryz.prog) w .mul 136 .f64 r1 t0 a2 h2
  have f3 := fun w => run_float_arith (P := Tryz.prog) w .add 136 .f64 4603064841997850097 a2 s1 h3
  have f4 := fun w => run_float_arith (P := Tryz.prog) w .add 136 .f64 s1 4609048195788499471 b1 h4
  have f5 := fun w => run_float_arith (P := Tryz.prog) w .quo 136 .f64 13827900089180538932 s1 b2 h5
  have f6 := fun w => run_float_arith (P := Tryz.prog) w .add 136 .f64 b1 b2 b3 h6
  have f7 := fun w => run_float_arith (P := Tryz.prog) w .quo 136 .f64 4609916747145206638 b3 b4 h7
  have f8 := fun w => run_float_arith (P := Tryz.prog) w .add 136 .f64 4600105333671292343 b4 b5 h8
  have f9 := fun w => run_float_arith (P := Tryz.prog) w .mul 136 .f64 t0 b5 t1 h9
  have f10 := fun w => run_float_arith (P := Tryz.prog) w .mul 136 .f64 t2 t2 s2 h10
  have f11 := fun w => run_float_arith (P := Tryz.prog) w .quo 136 .f64 x s2 r2 h11
  have f12 := fun w => run_float_arith (P := Tryz.prog) w .add 136 .f64 t2 t2 w1 h12
  have f13 := fun w => run_float_arith (P := Tryz.prog) w .sub 136 .f64 r2 t2 c1 h13
  have f14 := fun w => run_float_arith (P := Tryz.prog) w .add 136 .f64 w1 r2 c2 h14
  have f15 := fun w => run_float_arith (P := Tryz.prog) w .quo 136 .f64 c1 c2 r3 h15
  have f16 := fun w => run_float_arith (P := Tryz.prog) w .mul 136 .f64 t2 r3 c3 h16
  have f17 := fun w => run_float_arith (P := Tryz.prog) w .add 136 .f64 t2 c3 t h17
  clear h0 h1 h2 h3 h4 h5 h6 h7 h8 h9 h10 h11 h12 h13 h14 h15 h16 h17 p2 p3
  go_enter Tryz.func148, Tryz.ntmps148
  go_wp2_with fail
  refine (HN.out w).mono ?_
  rintro e w' ⟨rfl, rfl⟩
  go_wp2_with fail
  refine (HI.out w).mono ?_
  rintro e w' ⟨rfl, rfl⟩
  go_upto_region 8 with (fail)
  rw [ht0.out]
  go_upto_region 16 with (fail)
  rw [ht2.out]
  go_wp2_with fail
  go_ret
  exact ⟨rfl, rfl⟩
end Go.Proofs.YtdeigmjbcbjgeaaGreatDoor
/-
  The program's roots, products of words, and fractions: walked.
-/
namespace Go.Proofs.YtdeigmjbcbjgeaaGreatDoor
open Go.RowKit

set_option maxHeartbeats 400000 in
theorem Cbrt_any (x r : Nat) (w : World) (h : cbrtW x = some r) :
    Calls Tryz.prog 140 #[.float .f64 x] w fun e w' => e = .returned (.float .f64 r) ∧ w = w' := by
  have H := hid (cbrt_any x r w h)
  clear h
  go_enter Tryz.func140, Tryz.ntmps140
  go_wp2_with fail
  refine (H.out).mono ?_
  rintro e w' ⟨rfl, rfl⟩
  go_wp2_with fail
  go_ret
  exact ⟨rfl, rfl⟩

set_option maxHeartbeats 400000 in
theorem root2_any (p : Int) (r : Nat) (w : World) (h : rootW p 2 = some r) :
    Calls Tryz.prog 134 #[.int .u64 p, .int .i64 2] w fun e w' => e = .returned (.float .f64 r) ∧ w = w' := by
  rw [rootW, if_pos rfl] at h
  have H := hid ((Sqrt_any (floatOfInt .f64 p) r w h).mono fun _ _ q => (⟨q.1, q.2.symm⟩ : _ ∧ w = _))
  clear h
  go_enter Tryz.func134, Tryz.ntmps134
  go_wp2_with fail
  refine (H.out).mono ?_
  rintro e w' ⟨rfl, rfl⟩
  go_wp2_with fail
  go_ret
  exact ⟨rfl, rfl⟩

set_option maxHeartbeats 400000 in
theorem root3_any (p : Int) (r : Nat) (w : World) (h : rootW p 3 = some r) :
    Calls Tryz.prog 134 #[.int .u64 p, .int .i64 3] w fun e w' => e = .returned (.float .f64 r) ∧ w = w' := by
  rw [rootW, if_neg (by decide)] at h
  have H := hid (Cbrt_any (floatOfInt .f64 p) r w h)
  clear h
  go_enter Tryz.func134, Tryz.ntmps134
  go_wp2_with fail
  refine (H.out).mono ?_
  rintro e w' ⟨rfl, rfl⟩
  go_wp2_with fail
  go_ret
  exact ⟨rfl, rfl⟩

theorem root_any (p : Int) (d r : Nat) (w : World) (hd : d = 2 ∨ d = 3) (h : rootW p d = some r) :
    Calls Tryz.prog 134 #[.int .u64 p, .int .i64 d] w fun e w' => e = .returned (.float .f64 r) ∧ w = w' := by
  rcases hd with rfl | rfl
  · exact root2_any p r w h
  · exact root3_any p r w h

def TimesRel (whole f : Int) (z : List Int) (g : Nat) (wp : World) (below carry i : Value) (wr : World) : Prop :=
  ∃ n : Nat, i = .int .i64 n ∧ n ≤ 4 ∧ below = .int .u64 (if n = 0 then 0 else z.getD (n - 1) 0) ∧ carry = .int .u64 (timesTo whole f z n).2 ∧
    wr.heap[g]? = some (.cells (wordsOf .u64 ((timesTo whole f z n).1 ++ z.drop n)) 53 (0, 0)) ∧ Keeps (· = g) wp wr
theorem timesTo_len (whole f : Int) (z : List Int) : ∀ n, (timesTo whole f z n).1.length = n
  | 0 => rfl
  | n + 1 => by simp [timesTo, timesTo_len whole f z n]
theorem timesTo_nonneg (whole f : Int) (z : List Int) : ∀ n, 0 ≤ (timesTo whole f z n).2
  | 0 => by simp [timesTo]
  | n + 1 => by simp only [timesTo, timesStep]; exact wrap_u64_nonneg _
theorem set_append_drop (L z : List Int) (n : Nat) (x : Int) (h : L.length = n) (hn : n < z.length) : (L ++ z.drop n).set n x = (L ++ [x]) ++ z.drop (n + 1) := by
  subst h
  rw [List.set_append_right _ _ (Nat.le_refl _), Nat.sub_self, List.drop_eq_getElem_cons hn]
  simp only [List.set_cons_zero, List.append_assoc, List.singleton_append]

set_option maxHeartbeats 2000000 in
set_option maxRecDepth 100000 in
theorem times_any (whole f : Int) (z0 z1 z2 z3 : Int) (w : World) :
    Calls Tryz.prog 143 #[.agg #[.int .u64 z0, .int .u64 z1, .int .u64 z2, .int .u64 z3], .int .u64 whole, .int .u64 f] w fun e w' =>
      e = .returned (.agg (wordsOf .u64 (timesL whole f [z0, z1, z2, z3]))) ∧ Keeps (fun _ => False) w w' := by
  have hA := Add64_run
  obtain ⟨z, hz⟩ : ∃ z : List Int, z = [z0, z1, z2, z3] := ⟨_, rfl⟩
  have hix := fun (i : Nat) (hi : i < z.length) W => run_index_words (P := Tryz.prog) 53 52 .u64 z (by rw [hz]; exact Tryz.underlying53) (fun w => by kernel_rfl) (by kernel_rfl) i hi W
  have HIX := hid hix
  have HL := hid (show z.length = 4 by rw [hz]; rfl)
  have HZ := hid (show wordsOf .u64 z = #[.int .u64 z0, .int .u64 z1, .int .u64 z2, .int .u64 z3] by rw [hz]; rfl)
  have HT := hid (show timesL whole f [z0, z1, z2, z3] = (timesTo whole f z 4).1 by rw [hz]; rfl)
  clear hz hix
  go_enter Tryz.func143, Tryz.ntmps143
  go_wp2
  rw [← HZ.out]
  obtain ⟨Z, hZ⟩ : ∃ Z, Z = wordsOf .u64 z := ⟨_, rfl⟩
  rw [← hZ] at HIX ⊢
  have HZW := hid hZ
  clear hZ HZ
  obtain ⟨w2, hw2⟩ : ∃ w2, w2 = (w.alloc (Obj.cells Z 53)).alloc (Obj.cells #[.int .u64 0, .int .u64 0, .int .u64 0, .int .u64 0] 53) := ⟨_, rfl⟩
  rw [← hw2]
  have hgz : w2.heap[w.heap.size]? = some (.cells (wordsOf .u64 ((timesTo whole f z 0).1 ++ z.drop 0)) 53 (0, 0)) := by
    rw [hw2, heap_alloc2_old, HZW.out]; rfl
  have hgr : w2.heap[w.heap.size + 1]? = some (.cells #[.int .u64 0, .int .u64 0, .int .u64 0, .int .u64 0] 53 (0, 0)) := by
    rw [hw2]; exact heap_alloc2_new w _ _
  have kp2 : Keeps (fun _ => False) w w2 := by rw [hw2]; exact ((Keeps.refl _ w).alloc _).alloc _
  have hs2 : w2.heap.size = w.heap.size + 2 := by rw [hw2]; simp
  obtain ⟨g, hg⟩ : ∃ g, g = w.heap.size := ⟨_, rfl⟩
  rw [← hg] at hgz hgr hs2 ⊢
  have HG := hid hg
  have HGR := hid hgr
  have HS2 := hid hs2
  clear hw2 hg hgr hs2
  go_loopw [7, 8, 19] (fun b c i wr => TimesRel whole f z g w2 b c i wr) (fun _ _ i _ => 4 - (intOf i).toNat)
  case atStart => exact ⟨0, rfl, by omega, rfl, rfl, hgz, Keeps.refl _ _⟩
  case round =>
    clear hgz
    obtain ⟨n, rfl, hn, rfl, rfl, hgz, hkr⟩ := hrel
    by_cases hlt : n < 4
    · have hlt' : (n : Int) < 4 := by omega
      have hix := HIX.out n (by have := HL.out; omega)
      obtain ⟨x, hx⟩ : ∃ x, x = z.getD n 0 := ⟨_, rfl⟩
      rw [← hx] at hix
      have HX := hid hx
      obtain ⟨b, hb⟩ : ∃ b : Int, b = if n = 0 then 0 else z.getD (n - 1) 0 := ⟨_, rfl⟩
      rw [← hb]
      have HB := hid hb
      have hc0 := timesTo_nonneg whole f z n
      obtain ⟨c, hc⟩ : ∃ c : Int, c = (timesTo whole f z n).2 := ⟨_, rfl⟩
      rw [← hc] at hc0 ⊢
      have HC := hid hc
      clear hx hb hc
      go_wp2_with fail
      refine (Mul64_any x f wr).mono ?_
      rintro e w' ⟨rfl, rfl⟩
      obtain ⟨h1, q1⟩ : ∃ v, v = mulHi x f := ⟨_, rfl⟩
      obtain ⟨l1, q2⟩ : ∃ v, v = mulLo x f := ⟨_, rfl⟩
      rw [← q1, ← q2]
      have N1 : 0 ≤ l1 := by rw [q2]; exact mulLo_nonneg _ _
      have Q1 := hid q1; have Q2 := hid q2
      clear q1 q2
      go_wp2_with fail
      refine (Mul64_any b whole wr).mono ?_
      rintro e w' ⟨rfl, rfl⟩
      obtain ⟨h2, q1⟩ : ∃ v, v = mulHi b whole := ⟨_, rfl⟩
      obtain ⟨l2, q2⟩ : ∃ v, v = mulLo b whole := ⟨_, rfl⟩
      rw [← q1, ← q2]
      have N2 : 0 ≤ l2 := by rw [q2]; exact mulLo_nonneg _ _
      have Q3 := hid q1; have Q4 := hid q2
      clear q1 q2
      go_upto_region 8 with (fail)
      obtain ⟨s1, q1⟩ : ∃ v : Int, v = (l1 + l2) % 18446744073709551616 := ⟨_, rfl⟩
      obtain ⟨c1, q2⟩ : ∃ v : Int, v = (l1 + l2) / 18446744073709551616 := ⟨_, rfl⟩
      rw [← q1, ← q2]
      have N3 : 0 ≤ s1 := by rw [q1]; omega
      have Q5 := hid q1; have Q6 := hid q2
      clear q1 q2
      go_upto_region 9 with (fail)
      obtain ⟨s2, q1⟩ : ∃ v : Int, v = (s1 + c) % 18446744073709551616 := ⟨_, rfl⟩
      obtain ⟨c2, q2⟩ : ∃ v : Int, v = (s1 + c) / 18446744073709551616 := ⟨_, rfl⟩
      rw [← q1, ← q2]
      have Q7 := hid q1; have Q8 := hid q2
      clear q1 q2
      have hlen : ((timesTo whole f z n).1 ++ z.drop n).length = 4 := by simp [timesTo_len, HL.out]; omega
      have cw : wr.cell? ⟨g, n, none⟩ = some (.int .u64 (((timesTo whole f z n).1 ++ z.drop n).getD n 0)) := by
        rw [cell_of_row wr g n _ _ _ hgz, wordsOf_get _ _ _ (by omega)]
      generalize ((timesTo whole f z n).1 ++ z.drop n).getD n 0 = y at cw
      have fw : wr.frozen? ⟨g, n, none⟩ = false := frozen_of_row wr g n _ _ hgz
      clear hlen
      go_wp2_with fail
      go_roundw
      case rel =>
        have hst : timesStep whole f b c x = (s2, IntKind.u64.wrap (IntKind.u64.wrap (IntKind.u64.wrap (h1 + h2) + c1) + c2)) := by
          simp only [timesStep, ← Q1.out, ← Q2.out, ← Q3.out, ← Q4.out, ← Q5.out, ← Q6.out, ← Q7.out, ← Q8.out]
        have hto : timesTo whole f z (n + 1) = ((timesTo whole f z n).1 ++ [s2], IntKind.u64.wrap (IntKind.u64.wrap (IntKind.u64.wrap (h1 + h2) + c1) + c2)) := by
          simp only [timesTo, ← HB.out, ← HC.out, ← HX.out, hst]
        refine ⟨n + 1, rfl, by omega, ?_, by rw [hto], ?_, Keeps.setCell hkr _ _ (fun _ => rfl)⟩
        · rw [HX.out]; simp
        · rw [heap_setCell_same wr g n _ _ _ hgz, wordsOf_set, set_append_drop _ _ _ _ (timesTo_len whole f z n) (by have := HL.out; omega), hto]
      case measure => simp [intOf]; omega
    · have h4 : n = 4 := by omega
      subst h4
      have hgr : wr.heap[g + 1]? = some (.cells #[.int .u64 0, .int .u64 0, .int .u64 0, .int .u64 0] 53 (0, 0)) := by
        rw [hkr.block (g + 1) (by have := HS2.out; omega) (by omega)]; exact HGR.out
      have hd : (timesTo whole f z 4).1 ++ z.drop 4 = (timesTo whole f z 4).1 := by
        rw [List.drop_eq_nil_of_le (by have := HL.out; omega), List.append_nil]
      rw [hd] at hgz
      have hlen := timesTo_len whole f z 4
      have HTL := hid HT.out
      generalize (timesTo whole f z 4).1 = R at *
      obtain ⟨r0, r1, r2, r3, hR⟩ : ∃ r0 r1 r2 r3, R = [r0, r1, r2, r3] := by
        rcases R with _ | ⟨r0, _ | ⟨r1, _ | ⟨r2, _ | ⟨r3, _ | ⟨_, _⟩⟩⟩⟩⟩ <;> simp at hlen
        exact ⟨r0, r1, r2, r3, rfl⟩
      subst hR
      have kf : Keeps (fun _ => False) w wr := kp2.step hkr (fun i hi e => by have := HG.out; omega)
      have hle : w.heap.size ≤ g + 1 := by have := HG.out; omega
      clear hd hlen
      go_wp2_with (first
        | (refine wpList_load_row rfl _ _ rfl g rfl _ _ (0, 0) _ hgz Tryz.underlying53 rfl (by kernel_rfl) ?_)
        | (refine wpList_store_row rfl _ _ _ rfl (g + 1) _ rfl rfl _ _ hgr (by kernel_rfl) (by kernel_rfl) (by kernel_rfl) ?_))
      refine bodyPost_ret (v := .agg (wordsOf .u64 [r0, r1, r2, r3])) (results_cell_row rfl _ _ (g + 1) 53 (wordsOf .u64 [r0, r1, r2, r3]) (0, 0) _ rfl (setRow_heap _ _ _ _ _ _ hgr) Tryz.underlying53 rfl (by kernel_rfl)) rfl ?_
      exact ⟨by rw [HTL.out], Keeps.setRow kf _ _ (fun hi => absurd hi (by omega))⟩
end Go.Proofs.YtdeigmjbcbjgeaaGreatDoor
/-
  The program's powers of words, and the 64 bits of a root: walked.
-/
namespace Go.Proofs.YtdeigmjbcbjgeaaGreatDoor
open Go.RowKit

theorem timesL_len (whole f : Int) (z : List Int) : (timesL whole f z).length = 4 := timesTo_len whole f z 4
theorem powerL_len (whole f : Int) : ∀ n, (powerL whole f n).length = 4
  | 0 => rfl
  | _ + 1 => timesL_len _ _ _
theorem four_of_len (l : List Int) (h : l.length = 4) : ∃ a b c d, l = [a, b, c, d] := by
  rcases l with _ | ⟨a, _ | ⟨b, _ | ⟨c, _ | ⟨d, _ | ⟨_, _⟩⟩⟩⟩⟩ <;> simp at h
  exact ⟨a, b, c, d, rfl⟩
def PowerRel (whole f : Int) (d g : Nat) (wp : World) (i : Value) (wr : World) : Prop :=
  ∃ n : Nat, i = .int .i64 n ∧ n ≤ d ∧ wr.heap[g]? = some (.cells (wordsOf .u64 (powerL whole f n)) 53 (0, 0)) ∧ Keeps (· = g) wp wr

set_option maxHeartbeats 2000000 in
set_option maxRecDepth 100000 in
theorem power_any (whole f : Int) (d : Nat) (w : World) (hd : d ≤ 3) :
    Calls Tryz.prog 136 #[.int .u64 whole, .int .u64 f, .int .i64 d] w fun e w' =>
      e = .returned (.agg (wordsOf .u64 (powerL whole f d))) ∧ Keeps (fun _ => False) w w' := by
  go_enter Tryz.func136, Tryz.ntmps136
  go_wp2
  obtain ⟨w2, hw2⟩ : ∃ w2, w2 = (w.alloc (Obj.cells #[.int .u64 0, .int .u64 0, .int .u64 0, .int .u64 0] 53)).alloc (Obj.cells #[.int .u64 1, .int .u64 0, .int .u64 0, .int .u64 0] 53) := ⟨_, rfl⟩
  rw [← hw2]
  have hgz : w2.heap[w.heap.size + 1]? = some (.cells (wordsOf .u64 (powerL whole f 0)) 53 (0, 0)) := by
    rw [hw2, heap_alloc2_new]; rfl
  have hgr : w2.heap[w.heap.size]? = some (.cells #[.int .u64 0, .int .u64 0, .int .u64 0, .int .u64 0] 53 (0, 0)) := by
    rw [hw2]; exact heap_alloc2_old w _ _
  have kp2 : Keeps (fun _ => False) w w2 := by rw [hw2]; exact ((Keeps.refl _ w).alloc _).alloc _
  have hs2 : w2.heap.size = w.heap.size + 2 := by rw [hw2]; simp
  obtain ⟨g, hg⟩ : ∃ g, g = w.heap.size + 1 := ⟨_, rfl⟩
  obtain ⟨g0, hg0⟩ : ∃ g0, g0 = w.heap.size := ⟨_, rfl⟩
  rw [← hg] at hgz ⊢
  rw [← hg0] at hgr ⊢
  have HG := hid hg
  have HG0 := hid hg0
  have HGR := hid hgr
  have HS2 := hid hs2
  clear hw2 hg hg0 hgr hs2
  go_loopw [10] (fun i wr => PowerRel whole f d g w2 i wr) (fun i _ => d - (intOf i).toNat)
  case atStart => exact ⟨0, rfl, by omega, hgz, Keeps.refl _ _⟩
  case round =>
    clear hgz
    obtain ⟨n, rfl, hn, hgz, hkr⟩ := hrel
    obtain ⟨z0, z1, z2, z3, hz⟩ := four_of_len _ (powerL_len whole f n)
    have HZ := hid hz
    rw [hz] at hgz
    have hsz := hkr.size
    clear hz
    by_cases hlt : n < d
    · have hlt' : (n : Int) < d := by omega
      have HT := hid (fun W => times_any whole f z0 z1 z2 z3 W)
      go_wp2_with (refine wpList_load_row rfl _ _ rfl g rfl _ _ (0, 0) _ hgz Tryz.underlying53 rfl (by kernel_rfl) ?_)
      refine (HT.out _).mono ?_
      rintro e w3 ⟨rfl, hk3⟩
      obtain ⟨y0, y1, y2, y3, hy⟩ := four_of_len _ (timesL_len whole f [z0, z1, z2, z3])
      have HY := hid hy
      rw [hy]
      have hg3 : w3.heap[g]? = some (.cells (wordsOf .u64 [z0, z1, z2, z3]) 53 (0, 0)) := by
        rw [hk3.block g (by have := HG.out; have := HS2.out; omega) (fun h => h)]; exact hgz
      have hk4 : Keeps (· = g) w2 w3 := hkr.trans (hk3.mono (fun _ _ h => h.elim))
      clear hy hk3
      go_wp2_with (refine wpList_store_row rfl _ _ _ rfl g _ rfl rfl _ _ hg3 (by kernel_rfl) (by kernel_rfl) (by kernel_rfl) ?_)
      go_roundw
      case rel =>
        refine ⟨n + 1, rfl, by omega, ?_, Keeps.setRow hk4 _ _ (fun _ => rfl)⟩
        rw [setRow_heap _ _ _ _ _ _ hg3, powerL, HZ.out, HY.out]
      case measure => simp [intOf]; omega
    · have heq : n = d := by omega
      subst heq
      have hgr : wr.heap[g0]? = some (.cells #[.int .u64 0, .int .u64 0, .int .u64 0, .int .u64 0] 53 (0, 0)) := by
        rw [hkr.block g0 (by have := HS2.out; have := HG0.out; omega) (by have := HG.out; have := HG0.out; omega)]; exact HGR.out
      have kf : Keeps (fun _ => False) w wr := kp2.step hkr (fun i hi e => by have := HG.out; omega)
      have hle : w.heap.size ≤ g0 := by have := HG0.out; omega
      go_wp2_with (first
        | (refine wpList_load_row rfl _ _ rfl g rfl _ _ (0, 0) _ hgz Tryz.underlying53 rfl (by kernel_rfl) ?_)
        | (refine wpList_store_row rfl _ _ _ rfl g0 _ rfl rfl _ _ hgr (by kernel_rfl) (by kernel_rfl) (by kernel_rfl) ?_))
      refine bodyPost_ret (v := .agg (wordsOf .u64 [z0, z1, z2, z3])) (results_cell_row rfl _ _ g0 53 (wordsOf .u64 [z0, z1, z2, z3]) (0, 0) _ rfl (setRow_heap _ _ _ _ _ _ hgr) Tryz.underlying53 rfl (by kernel_rfl)) rfl ?_
      exact ⟨by rw [HZ.out], Keeps.setRow kf _ _ (fun hi => absurd hi (by omega))⟩

theorem negFloat_run (P : Program) (b : Nat) (w : World) : (Op.unary .neg (.float .f64 b)).run P w = .ok (.float .f64 (Op.negFloat .f64 b)) w := rfl

set_option maxHeartbeats 2000000 in
set_option maxRecDepth 100000 in
theorem frac64_2 (p : Int) (r : Int) (w : World) (h : frac64W p 2 = some r) :
    Calls Tryz.prog 130 #[.int .u64 p, .int .i64 2] w fun e w' => e = .returned (.int .u64 r) ∧ Keeps (fun _ => False) w w' := by
  simp only [frac64W, Option.bind_eq_some_iff] at h
  obtain ⟨e, he, i, hi, dd, hdd, m, hm, f, hf, wh, hwh, q, hq, ex, hex, m1, hm1, sl, hsl, q2, hq2, fl, hfl, n, hn, hr⟩ := h
  injection hr with hr
  have HR := hid (root_any p 2 e w (.inl rfl) he)
  have HM := hid (Modf_any e i dd w hi hdd)
  generalize copyW dd e = c at *
  have h1 := fun w => run_float_arith (P := Tryz.prog) w .mul 136 .f64 c 4895412794951729152 m hm
  have h2 := fun w => run_convert_float_int (P := Tryz.prog) w 136 52 .f64 .u64 m f (by kernel_rfl) Tryz.underlying52 hf
  have h3 := fun w => run_convert_float_int (P := Tryz.prog) w 136 52 .f64 .u64 i wh (by kernel_rfl) Tryz.underlying52 hwh
  have HP := hid (fun W => power_any wh f 2 W (by omega))
  obtain ⟨z0, z1, z2, z3, hz⟩ := four_of_len _ (powerL_len wh f 2)
  rw [hz] at HP hq hex
  simp only [Nat.sub_self, Nat.reduceSub, List.getD_cons_zero, List.getD_cons_succ, IntWalk.i64_left] at hq hex
  have h4 := fun w => run_float_arith (P := Tryz.prog) w .quo 136 .f64 (floatOfInt .f64 z0) 4895412794951729152 q hq
  have h5 := fun w => run_float_arith (P := Tryz.prog) w .add 136 .f64 (floatOfInt .f64 (wrap64 z1)) q ex hex
  have h6 := fun w => run_float_arith (P := Tryz.prog) w .mul 136 .f64 (floatOfInt .f64 2) (floatOfInt .f64 p) m1 hm1
  have h7 := fun w => run_float_arith (P := Tryz.prog) w .quo 136 .f64 m1 e sl hsl
  have h8 := fun w => run_float_arith (P := Tryz.prog) w .quo 136 .f64 (Op.negFloat .f64 ex) sl q2 hq2
  have h9 := negFloat_run Tryz.prog
  have HF := hid (fun w => Floor_any q2 fl w hfl)
  have h10 := fun w => run_convert_float_int (P := Tryz.prog) w 136 2 .f64 .i64 fl n (by kernel_rfl) Tryz.underlying2 hn
  have HRR := hid hr
  clear he hi hdd hm hf hwh hz hq hex hm1 hsl hq2 hfl hn hr
  go_enter Tryz.func130, Tryz.ntmps130
  go_wp2_with fail
  refine (HR.out).mono ?_
  rintro e' w' ⟨rfl, rfl⟩
  go_wp2_with fail
  refine (HM.out).mono ?_
  rintro e' w' ⟨rfl, rfl⟩
  go_wp2_with fail
  refine (HP.out w).mono ?_
  rintro e' w1 ⟨rfl, hk1⟩
  rw [show wordsOf .u64 [z0, z1, z2, z3] = #[.int .u64 z0, .int .u64 z1, .int .u64 z2, .int .u64 z3] from rfl]
  go_wp2_with fail
  refine wp_region_tail 13 (by kernel_rfl) (by kernel_rfl) _ _ rfl rfl ?_
  simp only [List.take_succ_cons, List.take_zero, List.drop_succ_cons, List.drop_zero]
  repeat (first | go_big_quiet_skip | (go_big_quiet_want; go_big_quiet_op; first | go_big_quiet_on | (apply Exists.intro; refine ⟨?_, ?_⟩; (fail); go_big_quiet_on)))
  refine wpQuiet_nil ?_
  go_wp2_with fail
  refine (HF.out _).mono ?_
  rintro e' w' ⟨rfl, rfl⟩
  go_wp2_with fail
  go_ret
  exact ⟨by simp only [HRR.out]; rfl, (hk1.alloc _).drew⟩
set_option maxHeartbeats 2000000 in
set_option maxRecDepth 100000 in
theorem frac64_3 (p : Int) (r : Int) (w : World) (h : frac64W p 3 = some r) :
    Calls Tryz.prog 130 #[.int .u64 p, .int .i64 3] w fun e w' => e = .returned (.int .u64 r) ∧ Keeps (fun _ => False) w w' := by
  simp only [frac64W, Option.bind_eq_some_iff] at h
  obtain ⟨e, he, i, hi, dd, hdd, m, hm, f, hf, wh, hwh, q, hq, ex, hex, m1, hm1, sl, hsl, q2, hq2, fl, hfl, n, hn, hr⟩ := h
  injection hr with hr
  have HR := hid (root_any p 3 e w (.inr rfl) he)
  have HM := hid (Modf_any e i dd w hi hdd)
  generalize copyW dd e = c at *
  have h1 := fun w => run_float_arith (P := Tryz.prog) w .mul 136 .f64 c 4895412794951729152 m hm
  have h2 := fun w => run_convert_float_int (P := Tryz.prog) w 136 52 .f64 .u64 m f (by kernel_rfl) Tryz.underlying52 hf
  have h3 := fun w => run_convert_float_int (P := Tryz.prog) w 136 52 .f64 .u64 i wh (by kernel_rfl) Tryz.underlying52 hwh
  have HP := hid (fun W => power_any wh f 3 W (by omega))
  obtain ⟨z0, z1, z2, z3, hz⟩ := four_of_len _ (powerL_len wh f 3)
  rw [hz] at HP hq hex
  simp only [Nat.reduceSub, List.getD_cons_zero, List.getD_cons_succ, IntWalk.i64_left] at hq hex
  have h4 := fun w => run_float_arith (P := Tryz.prog) w .quo 136 .f64 (floatOfInt .f64 z1) 4895412794951729152 q hq
  have h5 := fun w => run_float_arith (P := Tryz.prog) w .add 136 .f64 (floatOfInt .f64 (wrap64 z2)) q ex hex
  have h6 := fun w => run_float_arith (P := Tryz.prog) w .mul 136 .f64 (floatOfInt .f64 3) (floatOfInt .f64 p) m1 hm1
  have h7 := fun w => run_float_arith (P := Tryz.prog) w .quo 136 .f64 m1 e sl hsl
  have h8 := fun w => run_float_arith (P := Tryz.prog) w .quo 136 .f64 (Op.negFloat .f64 ex) sl q2 hq2
  have h9 := negFloat_run Tryz.prog
  have HF := hid (fun w => Floor_any q2 fl w hfl)
  have h10 := fun w => run_convert_float_int (P := Tryz.prog) w 136 2 .f64 .i64 fl n (by kernel_rfl) Tryz.underlying2 hn
  have HRR := hid hr
  clear he hi hdd hm hf hwh hz hq hex hm1 hsl hq2 hfl hn hr
  go_enter Tryz.func130, Tryz.ntmps130
  go_wp2_with fail
  refine (HR.out).mono ?_
  rintro e' w' ⟨rfl, rfl⟩
  go_wp2_with fail
  refine (HM.out).mono ?_
  rintro e' w' ⟨rfl, rfl⟩
  go_wp2_with fail
  refine (HP.out w).mono ?_
  rintro e' w1 ⟨rfl, hk1⟩
  rw [show wordsOf .u64 [z0, z1, z2, z3] = #[.int .u64 z0, .int .u64 z1, .int .u64 z2, .int .u64 z3] from rfl]
  go_wp2_with fail
  refine wp_region_tail 13 (by kernel_rfl) (by kernel_rfl) _ _ rfl rfl ?_
  simp only [List.take_succ_cons, List.take_zero, List.drop_succ_cons, List.drop_zero]
  repeat (first | go_big_quiet_skip | (go_big_quiet_want; go_big_quiet_op; first | go_big_quiet_on | (apply Exists.intro; refine ⟨?_, ?_⟩; (fail); go_big_quiet_on)))
  refine wpQuiet_nil ?_
  go_wp2_with fail
  refine (HF.out _).mono ?_
  rintro e' w' ⟨rfl, rfl⟩
  go_wp2_with fail
  go_ret
  exact ⟨by simp only [HRR.out]; rfl, (hk1.alloc _).drew⟩
theorem frac64_any (p : Int) (d : Nat) (r : Int) (w : World) (hd : d = 2 ∨ d = 3) (h : frac64W p d = some r) :
    Calls Tryz.prog 130 #[.int .u64 p, .int .i64 d] w fun e w' => e = .returned (.int .u64 r) ∧ Keeps (fun _ => False) w w' := by
  rcases hd with rfl | rfl
  · exact frac64_2 p r w h
  · exact frac64_3 p r w h
end Go.Proofs.YtdeigmjbcbjgeaaGreatDoor
/-
  The program's primes, and the constants of its two kinds: walked.
-/
namespace Go.Proofs.YtdeigmjbcbjgeaaGreatDoor
open Go.RowKit

theorem zero80p : (Tryz.prog.info? 134).map (fun i => (i.zero, i.size)) = some (some (.agg (Array.replicate 80 (.int .u16 0))), 80) := by kernel_rfl

set_option maxHeartbeats 1000000 in
set_option maxRecDepth 100000 in
theorem primes_any (w : World) :
    Calls Tryz.prog 133 #[] w fun e w' => e = .returned (.agg (wordsOf .u16 primes80)) ∧ Keeps (fun _ => False) w w' := by
  obtain ⟨hz, hs⟩ := zero_of_info zero80p
  generalize hZ : Array.replicate 80 (Value.int .u16 0) = Z at hz
  have HZ := hid hZ.symm
  clear hZ
  go_enter Tryz.func133, Tryz.ntmps133
  go_wp2_with (first
    | (refine wpList_build_to rfl _ _ rfl (wordsOf .u16 primes80) (by kernel_rfl) ?_)
    | (refine wpList_store_row rfl _ _ _ rfl w.heap.size (wordsOf .u16 primes80) rfl rfl _ Z (heap_alloc_last _ _) (by kernel_rfl) (by rw [HZ.out]; kernel_rfl) (by kernel_rfl) ?_))
  rw [World.setRow_alloc_new]
  refine bodyPost_ret (v := .agg (wordsOf .u16 primes80)) (results_cell_row rfl _ _ w.heap.size 134 (wordsOf .u16 primes80) (0, 0) _ rfl (heap_alloc_last _ _) Tryz.underlying134 rfl (by kernel_rfl)) rfl ?_
  exact ⟨rfl, (Keeps.refl _ _).alloc _⟩

/-- The cells cs, the first i of vs laid over those from off on. -/
def overTo (k : IntKind) (cs : Array Value) (off : Nat) (vs : List Int) : Nat → Array Value
  | 0 => cs
  | i + 1 => (overTo k cs off vs i).setIfInBounds (off + i) (.int k (vs.getD i 0))
def RootsRel (k : IntKind) (t : TypeId) (cs : Array Value) (off : Nat) (vs : List Int) (g : Nat) (wp : World) (i : Value) (wr : World) : Prop :=
  ∃ n : Nat, i = .int .i64 n ∧ n ≤ vs.length ∧ wr.heap[g]? = some (.cells (overTo k cs off vs n) t (0, 0)) ∧ Keeps (· = g) wp wr
def RootsPost (k : IntKind) (t : TypeId) (cs : Array Value) (off : Nat) (vs : List Int) (g : Nat) (w : World) (e : Ending) (w' : World) : Prop :=
  e = .returned (.tuple #[]) ∧ w'.heap[g]? = some (.cells (overTo k cs off vs vs.length) t (0, 0)) ∧ Keeps (· = g) w w'
theorem size80p : (Tryz.prog.info? 134).map (·.size) = some (wordsOf .u16 primes80).size := by kernel_rfl
theorem primes80_bound : ∀ i, i < 80 → 0 ≤ primes80.getD i 0 ∧ primes80.getD i 0 ≤ 409 := by decide +kernel

theorem overTo_at (k : IntKind) (cs : Array Value) (off : Nat) (vs : List Int) (i : Nat) : ∀ n, n ≤ i → (overTo k cs off vs n)[off + i]? = cs[off + i]?
  | 0, _ => rfl
  | n + 1, h => by
    rw [overTo, Array.getElem?_setIfInBounds_ne (by omega), overTo_at k cs off vs i n (by omega)]

set_option maxHeartbeats 2000000 in
set_option maxRecDepth 100000 in
theorem roots64_any (d : Nat) (hd : d = 2 ∨ d = 3) (vs : List Int) (hv : ∀ i, i < vs.length → frac64W (primes80.getD i 0) d = some (vs.getD i 0)) (hn : vs.length ≤ 80)
    (cs : Array Value) (t : TypeId) (g off c : Nat) (w : World) (hg : w.heap[g]? = some (.cells cs t (0, 0))) (hc : ∀ i, i < vs.length → ∃ x, cs[off + i]? = some (.int .u64 x)) :
    Calls Tryz.prog 129 #[.slice (some ⟨g, off, none⟩) vs.length c, .int .i64 d, .func (.func 130) #[] #[]] w (RootsPost .u64 t cs off vs g w) := by
  have HN := hid hn
  have HV := hid hv
  have HC := hid hc
  have HG := hid hg
  have hgl : g < w.heap.size := (Array.getElem?_eq_some_iff.1 hg).1
  clear hv hc hg
  obtain ⟨hz80, _⟩ := zero_of_info zero80p
  have HZ80 := hid (show (Array.replicate 80 (Value.int .u16 0)).size = (wordsOf .u16 primes80).size by kernel_rfl)
  have HK1 := hid (show (wordsOf .u16 primes80).all (·.oneCell') = true by kernel_rfl)
  have HS80 := hid size80p
  have HKG := hid (show ∀ t, t < 80 → (wordsOf .u16 primes80)[t]? = some (.int .u16 (primes80.getD t 0)) from fun t h => wordsOf_get _ _ t h)
  generalize Array.replicate 80 (Value.int .u16 0) = Z80 at hz80 HZ80
  obtain ⟨m, hm⟩ : ∃ m, m = vs.length := ⟨_, rfl⟩
  rw [← hm]
  have HM := hid hm
  have hm80 : m ≤ 80 := by omega
  clear hm hn
  go_enter Tryz.func129, Tryz.ntmps129
  go_wp2_with fail
  refine (primes_any w).mono ?_
  rintro e w1 ⟨rfl, hk1⟩
  generalize wordsOf .u16 primes80 = K at *
  go_wp2_with (refine wpList_store_row rfl _ _ _ rfl w1.heap.size K rfl rfl _ Z80 (heap_alloc_last _ _) HS80.out HZ80.out HK1.out ?_)
  rw [World.setRow_alloc_new]
  obtain ⟨w2, hw2⟩ : ∃ w2, w2 = w1.alloc (Obj.cells K 134) := ⟨_, rfl⟩
  rw [← hw2]
  obtain ⟨gp, hgp⟩ : ∃ gp, gp = w1.heap.size := ⟨_, rfl⟩
  rw [← hgp]
  have hgp2 : w2.heap[gp]? = some (.cells K 134 (0, 0)) := by rw [hw2, hgp]; exact heap_alloc_last _ _
  have hg2 : w2.heap[g]? = some (.cells (overTo .u64 cs off vs 0) t (0, 0)) := by
    rw [hw2, Below.heap_alloc _ _ _ (by have := hk1.size; omega), hk1.block g hgl (fun h => h)]; exact HG.out
  have kp2 : Keeps (fun _ => False) w w2 := by rw [hw2]; exact hk1.alloc _
  have hpl : gp < w2.heap.size := (Array.getElem?_eq_some_iff.1 hgp2).1
  have hne : gp ≠ g := by rw [hgp]; have := hk1.size; omega
  have HGP := hid hgp2
  clear hw2 hgp hgp2 hk1
  go_wp2_with fail
  go_loopw [11] (fun i wr => RootsRel .u64 t cs off vs g w2 i wr) (fun i _ => m - (intOf i).toNat)
  case atStart => exact ⟨0, rfl, by omega, hg2, Keeps.refl _ _⟩
  case round =>
    clear hg2
    obtain ⟨n, rfl, hn, hgr, hkr⟩ := hrel
    have hnm : n ≤ m := by have := HM.out; omega
    clear hn
    by_cases hlt : n < m
    · have hlt' : (n : Int) < m := by omega
      have hlt80 : (n : Int) < 80 := by omega
      obtain ⟨p, hp⟩ : ∃ p, p = primes80.getD n 0 := ⟨_, rfl⟩
      have hb := primes80_bound n (by omega)
      rw [← hp] at hb
      obtain ⟨hb0, hb1⟩ := hb
      obtain ⟨r, hr⟩ : ∃ r, r = vs.getD n 0 := ⟨_, rfl⟩
      have hfr := HV.out n (by have := HM.out; omega)
      rw [← hp, ← hr] at hfr
      have HF := hid (fun W => frac64_any p d r W hd hfr)
      have cp : wr.cell? ⟨gp, n, none⟩ = some (.int .u16 p) := by
        rw [cell_of_row wr gp n _ _ _ ((hkr.block gp hpl hne).trans HGP.out), HKG.out n (by omega), hp]
      obtain ⟨x, hx⟩ := HC.out n (by have := HM.out; omega)
      have cw : wr.cell? ⟨g, off + n, none⟩ = some (.int .u64 x) := by
        rw [cell_of_row wr g (off + n) _ _ _ hgr, overTo_at _ _ _ _ _ _ (Nat.le_refl _), hx]
      have fw : wr.frozen? ⟨g, off + n, none⟩ = false := frozen_of_row wr g (off + n) _ _ hgr
      have HP := hid hp; have HR := hid hr
      clear hp hr hfr hx
      go_wp2_with fail
      refine (HF.out wr).mono ?_
      rintro e w3 ⟨rfl, hk3⟩
      have hgr3 : w3.heap[g]? = some (.cells (overTo .u64 cs off vs n) t (0, 0)) := by
        rw [hk3.block g (Array.getElem?_eq_some_iff.1 hgr).1 (fun h => h)]; exact hgr
      have cw3 : w3.cell? ⟨g, off + n, none⟩ = some (.int .u64 x) := by
        rw [hk3.cell (p := ⟨g, off + n, none⟩) (Array.getElem?_eq_some_iff.1 hgr).1 (fun h => h)]; exact cw
      have fw3 : w3.frozen? ⟨g, off + n, none⟩ = false := frozen_of_row w3 g (off + n) _ _ hgr3
      have hk4 : Keeps (· = g) w2 w3 := hkr.trans (hk3.mono (fun _ _ h => h.elim))
      clear cw fw cp hk3
      go_wp2_with fail
      go_roundw
      case rel =>
        refine ⟨n + 1, rfl, by have := HM.out; omega, ?_, Keeps.setCell hk4 _ _ (fun _ => rfl)⟩
        rw [heap_setCell_same w3 g (off + n) _ _ _ hgr3, overTo, HR.out]
      case measure => simp [intOf]; omega
    · have heq : n = m := by omega
      subst heq
      go_wp2_with fail
      refine bodyPost_ret (v := .tuple #[]) (by simp [results, Tryz.results129, go_sem]) rfl ?_
      exact ⟨rfl, by rw [← HM.out]; exact hgr, (kp2.mono (fun _ _ h => h.elim)).trans hkr⟩
end Go.Proofs.YtdeigmjbcbjgeaaGreatDoor
/-
  The program's two kinds, made.
-/
namespace Go.Proofs.YtdeigmjbcbjgeaaGreatDoor
open Go.RowKit

theorem of_map (f : Int → Option Int) (ps vs : List Int) (m : Nat) (h : (ps.take m).map f = vs.map some) (hm : m ≤ ps.length) : ∀ i, i < vs.length → f (ps.getD i 0) = some (vs.getD i 0) := by
  intro i hi
  have h1 := congrArg (fun l => l[i]?) h
  have hl := congrArg List.length h
  simp only [List.length_map, List.length_take] at hl
  have hi' : i < ps.length := by omega
  simp only [List.getElem?_map, List.getElem?_take] at h1
  rw [if_pos (by omega), List.getElem?_eq_getElem hi', List.getElem?_eq_getElem hi] at h1
  simpa [List.getD_eq_getElem?_getD, List.getElem?_eq_getElem hi', List.getElem?_eq_getElem hi] using h1

def isU (k : IntKind) : Option Value → Bool
  | some (.int k' _) => k' == k
  | _ => false
theorem isU_spec {k : IntKind} {o : Option Value} (h : isU k o = true) : ∃ x, o = some (.int k x) := by
  unfold isU at h
  split at h
  · rw [beq_iff_eq] at h; subst h; exact ⟨_, rfl⟩
  · cases h


def fn (f : Nat) : Value := .func (.func f) #[] #[]

def start64 : List Int := refIs
def keys64 : List Int := refKs
def kind64Of (s k : List Int) : Array Value := #[.int .i64 8, .int .i64 80] ++ wordsOf .u64 s ++ wordsOf .u64 k ++ #[fn 124, fn 126, fn 127, fn 128]
def kind64 : Array Value := kind64Of start64 (keys64)
def kind64_0 : Array Value := kind64Of (List.replicate 8 0) (List.replicate 80 0)
def kind64_1 : Array Value := kind64Of start64 (List.replicate 80 0)
theorem kind64_over1 : overTo .u64 kind64_0 2 start64 8 = kind64_1 := by kernel_rfl
theorem kind64_over2 : overTo .u64 kind64_1 10 keys64 80 = kind64 := by kernel_rfl
theorem kind64_at0 : ∀ i, i < 8 → ∃ x, kind64_0[2 + i]? = some (.int .u64 x) := fun i hi => isU_spec ((show ∀ i : Fin 8, isU .u64 kind64_0[2 + i.val]? = true by decide +kernel) ⟨i, hi⟩)
theorem kind64_at1 : ∀ i, i < 80 → ∃ x, kind64_1[10 + i]? = some (.int .u64 x) := fun i hi => isU_spec ((show ∀ i : Fin 80, isU .u64 kind64_1[10 + i.val]? = true by decide +kernel) ⟨i, hi⟩)
theorem start64_fracs : ∀ i, i < start64.length → frac64W (primes80.getD i 0) 2 = some (start64.getD i 0) :=
  of_map (frac64W · 2) primes80 start64 8 (fracs64_squares) (by decide)
theorem keys64_fracs : ∀ i, i < keys64.length → frac64W (primes80.getD i 0) 3 = some (keys64.getD i 0) :=
  of_map (frac64W · 3) primes80 keys64 80 (by rw [show primes80.take 80 = primes80 from rfl]; exact fracs64_cubes) (by decide)
theorem roots64_start (g c : Nat) (w : World) (hg : w.heap[g]? = some (.cells kind64_0 128 (0, 0))) :
    Calls Tryz.prog 129 #[.slice (some ⟨g, 2, none⟩) 8 c, .int .i64 2, .func (.func 130) #[] #[]] w (fun e w' =>
      e = .returned (.tuple #[]) ∧ w'.heap[g]? = some (.cells kind64_1 128 (0, 0)) ∧ Keeps (· = g) w w') := by
  have h := roots64_any 2 (.inl rfl) start64 start64_fracs (by decide) kind64_0 128 g 2 c w hg (fun i hi => kind64_at0 i hi)
  unfold RootsPost at h
  rw [show start64.length = 8 from rfl, kind64_over1] at h
  exact h
theorem roots64_keys (g c : Nat) (w : World) (hg : w.heap[g]? = some (.cells kind64_1 128 (0, 0))) :
    Calls Tryz.prog 129 #[.slice (some ⟨g, 10, none⟩) 80 c, .int .i64 3, .func (.func 130) #[] #[]] w (fun e w' =>
      e = .returned (.tuple #[]) ∧ w'.heap[g]? = some (.cells kind64 128 (0, 0)) ∧ Keeps (· = g) w w') := by
  have h := roots64_any 3 (.inr rfl) keys64 keys64_fracs (by decide) kind64_1 128 g 10 c w hg (fun i hi => kind64_at1 i hi)
  unfold RootsPost at h
  rw [show keys64.length = 80 from rfl, kind64_over2] at h
  exact h
theorem kind64_size : kind64.size = 94 := by kernel_rfl
theorem kind64_c0 : kind64[0]? = some (.int .i64 8) := by kernel_rfl
theorem kind64_c1 : kind64[1]? = some (.int .i64 80) := by kernel_rfl
theorem kind64_m1 : kind64[90]? = some (.func (.func 124) #[] #[]) := by kernel_rfl
theorem kind64_m0 : kind64[91]? = some (.func (.func 126) #[] #[]) := by kernel_rfl
theorem kind64_t1 : kind64[92]? = some (.func (.func 127) #[] #[]) := by kernel_rfl
theorem kind64_t0 : kind64[93]? = some (.func (.func 128) #[] #[]) := by kernel_rfl
theorem kind64_key : ∀ t, t < 80 → kind64[10 + t]? = some (.int .u64 (keys64.getD t 0)) := fun t h => by
  have h1 : kind64 = ((#[.int .i64 8, .int .i64 80] : Array Value) ++ wordsOf .u64 start64) ++ (wordsOf .u64 keys64 ++ (wordsOf .u64 (List.replicate 0 0) ++ #[fn 124, fn 126, fn 127, fn 128])) := by kernel_rfl
  have h2 : ((#[.int .i64 8, .int .i64 80] : Array Value) ++ wordsOf .u64 start64).size = 10 := by kernel_rfl
  rw [h1, Array.getElem?_append_right (by omega), h2, Nat.add_sub_cancel_left, Array.getElem?_append_left (by rw [wordsOf_size]; exact h), wordsOf_get _ _ _ h]
end Go.Proofs.YtdeigmjbcbjgeaaGreatDoor
/-
  The program's two kinds, walked.
-/
namespace Go.Proofs.YtdeigmjbcbjgeaaGreatDoor
open Go.RowKit

def kind64_z : Array Value := #[.int .i64 0, .int .i64 0] ++ wordsOf .u64 (List.replicate 8 0) ++ wordsOf .u64 (List.replicate 80 0) ++ #[.nilFunc, .nilFunc, .nilFunc, .nilFunc]
theorem zeroKind64 : (Tryz.prog.info? 128).map (fun i => (i.zero, i.size)) = some (some (.agg kind64_z), 94) := by kernel_rfl

set_option maxHeartbeats 2000000 in
set_option maxRecDepth 100000 in
theorem kind512_any (w : World) :
    Calls Tryz.prog 118 #[] w fun e w' => e = .returned (.agg kind64) ∧ Keeps (fun _ => False) w w' := by
  obtain ⟨hz, hs⟩ := zero_of_info zeroKind64
  have HZZ := hid (show kind64_z.size = 94 by kernel_rfl)
  have H0Z := hid (show kind64_0.size = 94 by kernel_rfl)
  have H0O := hid (show kind64_0.all (·.oneCell') = true by kernel_rfl)
  have HKO := hid (show kind64.all (·.oneCell') = true by kernel_rfl)
  have HKZ := hid kind64_size
  have HSZ := hid (show (Tryz.prog.info? 128).map (·.size) = some 94 by kernel_rfl)
  generalize hZ : kind64_z = Z at hz HZZ
  clear hZ hs
  go_enter Tryz.func118, Tryz.ntmps118
  go_wp2_with (first
    | (refine wpList_build_to rfl _ _ rfl kind64_0 (by kernel_rfl) ?_)
    | (refine wpList_store_row rfl _ _ _ rfl (w.heap.size + 1) kind64_0 rfl rfl _ Z (heap_alloc2_new _ _ _) (by rw [HSZ.out, H0Z.out]) (by rw [HZZ.out, H0Z.out]) H0O.out ?_))
  obtain ⟨g, hg⟩ : ∃ g, g = w.heap.size + 1 := ⟨_, rfl⟩
  obtain ⟨w2, hw2⟩ : ∃ w2, w2 = ((w.alloc (Obj.cells Z 128)).alloc (Obj.cells Z 128)).setRow g kind64_0 := ⟨_, rfl⟩
  rw [← hg, ← hw2]
  have hg2 : w2.heap[g]? = some (.cells kind64_0 128 (0, 0)) := by rw [hw2, hg]; exact setRow_heap _ _ _ _ _ _ (heap_alloc2_new w _ _)
  have hr2 : w2.heap[w.heap.size]? = some (.cells Z 128 (0, 0)) := by
    rw [hw2, (Keeps.setRow (S := (· = g)) (Keeps.refl _ ((w.alloc (Obj.cells Z 128)).alloc (Obj.cells Z 128))) g kind64_0 (fun _ => rfl)).block w.heap.size (by rw [World.size_alloc, World.size_alloc]; omega) (by omega)]
    exact heap_alloc2_old w _ _
  have kp2 : Keeps (fun _ => False) w w2 := by rw [hw2]; exact Keeps.setRow (((Keeps.refl _ w).alloc _).alloc _) _ _ (fun hi => absurd hi (by omega))
  have hgl : g < w2.heap.size := (Array.getElem?_eq_some_iff.1 hg2).1
  have hrl : w.heap.size < w2.heap.size := (Array.getElem?_eq_some_iff.1 hr2).1
  have hne : w.heap.size ≠ g := by omega
  have hle : w.heap.size ≤ g := by omega
  clear hw2 hg
  refine (roots64_start g 8 w2 hg2).mono ?_
  rintro e w3 ⟨rfl, hg3, hk3⟩
  have c1 : w3.cell? ⟨g, 1, none⟩ = some (.int .i64 80) := by rw [cell_of_row w3 g 1 _ _ _ hg3]; kernel_rfl
  have hr3 := (hk3.block w.heap.size hrl hne).trans hr2
  have hk3' := kp2.step hk3 (fun i hi e => by omega)
  clear hg2 hr2 hk3
  go_wp2_with fail
  refine (roots64_keys g 80 w3 hg3).mono ?_
  rintro e w4 ⟨rfl, hg4, hk4⟩
  have hr4 := (hk4.block w.heap.size (by have := hk3'.size; have := (Array.getElem?_eq_some_iff.1 hr3).1; omega) hne).trans hr3
  have hk4' := hk3'.step hk4 (fun i hi e => by omega)
  clear hg3 hr3 hk4 c1
  obtain ⟨C, hC⟩ : ∃ C, C = kind64 := ⟨_, rfl⟩
  rw [← hC] at hg4 HKO HKZ
  have HC := hid hC
  clear hC
  go_wp2_with (first
    | (refine wpList_load_row rfl _ _ rfl g rfl _ _ (0, 0) _ hg4 Tryz.underlying128 rfl (by rw [HSZ.out, HKZ.out]) ?_)
    | (refine wpList_store_row rfl _ _ _ rfl w.heap.size C rfl rfl _ Z hr4 (by rw [HSZ.out, HKZ.out]) (by rw [HZZ.out, HKZ.out]) HKO.out ?_))
  refine bodyPost_ret (v := .agg C) (results_cell_row rfl _ _ w.heap.size 128 _ (0, 0) _ rfl (setRow_heap _ _ _ _ _ _ hr4) Tryz.underlying128 rfl (by rw [HSZ.out, HKZ.out])) rfl ?_
  exact ⟨by rw [HC.out], Keeps.setRow hk4' _ _ (fun hi => absurd hi (by omega))⟩
end Go.Proofs.YtdeigmjbcbjgeaaGreatDoor
