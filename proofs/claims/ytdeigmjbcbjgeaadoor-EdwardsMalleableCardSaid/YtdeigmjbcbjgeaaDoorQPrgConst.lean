/-
  What the program's constants come to: the estimates of the roots and their correction, as plain functions, reckoned by the kernel.
-/
import Derived.Test.YtdeigmjbcbjgeaaDoorQCube
import Derived.Test.YtdeigmjbcbjgeaaDoorQPrgFloat
import Derived.Test.YtdeigmjbcbjgeaaDoorQRefBlk
import Derived.BigQuiet
import Derived.BigRegion
import Derived.StillTailTactics
namespace Go.Proofs.YtdeigmjbcbjgeaaDoor
open Go.RowKit

abbrev fMul (x y : Nat) : Option Nat := floatBits .mul .f64 x y
abbrev fQuo (x y : Nat) : Option Nat := floatBits .quo .f64 x y
abbrev fAdd (x y : Nat) : Option Nat := floatBits .add .f64 x y
abbrev fSub (x y : Nat) : Option Nat := floatBits .sub .f64 x y

def cbrtT0 (x : Nat) : Nat := (IntKind.u64.wrap (IntKind.u64.wrap ((x : Int) / 3) + 3071306043645493248)).toNat
def cbrtChop (t : Nat) : Nat := (IntKind.u64.wrap (bits .and .u64 (t : Int) 18446744072635809792 + 1073741824)).toNat
/-- Every value on cbrt's way. -/
structure CbrtWay where
  (t0 a1 r1 a2 s1 b1 b2 b3 b4 b5 t1 t2 s2 r2 w1 c1 c2 r3 c3 t : Nat)
def cbrtWay (x : Nat) : Option CbrtWay :=
  let t0 := cbrtT0 x
  (fMul t0 t0).bind fun a1 => (fQuo a1 x).bind fun r1 => (fMul r1 t0).bind fun a2 => (fAdd 4603064841997850097 a2).bind fun s1 =>
  (fAdd s1 4609048195788499471).bind fun b1 => (fQuo 13827900089180538932 s1).bind fun b2 => (fAdd b1 b2).bind fun b3 =>
  (fQuo 4609916747145206638 b3).bind fun b4 => (fAdd 4600105333671292343 b4).bind fun b5 => (fMul t0 b5).bind fun t1 =>
  let t2 := cbrtChop t1
  (fMul t2 t2).bind fun s2 => (fQuo x s2).bind fun r2 => (fAdd t2 t2).bind fun w1 => (fSub r2 t2).bind fun c1 => (fAdd w1 r2).bind fun c2 =>
  (fQuo c1 c2).bind fun r3 => (fMul t2 r3).bind fun c3 => (fAdd t2 c3).bind fun t =>
  some ⟨t0, a1, r1, a2, s1, b1, b2, b3, b4, b5, t1, t2, s2, r2, w1, c1, c2, r3, c3, t⟩
/-- No special case: neither a zero nor a NaN nor infinite nor negative nor below the normal numbers. -/
def plainW (x : Nat) : Bool :=
  !(FloatKind.f64.format.order x 0 == some .eq) && !(FloatKind.f64.format.order x x != some .eq) && !(FloatKind.f64.format.order (absW x) 9218868437227405311 == some .gt) &&
  !(FloatKind.f64.format.order x 0 == some .lt) && !(FloatKind.f64.format.order x 4503599627370496 == some .lt)
def cbrtW (x : Nat) : Option Nat := if plainW x then (cbrtWay x).map (·.t) else none
def rootW (p : Int) (d : Nat) : Option Nat := if d = 2 then FloatKind.f64.format.sqrt (floatOfInt .f64 p) else cbrtW (floatOfInt .f64 p)

/-- One word of a product by whole + f / 2^64: the word, and what goes over to the next. -/
def timesStep (whole f below carry x : Int) : Int × Int :=
  let s1 := (mulLo x f + mulLo below whole) % 18446744073709551616
  let c1 := (mulLo x f + mulLo below whole) / 18446744073709551616
  ((s1 + carry) % 18446744073709551616, IntKind.u64.wrap (IntKind.u64.wrap (IntKind.u64.wrap (mulHi x f + mulHi below whole) + c1) + (s1 + carry) / 18446744073709551616))
/-- The first i words of the product, and what goes over. -/
def timesTo (whole f : Int) (z : List Int) : Nat → List Int × Int
  | 0 => ([], 0)
  | i + 1 =>
    let s := timesStep whole f (if i = 0 then 0 else z.getD (i - 1) 0) (timesTo whole f z i).2 (z.getD i 0)
    ((timesTo whole f z i).1 ++ [s.1], s.2)
def timesL (whole f : Int) (z : List Int) : List Int := (timesTo whole f z 4).1
def powerL (whole f : Int) : Nat → List Int
  | 0 => [1, 0, 0, 0]
  | n + 1 => timesL whole f (powerL whole f n)

def frac64W (p : Int) (d : Nat) : Option Int :=
  (rootW p d).bind fun e => (wholeW .zero e).bind fun i => (fSub e i).bind fun dd => (fMul (copyW dd e) 4895412794951729152).bind fun m =>
  (floatToIntVal .f64 m .u64).bind fun f => (floatToIntVal .f64 i .u64).bind fun wh =>
  (fQuo (floatOfInt .f64 ((powerL wh f d).getD (d - 2) 0)) 4895412794951729152).bind fun q =>
  (fAdd (floatOfInt .f64 (IntKind.i64.wrap ((powerL wh f d).getD (d - 1) 0))) q).bind fun ex =>
  (fMul (floatOfInt .f64 (d : Int)) (floatOfInt .f64 p)).bind fun m1 => (fQuo m1 e).bind fun sl => (fQuo (Op.negFloat .f64 ex) sl).bind fun q2 =>
  (wholeW .down q2).bind fun fl => (floatToIntVal .f64 fl .i64).bind fun n => some (IntKind.u64.wrap (f + IntKind.u64.wrap n))

def primes80 : List Int := [2, 3, 5, 7, 11, 13, 17, 19, 23, 29, 31, 37, 41, 43, 47, 53, 59, 61, 67, 71, 73, 79, 83, 89, 97, 101, 103, 107, 109, 113, 127, 131, 137, 139, 149, 151, 157, 163, 167, 173, 179, 181, 191, 193, 197, 199, 211, 223, 227, 229, 233, 239, 241, 251, 257, 263, 269, 271, 277, 281, 283, 293, 307, 311, 313, 317, 331, 337, 347, 349, 353, 359, 367, 373, 379, 383, 389, 397, 401, 409]

set_option maxRecDepth 1000000 in
theorem fracs64_cubes : primes80.map (frac64W · 3) = refKs.map some := by kernel_rfl
set_option maxRecDepth 1000000 in
theorem fracs64_squares : (primes80.take 8).map (frac64W · 2) = refIs.map some := by kernel_rfl
end Go.Proofs.YtdeigmjbcbjgeaaDoor
/-
  The program's roots: walked.
-/
namespace Go.Proofs.YtdeigmjbcbjgeaaDoor
open Go.RowKit

set_option maxHeartbeats 2000000 in
set_option maxRecDepth 100000 in
theorem cbrt_any (x r : Nat) (w : World) (h : cbrtW x = some r) :
    Calls Tryd.prog 93 #[.float .f64 x] w fun e w' => e = .returned (.float .f64 r) ∧ w = w' := by
  have hb := Bits_run
  have hf := From_run
  unfold cbrtW at h
  split at h
  case isFalse => cases h
  rename_i hp
  simp only [plainW, Bool.and_eq_true, Bool.not_eq_true'] at hp
  obtain ⟨⟨⟨⟨p1, p2⟩, p3⟩, p4⟩, p5⟩ := hp
  have HN := hid (fun w => IsNaN_any x w p2)
  have HI := hid (fun w => IsInf_any x w p3)
  simp only [Option.map_eq_some_iff, cbrtWay, Option.bind_eq_some_iff, Option.some.injEq] at h
  obtain ⟨ww, ⟨a1, h0, r1, h1, a2, h2, s1, h3, b1, h4, b2, h5, b3, h6, b4, h7, b5, h8, t1, h9, s2, h10, r2, h11, w1, h12, c1, h13, c2, h14, r3, h15, c3, h16, t, h17, e⟩, rfl⟩ := h
  subst e
  have ht0 := hid (show (IntKind.u64.wrap (IntKind.u64.wrap ((x : Int) / 3) + 3071306043645493248)).toNat = cbrtT0 x from rfl)
  generalize cbrtT0 x = t0 at *
  have ht2 := hid (show (IntKind.u64.wrap (bits .and .u64 (t1 : Int) 18446744072635809792 + 1073741824)).toNat = cbrtChop t1 from rfl)
  generalize cbrtChop t1 = t2 at *
  have f0 := fun w => run_float_arith (P := Tryd.prog) w .mul 105 .f64 t0 t0 a1 h0
  have f1 := fun w => run_float_arith (P := Tryd.prog) w .quo 105 .f64 a1 x r1 h1
  have f2 := fun w => run_float_arith (P := Tryd.prog) w .mul 105 .f64 r1 t0 a2 h2
  have f3 := fun w => run_float_arith (P := Tryd.prog) w .add 105 .f64 4603064841997850097 a2 s1 h3
  have f4 := fun w => run_float_arith (P := Tryd.prog) w .add 105 .f64 s1 4609048195788499471 b1 h4
  have f5 := fun w => run_float_arith (P := Tryd.prog) w .quo 105 .f64 13827900089180538932 s1 b2 h5
  have f6 := fun w => run_float_arith (P := Tryd.prog) w .add 105 .f64 b1 b2 b3 h6
  have f7 := fun w => run_float_arith (P := Tryd.prog) w .quo 105 .f64 4609916747145206638 b3 b4 h7
  have f8 := fun w => run_float_arith (P := Tryd.prog) w .add 105 .f64 4600105333671292343 b4 b5 h8
  have f9 := fun w => run_float_arith (P := Tryd.prog) w .mul 105 .f64 t0 b5 t1 h9
  have f10 := fun w => run_float_arith (P := Tryd.prog) w .mul 105 .f64 t2 t2 s2 h10
  have f11 := fun w => run_float_arith (P := Tryd.prog) w .quo 105 .f64 x s2 r2 h11
  have f12 := fun w => run_float_arith (P := Tryd.prog) w .add 105 .f64 t2 t2 w1 h12
  have f13 := fun w => run_float_arith (P := Tryd.prog) w .sub 105 .f64 r2 t2 c1 h13
  have f14 := fun w => run_float_arith (P := Tryd.prog) w .add 105 .f64 w1 r2 c2 h14
  have f15 := fun w => run_float_arith (P := Tryd.prog) w .quo 105 .f64 c1 c2 r3 h15
  have f16 := fun w => run_float_arith (P := Tryd.prog) w .mul 105 .f64 t2 r3 c3 h16
  have f17 := fun w => run_float_arith (P := Tryd.prog) w .add 105 .f64 t2 c3 t h17
  clear h0 h1 h2 h3 h4 h5 h6 h7 h8 h9 h10 h11 h12 h13 h14 h15 h16 h17 p2 p3
  go_enter Tryd.func93, Tryd.ntmps93
  go_wp2_with fail
  refine (HN.out w).mono ?_
  rintro e w' ⟨rfl, rfl⟩
  go_wp2_with fail
  refine (HI.out w).mono ?_
  rintro e w' ⟨rfl, rfl⟩
  go_upto_region 8 with (fail)
  rw [ht0.out]
  go_upto_region 16 with (fail)
  rw [ht2.out]
  go_wp2_with fail
  go_ret
  exact ⟨rfl, rfl⟩
end Go.Proofs.YtdeigmjbcbjgeaaDoor
/-
  The program's roots, products of words, and fractions: walked.
-/
namespace Go.Proofs.YtdeigmjbcbjgeaaDoor
open Go.RowKit

set_option maxHeartbeats 400000 in
theorem Cbrt_any (x r : Nat) (w : World) (h : cbrtW x = some r) :
    Calls Tryd.prog 85 #[.float .f64 x] w fun e w' => e = .returned (.float .f64 r) ∧ w = w' := by
  have H := hid (cbrt_any x r w h)
  clear h
  go_enter Tryd.func85, Tryd.ntmps85
  go_wp2_with fail
  refine (H.out).mono ?_
  rintro e w' ⟨rfl, rfl⟩
  go_wp2_with fail
  go_ret
  exact ⟨rfl, rfl⟩

set_option maxHeartbeats 400000 in
theorem root2_any (p : Int) (r : Nat) (w : World) (h : rootW p 2 = some r) :
    Calls Tryd.prog 78 #[.int .u64 p, .int .i64 2] w fun e w' => e = .returned (.float .f64 r) ∧ w = w' := by
  rw [rootW, if_pos rfl] at h
  have H := hid ((Sqrt_any (floatOfInt .f64 p) r w h).mono fun _ _ q => (⟨q.1, q.2.symm⟩ : _ ∧ w = _))
  clear h
  go_enter Tryd.func78, Tryd.ntmps78
  go_wp2_with fail
  refine (H.out).mono ?_
  rintro e w' ⟨rfl, rfl⟩
  go_wp2_with fail
  go_ret
  exact ⟨rfl, rfl⟩

set_option maxHeartbeats 400000 in
theorem root3_any (p : Int) (r : Nat) (w : World) (h : rootW p 3 = some r) :
    Calls Tryd.prog 78 #[.int .u64 p, .int .i64 3] w fun e w' => e = .returned (.float .f64 r) ∧ w = w' := by
  rw [rootW, if_neg (by decide)] at h
  have H := hid (Cbrt_any (floatOfInt .f64 p) r w h)
  clear h
  go_enter Tryd.func78, Tryd.ntmps78
  go_wp2_with fail
  refine (H.out).mono ?_
  rintro e w' ⟨rfl, rfl⟩
  go_wp2_with fail
  go_ret
  exact ⟨rfl, rfl⟩

theorem root_any (p : Int) (d r : Nat) (w : World) (hd : d = 2 ∨ d = 3) (h : rootW p d = some r) :
    Calls Tryd.prog 78 #[.int .u64 p, .int .i64 d] w fun e w' => e = .returned (.float .f64 r) ∧ w = w' := by
  rcases hd with rfl | rfl
  · exact root2_any p r w h
  · exact root3_any p r w h

def TimesRel (whole f : Int) (z : List Int) (g : Nat) (wp : World) (below carry i : Value) (wr : World) : Prop :=
  ∃ n : Nat, i = .int .i64 n ∧ n ≤ 4 ∧ below = .int .u64 (if n = 0 then 0 else z.getD (n - 1) 0) ∧ carry = .int .u64 (timesTo whole f z n).2 ∧
    wr.heap[g]? = some (.cells (wordsOf .u64 ((timesTo whole f z n).1 ++ z.drop n)) 34 (0, 0)) ∧ Keeps (· = g) wp wr
theorem timesTo_len (whole f : Int) (z : List Int) : ∀ n, (timesTo whole f z n).1.length = n
  | 0 => rfl
  | n + 1 => by simp [timesTo, timesTo_len whole f z n]
theorem timesTo_nonneg (whole f : Int) (z : List Int) : ∀ n, 0 ≤ (timesTo whole f z n).2
  | 0 => by simp [timesTo]
  | n + 1 => by simp only [timesTo, timesStep]; exact wrap_u64_nonneg _
theorem set_append_drop (L z : List Int) (n : Nat) (x : Int) (h : L.length = n) (hn : n < z.length) : (L ++ z.drop n).set n x = (L ++ [x]) ++ z.drop (n + 1) := by
  subst h
  rw [List.set_append_right _ _ (Nat.le_refl _), Nat.sub_self, List.drop_eq_getElem_cons hn]
  simp only [List.set_cons_zero, List.append_assoc, List.singleton_append]

set_option maxHeartbeats 2000000 in
set_option maxRecDepth 100000 in
theorem times_any (whole f : Int) (z0 z1 z2 z3 : Int) (w : World) :
    Calls Tryd.prog 88 #[.agg #[.int .u64 z0, .int .u64 z1, .int .u64 z2, .int .u64 z3], .int .u64 whole, .int .u64 f] w fun e w' =>
      e = .returned (.agg (wordsOf .u64 (timesL whole f [z0, z1, z2, z3]))) ∧ Keeps (fun _ => False) w w' := by
  have hA := Add64_run
  obtain ⟨z, hz⟩ : ∃ z : List Int, z = [z0, z1, z2, z3] := ⟨_, rfl⟩
  have hix := fun (i : Nat) (hi : i < z.length) W => run_index_words (P := Tryd.prog) 34 33 .u64 z (by rw [hz]; exact Tryd.underlying34) (fun w => by kernel_rfl) (by kernel_rfl) i hi W
  have HIX := hid hix
  have HL := hid (show z.length = 4 by rw [hz]; rfl)
  have HZ := hid (show wordsOf .u64 z = #[.int .u64 z0, .int .u64 z1, .int .u64 z2, .int .u64 z3] by rw [hz]; rfl)
  have HT := hid (show timesL whole f [z0, z1, z2, z3] = (timesTo whole f z 4).1 by rw [hz]; rfl)
  clear hz hix
  go_enter Tryd.func88, Tryd.ntmps88
  go_wp2
  rw [← HZ.out]
  obtain ⟨Z, hZ⟩ : ∃ Z, Z = wordsOf .u64 z := ⟨_, rfl⟩
  rw [← hZ] at HIX ⊢
  have HZW := hid hZ
  clear hZ HZ
  obtain ⟨w2, hw2⟩ : ∃ w2, w2 = (w.alloc (Obj.cells Z 34)).alloc (Obj.cells #[.int .u64 0, .int .u64 0, .int .u64 0, .int .u64 0] 34) := ⟨_, rfl⟩
  rw [← hw2]
  have hgz : w2.heap[w.heap.size]? = some (.cells (wordsOf .u64 ((timesTo whole f z 0).1 ++ z.drop 0)) 34 (0, 0)) := by
    rw [hw2, heap_alloc2_old, HZW.out]; rfl
  have hgr : w2.heap[w.heap.size + 1]? = some (.cells #[.int .u64 0, .int .u64 0, .int .u64 0, .int .u64 0] 34 (0, 0)) := by
    rw [hw2]; exact heap_alloc2_new w _ _
  have kp2 : Keeps (fun _ => False) w w2 := by rw [hw2]; exact ((Keeps.refl _ w).alloc _).alloc _
  have hs2 : w2.heap.size = w.heap.size + 2 := by rw [hw2]; simp
  obtain ⟨g, hg⟩ : ∃ g, g = w.heap.size := ⟨_, rfl⟩
  rw [← hg] at hgz hgr hs2 ⊢
  have HG := hid hg
  have HGR := hid hgr
  have HS2 := hid hs2
  clear hw2 hg hgr hs2
  go_loopw [7, 8, 19] (fun b c i wr => TimesRel whole f z g w2 b c i wr) (fun _ _ i _ => 4 - (intOf i).toNat)
  case atStart => exact ⟨0, rfl, by omega, rfl, rfl, hgz, Keeps.refl _ _⟩
  case round =>
    clear hgz
    obtain ⟨n, rfl, hn, rfl, rfl, hgz, hkr⟩ := hrel
    by_cases hlt : n < 4
    · have hlt' : (n : Int) < 4 := by omega
      have hix := HIX.out n (by have := HL.out; omega)
      obtain ⟨x, hx⟩ : ∃ x, x = z.getD n 0 := ⟨_, rfl⟩
      rw [← hx] at hix
      have HX := hid hx
      obtain ⟨b, hb⟩ : ∃ b : Int, b = if n = 0 then 0 else z.getD (n - 1) 0 := ⟨_, rfl⟩
      rw [← hb]
      have HB := hid hb
      have hc0 := timesTo_nonneg whole f z n
      obtain ⟨c, hc⟩ : ∃ c : Int, c = (timesTo whole f z n).2 := ⟨_, rfl⟩
      rw [← hc] at hc0 ⊢
      have HC := hid hc
      clear hx hb hc
      go_wp2_with fail
      refine (Mul64_any x f wr).mono ?_
      rintro e w' ⟨rfl, rfl⟩
      obtain ⟨h1, q1⟩ : ∃ v, v = mulHi x f := ⟨_, rfl⟩
      obtain ⟨l1, q2⟩ : ∃ v, v = mulLo x f := ⟨_, rfl⟩
      rw [← q1, ← q2]
      have N1 : 0 ≤ l1 := by rw [q2]; exact mulLo_nonneg _ _
      have Q1 := hid q1; have Q2 := hid q2
      clear q1 q2
      go_wp2_with fail
      refine (Mul64_any b whole wr).mono ?_
      rintro e w' ⟨rfl, rfl⟩
      obtain ⟨h2, q1⟩ : ∃ v, v = mulHi b whole := ⟨_, rfl⟩
      obtain ⟨l2, q2⟩ : ∃ v, v = mulLo b whole := ⟨_, rfl⟩
      rw [← q1, ← q2]
      have N2 : 0 ≤ l2 := by rw [q2]; exact mulLo_nonneg _ _
      have Q3 := hid q1; have Q4 := hid q2
      clear q1 q2
      go_upto_region 8 with (fail)
      obtain ⟨s1, q1⟩ : ∃ v : Int, v = (l1 + l2) % 18446744073709551616 := ⟨_, rfl⟩
      obtain ⟨c1, q2⟩ : ∃ v : Int, v = (l1 + l2) / 18446744073709551616 := ⟨_, rfl⟩
      rw [← q1, ← q2]
      have N3 : 0 ≤ s1 := by rw [q1]; omega
      have Q5 := hid q1; have Q6 := hid q2
      clear q1 q2
      go_upto_region 9 with (fail)
      obtain ⟨s2, q1⟩ : ∃ v : Int, v = (s1 + c) % 18446744073709551616 := ⟨_, rfl⟩
      obtain ⟨c2, q2⟩ : ∃ v : Int, v = (s1 + c) / 18446744073709551616 := ⟨_, rfl⟩
      rw [← q1, ← q2]
      have Q7 := hid q1; have Q8 := hid q2
      clear q1 q2
      have hlen : ((timesTo whole f z n).1 ++ z.drop n).length = 4 := by simp [timesTo_len, HL.out]; omega
      have cw : wr.cell? ⟨g, n, none⟩ = some (.int .u64 (((timesTo whole f z n).1 ++ z.drop n).getD n 0)) := by
        rw [cell_of_row wr g n _ _ _ hgz, wordsOf_get _ _ _ (by omega)]
      generalize ((timesTo whole f z n).1 ++ z.drop n).getD n 0 = y at cw
      have fw : wr.frozen? ⟨g, n, none⟩ = false := frozen_of_row wr g n _ _ hgz
      clear hlen
      go_wp2_with fail
      go_roundw
      case rel =>
        have hst : timesStep whole f b c x = (s2, IntKind.u64.wrap (IntKind.u64.wrap (IntKind.u64.wrap (h1 + h2) + c1) + c2)) := by
          simp only [timesStep, ← Q1.out, ← Q2.out, ← Q3.out, ← Q4.out, ← Q5.out, ← Q6.out, ← Q7.out, ← Q8.out]
        have hto : timesTo whole f z (n + 1) = ((timesTo whole f z n).1 ++ [s2], IntKind.u64.wrap (IntKind.u64.wrap (IntKind.u64.wrap (h1 + h2) + c1) + c2)) := by
          simp only [timesTo, ← HB.out, ← HC.out, ← HX.out, hst]
        refine ⟨n + 1, rfl, by omega, ?_, by rw [hto], ?_, Keeps.setCell hkr _ _ (fun _ => rfl)⟩
        · rw [HX.out]; simp
        · rw [heap_setCell_same wr g n _ _ _ hgz, wordsOf_set, set_append_drop _ _ _ _ (timesTo_len whole f z n) (by have := HL.out; omega), hto]
      case measure => simp [intOf]; omega
    · have h4 : n = 4 := by omega
      subst h4
      have hgr : wr.heap[g + 1]? = some (.cells #[.int .u64 0, .int .u64 0, .int .u64 0, .int .u64 0] 34 (0, 0)) := by
        rw [hkr.block (g + 1) (by have := HS2.out; omega) (by omega)]; exact HGR.out
      have hd : (timesTo whole f z 4).1 ++ z.drop 4 = (timesTo whole f z 4).1 := by
        rw [List.drop_eq_nil_of_le (by have := HL.out; omega), List.append_nil]
      rw [hd] at hgz
      have hlen := timesTo_len whole f z 4
      have HTL := hid HT.out
      generalize (timesTo whole f z 4).1 = R at *
      obtain ⟨r0, r1, r2, r3, hR⟩ : ∃ r0 r1 r2 r3, R = [r0, r1, r2, r3] := by
        rcases R with _ | ⟨r0, _ | ⟨r1, _ | ⟨r2, _ | ⟨r3, _ | ⟨_, _⟩⟩⟩⟩⟩ <;> simp at hlen
        exact ⟨r0, r1, r2, r3, rfl⟩
      subst hR
      have kf : Keeps (fun _ => False) w wr := kp2.step hkr (fun i hi e => by have := HG.out; omega)
      have hle : w.heap.size ≤ g + 1 := by have := HG.out; omega
      clear hd hlen
      go_wp2_with (first
        | (refine wpList_load_row rfl _ _ rfl g rfl _ _ (0, 0) _ hgz Tryd.underlying34 rfl (by kernel_rfl) ?_)
        | (refine wpList_store_row rfl _ _ _ rfl (g + 1) _ rfl rfl _ _ hgr (by kernel_rfl) (by kernel_rfl) (by kernel_rfl) ?_))
      refine bodyPost_ret (v := .agg (wordsOf .u64 [r0, r1, r2, r3])) (results_cell_row rfl _ _ (g + 1) 34 (wordsOf .u64 [r0, r1, r2, r3]) (0, 0) _ rfl (setRow_heap _ _ _ _ _ _ hgr) Tryd.underlying34 rfl (by kernel_rfl)) rfl ?_
      exact ⟨by rw [HTL.out], Keeps.setRow kf _ _ (fun hi => absurd hi (by omega))⟩
end Go.Proofs.YtdeigmjbcbjgeaaDoor
