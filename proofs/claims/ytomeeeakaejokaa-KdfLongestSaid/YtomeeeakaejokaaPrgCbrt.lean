/-
  The program's roots: walked.
-/
import Derived.Test.YtomeeeakaejokaaPrgConst
namespace Go.Proofs.Ytomeeeakaejokaa
open Go.RowKit

set_option maxHeartbeats 2000000 in
set_option maxRecDepth 100000 in
theorem cbrt_any (x r : Nat) (w : World) (h : cbrtW x = some r) :
    Calls Try.prog 67 #[.float .f64 x] w fun e w' => e = .returned (.float .f64 r) ∧ w = w' := by
  have hb := Bits_run
  have hf := From_run
  unfold cbrtW at h
  split at h
  case isFalse => cases h
  rename_i hp
  simp only [plainW, Bool.and_eq_true, Bool.not_eq_true'] at hp
  obtain ⟨⟨⟨⟨p1, p2⟩, p3⟩, p4⟩, p5⟩ := hp
  have HN := hid (fun w => IsNaN_any x w p2)
  have HI := hid (fun w => IsInf_any x w p3)
  simp only [Option.map_eq_some_iff, cbrtWay, Option.bind_eq_some_iff, Option.some.injEq] at h
  obtain ⟨ww, ⟨a1, h0, r1, h1, a2, h2, s1, h3, b1, h4, b2, h5, b3, h6, b4, h7, b5, h8, t1, h9, s2, h10, r2, h11, w1, h12, c1, h13, c2, h14, r3, h15, c3, h16, t, h17, e⟩, rfl⟩ := h
  subst e
  have ht0 := hid (show (IntKind.u64.wrap (IntKind.u64.wrap ((x : Int) / 3) + 3071306043645493248)).toNat = cbrtT0 x from rfl)
  generalize cbrtT0 x = t0 at *
  have ht2 := hid (show (IntKind.u64.wrap (bits .and .u64 (t1 : Int) 18446744072635809792 + 1073741824)).toNat = cbrtChop t1 from rfl)
  generalize cbrtChop t1 = t2 at *
  have f0 := fun w => run_float_arith (P := Try.prog) w .mul 73 .f64 t0 t0 a1 h0
  have f1 := fun w => run_float_arith (P := Try.prog) w .quo 73 .f64 a1 x r1 h1
  have f2 := fun w => run_float_arith (P := Try.prog) w .mul 73 .f64 r1 t0 a2 h2
  have f3 := fun w => run_float_arith (P := Try.prog) w .add 73 .f64 4603064841997850097 a2 s1 h3
  have f4 := fun w => run_float_arith (P := Try.prog) w .add 73 .f64 s1 4609048195788499471 b1 h4
  have f5 := fun w => run_float_arith (P := Try.prog) w .quo 73 .f64 13827900089180538932 s1 b2 h5
  have f6 := fun w => run_float_arith (P := Try.prog) w .add 73 .f64 b1 b2 b3 h6
  have f7 := fun w => run_float_arith (P := Try.prog) w .quo 73 .f64 4609916747145206638 b3 b4 h7
  have f8 := fun w => run_float_arith (P := Try.prog) w .add 73 .f64 4600105333671292343 b4 b5 h8
  have f9 := fun w => run_float_arith (P := Try.prog) w .mul 73 .f64 t0 b5 t1 h9
  have f10 := fun w => run_float_arith (P := Try.prog) w .mul 73 .f64 t2 t2 s2 h10
  have f11 := fun w => run_float_arith (P := Try.prog) w .quo 73 .f64 x s2 r2 h11
  have f12 := fun w => run_float_arith (P := Try.prog) w .add 73 .f64 t2 t2 w1 h12
  have f13 := fun w => run_float_arith (P := Try.prog) w .sub 73 .f64 r2 t2 c1 h13
  have f14 := fun w => run_float_arith (P := Try.prog) w .add 73 .f64 w1 r2 c2 h14
  have f15 := fun w => run_float_arith (P := Try.prog) w .quo 73 .f64 c1 c2 r3 h15
  have f16 := fun w => run_float_arith (P := Try.prog) w .mul 73 .f64 t2 r3 c3 h16
  have f17 := fun w => run_float_arith (P := Try.prog) w .add 73 .f64 t2 c3 t h17
  clear h0 h1 h2 h3 h4 h5 h6 h7 h8 h9 h10 h11 h12 h13 h14 h15 h16 h17 p2 p3
  go_enter Try.func67, Try.ntmps67
  go_wp2_with fail
  refine (HN.out w).mono ?_
  rintro e w' ⟨rfl, rfl⟩
  go_wp2_with fail
  refine (HI.out w).mono ?_
  rintro e w' ⟨rfl, rfl⟩
  go_upto_region 8 with (fail)
  rw [ht0.out]
  go_upto_region 16 with (fail)
  rw [ht2.out]
  go_wp2_with fail
  go_ret
  exact ⟨rfl, rfl⟩
end Go.Proofs.Ytomeeeakaejokaa
