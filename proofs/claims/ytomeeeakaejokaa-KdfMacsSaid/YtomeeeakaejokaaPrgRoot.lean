/-
  The program's roots, products of words, and fractions: walked.
-/
import Derived.Test.YtomeeeakaejokaaPrgCbrt
import Derived.BigQuiet
import Derived.BigRegion
import Derived.StillTailTactics
namespace Go.Proofs.Ytomeeeakaejokaa
open Go.RowKit

set_option maxHeartbeats 400000 in
theorem Cbrt_any (x r : Nat) (w : World) (h : cbrtW x = some r) :
    Calls Try.prog 60 #[.float .f64 x] w fun e w' => e = .returned (.float .f64 r) ∧ w = w' := by
  have H := hid (cbrt_any x r w h)
  clear h
  go_enter Try.func60, Try.ntmps60
  go_wp2_with fail
  refine (H.out).mono ?_
  rintro e w' ⟨rfl, rfl⟩
  go_wp2_with fail
  go_ret
  exact ⟨rfl, rfl⟩

set_option maxHeartbeats 400000 in
theorem root2_any (p : Int) (r : Nat) (w : World) (h : rootW p 2 = some r) :
    Calls Try.prog 55 #[.int .u64 p, .int .i64 2] w fun e w' => e = .returned (.float .f64 r) ∧ w = w' := by
  rw [rootW, if_pos rfl] at h
  have H := hid ((Sqrt_any (floatOfInt .f64 p) r w h).mono fun _ _ q => (⟨q.1, q.2.symm⟩ : _ ∧ w = _))
  clear h
  go_enter Try.func55, Try.ntmps55
  go_wp2_with fail
  refine (H.out).mono ?_
  rintro e w' ⟨rfl, rfl⟩
  go_wp2_with fail
  go_ret
  exact ⟨rfl, rfl⟩

set_option maxHeartbeats 400000 in
theorem root3_any (p : Int) (r : Nat) (w : World) (h : rootW p 3 = some r) :
    Calls Try.prog 55 #[.int .u64 p, .int .i64 3] w fun e w' => e = .returned (.float .f64 r) ∧ w = w' := by
  rw [rootW, if_neg (by decide)] at h
  have H := hid (Cbrt_any (floatOfInt .f64 p) r w h)
  clear h
  go_enter Try.func55, Try.ntmps55
  go_wp2_with fail
  refine (H.out).mono ?_
  rintro e w' ⟨rfl, rfl⟩
  go_wp2_with fail
  go_ret
  exact ⟨rfl, rfl⟩

theorem root_any (p : Int) (d r : Nat) (w : World) (hd : d = 2 ∨ d = 3) (h : rootW p d = some r) :
    Calls Try.prog 55 #[.int .u64 p, .int .i64 d] w fun e w' => e = .returned (.float .f64 r) ∧ w = w' := by
  rcases hd with rfl | rfl
  · exact root2_any p r w h
  · exact root3_any p r w h

set_option maxHeartbeats 1000000 in
theorem frac32_any (p : Int) (d : Nat) (r : Int) (w : World) (hd : d = 2 ∨ d = 3) (h : frac32W p d = some r) :
    Calls Try.prog 48 #[.int .u64 p, .int .i64 d] w fun e w' => e = .returned (.int .u32 r) ∧ w = w' := by
  simp only [frac32W, Option.bind_eq_some_iff] at h
  obtain ⟨e, he, i, hi, dd, hdd, m, hm, hr⟩ := h
  have HR := hid (root_any p d e w hd he)
  have HM := hid (Modf_any e i dd w hi hdd)
  generalize copyW dd e = c at *
  have h1 := fun w => run_float_arith (P := Try.prog) w .mul 73 .f64 c 4751297606875873280 m hm
  have h2 := fun w => run_convert_float_int (P := Try.prog) w 73 51 .f64 .u32 m r (by kernel_rfl) Try.underlying51 hr
  clear hd he hi hdd hm hr
  go_enter Try.func48, Try.ntmps48
  go_wp2_with fail
  refine (HR.out).mono ?_
  rintro e' w' ⟨rfl, rfl⟩
  go_wp2_with fail
  refine (HM.out).mono ?_
  rintro e' w' ⟨rfl, rfl⟩
  go_wp2_with fail
  go_ret
  exact ⟨rfl, rfl⟩

theorem timesTo_len (whole f : Int) (z : List Int) : ∀ n, (timesTo whole f z n).1.length = n
  | 0 => rfl
  | n + 1 => by simp [timesTo, timesTo_len whole f z n]
theorem timesTo_nonneg (whole f : Int) (z : List Int) : ∀ n, 0 ≤ (timesTo whole f z n).2
  | 0 => by simp [timesTo]
  | n + 1 => by simp only [timesTo, timesStep]; exact wrap_u64_nonneg _
theorem set_append_drop (L z : List Int) (n : Nat) (x : Int) (h : L.length = n) (hn : n < z.length) : (L ++ z.drop n).set n x = (L ++ [x]) ++ z.drop (n + 1) := by
  subst h
  rw [List.set_append_right _ _ (Nat.le_refl _), Nat.sub_self, List.drop_eq_getElem_cons hn]
  simp only [List.set_cons_zero, List.append_assoc, List.singleton_append]

end Go.Proofs.Ytomeeeakaejokaa
