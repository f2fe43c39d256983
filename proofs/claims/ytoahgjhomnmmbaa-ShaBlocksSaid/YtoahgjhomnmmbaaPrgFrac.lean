/-
  The program's powers of words, and the 64 bits of a root: walked.
-/
import Derived.Test.YtoahgjhomnmmbaaPrgRoot
import Derived.Test.YtoahgjhomnmmbaaTail
namespace Go.Proofs.Ytoahgjhomnmmbaa
open Go.RowKit

theorem timesL_len (whole f : Int) (z : List Int) : (timesL whole f z).length = 4 := timesTo_len whole f z 4
theorem powerL_len (whole f : Int) : ∀ n, (powerL whole f n).length = 4
  | 0 => rfl
  | _ + 1 => timesL_len _ _ _
theorem four_of_len (l : List Int) (h : l.length = 4) : ∃ a b c d, l = [a, b, c, d] := by
  rcases l with _ | ⟨a, _ | ⟨b, _ | ⟨c, _ | ⟨d, _ | ⟨_, _⟩⟩⟩⟩⟩ <;> simp at h
  exact ⟨a, b, c, d, rfl⟩
def PowerRel (whole f : Int) (d g : Nat) (wp : World) (i : Value) (wr : World) : Prop :=
  ∃ n : Nat, i = .int .i64 n ∧ n ≤ d ∧ wr.heap[g]? = some (.cells (wordsOf .u64 (powerL whole f n)) 78 (0, 0)) ∧ Keeps (· = g) wp wr

set_option maxHeartbeats 2000000 in
set_option maxRecDepth 100000 in
theorem power_any (whole f : Int) (d : Nat) (w : World) (hd : d ≤ 3) :
    Calls Try.prog 60 #[.int .u64 whole, .int .u64 f, .int .i64 d] w fun e w' =>
      e = .returned (.agg (wordsOf .u64 (powerL whole f d))) ∧ Keeps (fun _ => False) w w' := by
  go_enter Try.func60, Try.ntmps60
  go_wp2
  obtain ⟨w2, hw2⟩ : ∃ w2, w2 = (w.alloc (Obj.cells #[.int .u64 0, .int .u64 0, .int .u64 0, .int .u64 0] 78)).alloc (Obj.cells #[.int .u64 1, .int .u64 0, .int .u64 0, .int .u64 0] 78) := ⟨_, rfl⟩
  rw [← hw2]
  have hgz : w2.heap[w.heap.size + 1]? = some (.cells (wordsOf .u64 (powerL whole f 0)) 78 (0, 0)) := by
    rw [hw2, heap_alloc2_new]; rfl
  have hgr : w2.heap[w.heap.size]? = some (.cells #[.int .u64 0, .int .u64 0, .int .u64 0, .int .u64 0] 78 (0, 0)) := by
    rw [hw2]; exact heap_alloc2_old w _ _
  have kp2 : Keeps (fun _ => False) w w2 := by rw [hw2]; exact ((Keeps.refl _ w).alloc _).alloc _
  have hs2 : w2.heap.size = w.heap.size + 2 := by rw [hw2]; simp
  obtain ⟨g, hg⟩ : ∃ g, g = w.heap.size + 1 := ⟨_, rfl⟩
  obtain ⟨g0, hg0⟩ : ∃ g0, g0 = w.heap.size := ⟨_, rfl⟩
  rw [← hg] at hgz ⊢
  rw [← hg0] at hgr ⊢
  have HG := hid hg
  have HG0 := hid hg0
  have HGR := hid hgr
  have HS2 := hid hs2
  clear hw2 hg hg0 hgr hs2
  go_loopw [10] (fun i wr => PowerRel whole f d g w2 i wr) (fun i _ => d - (intOf i).toNat)
  case atStart => exact ⟨0, rfl, by omega, hgz, Keeps.refl _ _⟩
  case round =>
    clear hgz
    obtain ⟨n, rfl, hn, hgz, hkr⟩ := hrel
    obtain ⟨z0, z1, z2, z3, hz⟩ := four_of_len _ (powerL_len whole f n)
    have HZ := hid hz
    rw [hz] at hgz
    have hsz := hkr.size
    clear hz
    by_cases hlt : n < d
    · have hlt' : (n : Int) < d := by omega
      have HT := hid (fun W => times_any whole f z0 z1 z2 z3 W)
      go_wp2_with (refine wpList_load_row rfl _ _ rfl g rfl _ _ (0, 0) _ hgz Try.underlying78 rfl (by kernel_rfl) ?_)
      refine (HT.out _).mono ?_
      rintro e w3 ⟨rfl, hk3⟩
      obtain ⟨y0, y1, y2, y3, hy⟩ := four_of_len _ (timesL_len whole f [z0, z1, z2, z3])
      have HY := hid hy
      rw [hy]
      have hg3 : w3.heap[g]? = some (.cells (wordsOf .u64 [z0, z1, z2, z3]) 78 (0, 0)) := by
        rw [hk3.block g (by have := HG.out; have := HS2.out; omega) (fun h => h)]; exact hgz
      have hk4 : Keeps (· = g) w2 w3 := hkr.trans (hk3.mono (fun _ _ h => h.elim))
      clear hy hk3
      go_wp2_with (refine wpList_store_row rfl _ _ _ rfl g _ rfl rfl _ _ hg3 (by kernel_rfl) (by kernel_rfl) (by kernel_rfl) ?_)
      go_roundw
      case rel =>
        refine ⟨n + 1, rfl, by omega, ?_, Keeps.setRow hk4 _ _ (fun _ => rfl)⟩
        rw [setRow_heap _ _ _ _ _ _ hg3, powerL, HZ.out, HY.out]
      case measure => simp [intOf]; omega
    · have heq : n = d := by omega
      subst heq
      have hgr : wr.heap[g0]? = some (.cells #[.int .u64 0, .int .u64 0, .int .u64 0, .int .u64 0] 78 (0, 0)) := by
        rw [hkr.block g0 (by have := HS2.out; have := HG0.out; omega) (by have := HG.out; have := HG0.out; omega)]; exact HGR.out
      have kf : Keeps (fun _ => False) w wr := kp2.step hkr (fun i hi e => by have := HG.out; omega)
      have hle : w.heap.size ≤ g0 := by have := HG0.out; omega
      go_wp2_with (first
        | (refine wpList_load_row rfl _ _ rfl g rfl _ _ (0, 0) _ hgz Try.underlying78 rfl (by kernel_rfl) ?_)
        | (refine wpList_store_row rfl _ _ _ rfl g0 _ rfl rfl _ _ hgr (by kernel_rfl) (by kernel_rfl) (by kernel_rfl) ?_))
      refine bodyPost_ret (v := .agg (wordsOf .u64 [z0, z1, z2, z3])) (results_cell_row rfl _ _ g0 78 (wordsOf .u64 [z0, z1, z2, z3]) (0, 0) _ rfl (setRow_heap _ _ _ _ _ _ hgr) Try.underlying78 rfl (by kernel_rfl)) rfl ?_
      exact ⟨by rw [HZ.out], Keeps.setRow kf _ _ (fun hi => absurd hi (by omega))⟩

theorem negFloat_run (P : Program) (b : Nat) (w : World) : (Op.unary .neg (.float .f64 b)).run P w = .ok (.float .f64 (Op.negFloat .f64 b)) w := rfl

set_option maxHeartbeats 2000000 in
set_option maxRecDepth 100000 in
theorem frac64_2 (p : Int) (r : Int) (w : World) (h : frac64W p 2 = some r) :
    Calls Try.prog 51 #[.int .u64 p, .int .i64 2] w fun e w' => e = .returned (.int .u64 r) ∧ Keeps (fun _ => False) w w' := by
  simp only [frac64W, Option.bind_eq_some_iff] at h
  obtain ⟨e, he, i, hi, dd, hdd, m, hm, f, hf, wh, hwh, q, hq, ex, hex, m1, hm1, sl, hsl, q2, hq2, fl, hfl, n, hn, hr⟩ := h
  injection hr with hr
  have HR := hid (root_any p 2 e w (.inl rfl) he)
  have HM := hid (Modf_any e i dd w hi hdd)
  generalize copyW dd e = c at *
  have h1 := fun w => run_float_arith (P := Try.prog) w .mul 73 .f64 c 4895412794951729152 m hm
  have h2 := fun w => run_convert_float_int (P := Try.prog) w 73 31 .f64 .u64 m f (by kernel_rfl) Try.underlying31 hf
  have h3 := fun w => run_convert_float_int (P := Try.prog) w 73 31 .f64 .u64 i wh (by kernel_rfl) Try.underlying31 hwh
  have HP := hid (fun W => power_any wh f 2 W (by omega))
  obtain ⟨z0, z1, z2, z3, hz⟩ := four_of_len _ (powerL_len wh f 2)
  rw [hz] at HP hq hex
  simp only [Nat.sub_self, Nat.reduceSub, List.getD_cons_zero, List.getD_cons_succ, IntWalk.i64_left] at hq hex
  have h4 := fun w => run_float_arith (P := Try.prog) w .quo 73 .f64 (floatOfInt .f64 z0) 4895412794951729152 q hq
  have h5 := fun w => run_float_arith (P := Try.prog) w .add 73 .f64 (floatOfInt .f64 (wrap64 z1)) q ex hex
  have h6 := fun w => run_float_arith (P := Try.prog) w .mul 73 .f64 (floatOfInt .f64 2) (floatOfInt .f64 p) m1 hm1
  have h7 := fun w => run_float_arith (P := Try.prog) w .quo 73 .f64 m1 e sl hsl
  have h8 := fun w => run_float_arith (P := Try.prog) w .quo 73 .f64 (Op.negFloat .f64 ex) sl q2 hq2
  have h9 := negFloat_run Try.prog
  have HF := hid (fun w => Floor_any q2 fl w hfl)
  have h10 := fun w => run_convert_float_int (P := Try.prog) w 73 2 .f64 .i64 fl n (by kernel_rfl) Try.underlying2 hn
  have HRR := hid hr
  clear he hi hdd hm hf hwh hz hq hex hm1 hsl hq2 hfl hn hr
  go_enter Try.func51, Try.ntmps51
  go_wp2_with fail
  refine (HR.out).mono ?_
  rintro e' w' ⟨rfl, rfl⟩
  go_wp2_with fail
  refine (HM.out).mono ?_
  rintro e' w' ⟨rfl, rfl⟩
  go_wp2_with fail
  refine (HP.out w).mono ?_
  rintro e' w1 ⟨rfl, hk1⟩
  rw [show wordsOf .u64 [z0, z1, z2, z3] = #[.int .u64 z0, .int .u64 z1, .int .u64 z2, .int .u64 z3] from rfl]
  go_wp2_with fail
  refine wp_region_tail 13 (by kernel_rfl) (by kernel_rfl) _ _ rfl rfl ?_
  simp only [List.take_succ_cons, List.take_zero, List.drop_succ_cons, List.drop_zero]
  repeat (first | go_big_quiet_skip | (go_big_quiet_want; go_big_quiet_op; first | go_big_quiet_on | (apply Exists.intro; refine ⟨?_, ?_⟩; (fail); go_big_quiet_on)))
  refine wpQuiet_nil ?_
  go_wp2_with fail
  refine (HF.out _).mono ?_
  rintro e' w' ⟨rfl, rfl⟩
  go_wp2_with fail
  go_ret
  exact ⟨by simp only [HRR.out]; rfl, (hk1.alloc _).drew⟩
set_option maxHeartbeats 2000000 in
set_option maxRecDepth 100000 in
theorem frac64_3 (p : Int) (r : Int) (w : World) (h : frac64W p 3 = some r) :
    Calls Try.prog 51 #[.int .u64 p, .int .i64 3] w fun e w' => e = .returned (.int .u64 r) ∧ Keeps (fun _ => False) w w' := by
  simp only [frac64W, Option.bind_eq_some_iff] at h
  obtain ⟨e, he, i, hi, dd, hdd, m, hm, f, hf, wh, hwh, q, hq, ex, hex, m1, hm1, sl, hsl, q2, hq2, fl, hfl, n, hn, hr⟩ := h
  injection hr with hr
  have HR := hid (root_any p 3 e w (.inr rfl) he)
  have HM := hid (Modf_any e i dd w hi hdd)
  generalize copyW dd e = c at *
  have h1 := fun w => run_float_arith (P := Try.prog) w .mul 73 .f64 c 4895412794951729152 m hm
  have h2 := fun w => run_convert_float_int (P := Try.prog) w 73 31 .f64 .u64 m f (by kernel_rfl) Try.underlying31 hf
  have h3 := fun w => run_convert_float_int (P := Try.prog) w 73 31 .f64 .u64 i wh (by kernel_rfl) Try.underlying31 hwh
  have HP := hid (fun W => power_any wh f 3 W (by omega))
  obtain ⟨z0, z1, z2, z3, hz⟩ := four_of_len _ (powerL_len wh f 3)
  rw [hz] at HP hq hex
  simp only [Nat.reduceSub, List.getD_cons_zero, List.getD_cons_succ, IntWalk.i64_left] at hq hex
  have h4 := fun w => run_float_arith (P := Try.prog) w .quo 73 .f64 (floatOfInt .f64 z1) 4895412794951729152 q hq
  have h5 := fun w => run_float_arith (P := Try.prog) w .add 73 .f64 (floatOfInt .f64 (wrap64 z2)) q ex hex
  have h6 := fun w => run_float_arith (P := Try.prog) w .mul 73 .f64 (floatOfInt .f64 3) (floatOfInt .f64 p) m1 hm1
  have h7 := fun w => run_float_arith (P := Try.prog) w .quo 73 .f64 m1 e sl hsl
  have h8 := fun w => run_float_arith (P := Try.prog) w .quo 73 .f64 (Op.negFloat .f64 ex) sl q2 hq2
  have h9 := negFloat_run Try.prog
  have HF := hid (fun w => Floor_any q2 fl w hfl)
  have h10 := fun w => run_convert_float_int (P := Try.prog) w 73 2 .f64 .i64 fl n (by kernel_rfl) Try.underlying2 hn
  have HRR := hid hr
  clear he hi hdd hm hf hwh hz hq hex hm1 hsl hq2 hfl hn hr
  go_enter Try.func51, Try.ntmps51
  go_wp2_with fail
  refine (HR.out).mono ?_
  rintro e' w' ⟨rfl, rfl⟩
  go_wp2_with fail
  refine (HM.out).mono ?_
  rintro e' w' ⟨rfl, rfl⟩
  go_wp2_with fail
  refine (HP.out w).mono ?_
  rintro e' w1 ⟨rfl, hk1⟩
  rw [show wordsOf .u64 [z0, z1, z2, z3] = #[.int .u64 z0, .int .u64 z1, .int .u64 z2, .int .u64 z3] from rfl]
  go_wp2_with fail
  refine wp_region_tail 13 (by kernel_rfl) (by kernel_rfl) _ _ rfl rfl ?_
  simp only [List.take_succ_cons, List.take_zero, List.drop_succ_cons, List.drop_zero]
  repeat (first | go_big_quiet_skip | (go_big_quiet_want; go_big_quiet_op; first | go_big_quiet_on | (apply Exists.intro; refine ⟨?_, ?_⟩; (fail); go_big_quiet_on)))
  refine wpQuiet_nil ?_
  go_wp2_with fail
  refine (HF.out _).mono ?_
  rintro e' w' ⟨rfl, rfl⟩
  go_wp2_with fail
  go_ret
  exact ⟨by simp only [HRR.out]; rfl, (hk1.alloc _).drew⟩
theorem frac64_any (p : Int) (d : Nat) (r : Int) (w : World) (hd : d = 2 ∨ d = 3) (h : frac64W p d = some r) :
    Calls Try.prog 51 #[.int .u64 p, .int .i64 d] w fun e w' => e = .returned (.int .u64 r) ∧ Keeps (fun _ => False) w w' := by
  rcases hd with rfl | rfl
  · exact frac64_2 p r w h
  · exact frac64_3 p r w h
end Go.Proofs.Ytoahgjhomnmmbaa
