/-
  The program's powers of words, and the 64 bits of a root: walked.
-/
import Derived.Test.YtdeigmjbcbjgeaaDoorQPrgConst
import Derived.Test.YtdeigmjbcbjgeaaDoorQTail
namespace Go.Proofs.YtdeigmjbcbjgeaaDoor
open Go.RowKit

theorem timesL_len (whole f : Int) (z : List Int) : (timesL whole f z).length = 4 := timesTo_len whole f z 4
theorem powerL_len (whole f : Int) : ∀ n, (powerL whole f n).length = 4
  | 0 => rfl
  | _ + 1 => timesL_len _ _ _
theorem four_of_len (l : List Int) (h : l.length = 4) : ∃ a b c d, l = [a, b, c, d] := by
  rcases l with _ | ⟨a, _ | ⟨b, _ | ⟨c, _ | ⟨d, _ | ⟨_, _⟩⟩⟩⟩⟩ <;> simp at h
  exact ⟨a, b, c, d, rfl⟩
def PowerRel (whole f : Int) (d g : Nat) (wp : World) (i : Value) (wr : World) : Prop :=
  ∃ n : Nat, i = .int .i64 n ∧ n ≤ d ∧ wr.heap[g]? = some (.cells (wordsOf .u64 (powerL whole f n)) 34 (0, 0)) ∧ Keeps (· = g) wp wr

set_option maxHeartbeats 2000000 in
set_option maxRecDepth 100000 in
theorem power_any (whole f : Int) (d : Nat) (w : World) (hd : d ≤ 3) :
    Calls Tryd.prog 80 #[.int .u64 whole, .int .u64 f, .int .i64 d] w fun e w' =>
      e = .returned (.agg (wordsOf .u64 (powerL whole f d))) ∧ Keeps (fun _ => False) w w' := by
  go_enter Tryd.func80, Tryd.ntmps80
  go_wp2
  obtain ⟨w2, hw2⟩ : ∃ w2, w2 = (w.alloc (Obj.cells #[.int .u64 0, .int .u64 0, .int .u64 0, .int .u64 0] 34)).alloc (Obj.cells #[.int .u64 1, .int .u64 0, .int .u64 0, .int .u64 0] 34) := ⟨_, rfl⟩
  rw [← hw2]
  have hgz : w2.heap[w.heap.size + 1]? = some (.cells (wordsOf .u64 (powerL whole f 0)) 34 (0, 0)) := by
    rw [hw2, heap_alloc2_new]; rfl
  have hgr : w2.heap[w.heap.size]? = some (.cells #[.int .u64 0, .int .u64 0, .int .u64 0, .int .u64 0] 34 (0, 0)) := by
    rw [hw2]; exact heap_alloc2_old w _ _
  have kp2 : Keeps (fun _ => False) w w2 := by rw [hw2]; exact ((Keeps.refl _ w).alloc _).alloc _
  have hs2 : w2.heap.size = w.heap.size + 2 := by rw [hw2]; simp
  obtain ⟨g, hg⟩ : ∃ g, g = w.heap.size + 1 := ⟨_, rfl⟩
  obtain ⟨g0, hg0⟩ : ∃ g0, g0 = w.heap.size := ⟨_, rfl⟩
  rw [← hg] at hgz ⊢
  rw [← hg0] at hgr ⊢
  have HG := hid hg
  have HG0 := hid hg0
  have HGR := hid hgr
  have HS2 := hid hs2
  clear hw2 hg hg0 hgr hs2
  go_loopw [10] (fun i wr => PowerRel whole f d g w2 i wr) (fun i _ => d - (intOf i).toNat)
  case atStart => exact ⟨0, rfl, by omega, hgz, Keeps.refl _ _⟩
  case round =>
    clear hgz
    obtain ⟨n, rfl, hn, hgz, hkr⟩ := hrel
    obtain ⟨z0, z1, z2, z3, hz⟩ := four_of_len _ (powerL_len whole f n)
    have HZ := hid hz
    rw [hz] at hgz
    have hsz := hkr.size
    clear hz
    by_cases hlt : n < d
    · have hlt' : (n : Int) < d := by omega
      have HT := hid (fun W => times_any whole f z0 z1 z2 z3 W)
      go_wp2_with (refine wpList_load_row rfl _ _ rfl g rfl _ _ (0, 0) _ hgz Tryd.underlying34 rfl (by kernel_rfl) ?_)
      refine (HT.out _).mono ?_
      rintro e w3 ⟨rfl, hk3⟩
      obtain ⟨y0, y1, y2, y3, hy⟩ := four_of_len _ (timesL_len whole f [z0, z1, z2, z3])
      have HY := hid hy
      rw [hy]
      have hg3 : w3.heap[g]? = some (.cells (wordsOf .u64 [z0, z1, z2, z3]) 34 (0, 0)) := by
        rw [hk3.block g (by have := HG.out; have := HS2.out; omega) (fun h => h)]; exact hgz
      have hk4 : Keeps (· = g) w2 w3 := hkr.trans (hk3.mono (fun _ _ h => h.elim))
      clear hy hk3
      go_wp2_with (refine wpList_store_row rfl _ _ _ rfl g _ rfl rfl _ _ hg3 (by kernel_rfl) (by kernel_rfl) (by kernel_rfl) ?_)
      go_roundw
      case rel =>
        refine ⟨n + 1, rfl, by omega, ?_, Keeps.setRow hk4 _ _ (fun _ => rfl)⟩
        rw [setRow_heap _ _ _ _ _ _ hg3, powerL, HZ.out, HY.out]
      case measure => simp [intOf]; omega
    · have heq : n = d := by omega
      subst heq
      have hgr : wr.heap[g0]? = some (.cells #[.int .u64 0, .int .u64 0, .int .u64 0, .int .u64 0] 34 (0, 0)) := by
        rw [hkr.block g0 (by have := HS2.out; have := HG0.out; omega) (by have := HG.out; have := HG0.out; omega)]; exact HGR.out
      have kf : Keeps (fun _ => False) w wr := kp2.step hkr (fun i hi e => by have := HG.out; omega)
      have hle : w.heap.size ≤ g0 := by have := HG0.out; omega
      go_wp2_with (first
        | (refine wpList_load_row rfl _ _ rfl g rfl _ _ (0, 0) _ hgz Tryd.underlying34 rfl (by kernel_rfl) ?_)
        | (refine wpList_store_row rfl _ _ _ rfl g0 _ rfl rfl _ _ hgr (by kernel_rfl) (by kernel_rfl) (by kernel_rfl) ?_))
      refine bodyPost_ret (v := .agg (wordsOf .u64 [z0, z1, z2, z3])) (results_cell_row rfl _ _ g0 34 (wordsOf .u64 [z0, z1, z2, z3]) (0, 0) _ rfl (setRow_heap _ _ _ _ _ _ hgr) Tryd.underlying34 rfl (by kernel_rfl)) rfl ?_
      exact ⟨by rw [HZ.out], Keeps.setRow kf _ _ (fun hi => absurd hi (by omega))⟩

theorem negFloat_run (P : Program) (b : Nat) (w : World) : (Op.unary .neg (.float .f64 b)).run P w = .ok (.float .f64 (Op.negFloat .f64 b)) w := rfl

set_option maxHeartbeats 2000000 in
set_option maxRecDepth 100000 in
theorem frac64_2 (p : Int) (r : Int) (w : World) (h : frac64W p 2 = some r) :
    Calls Tryd.prog 70 #[.int .u64 p, .int .i64 2] w fun e w' => e = .returned (.int .u64 r) ∧ Keeps (fun _ => False) w w' := by
  simp only [frac64W, Option.bind_eq_some_iff] at h
  obtain ⟨e, he, i, hi, dd, hdd, m, hm, f, hf, wh, hwh, q, hq, ex, hex, m1, hm1, sl, hsl, q2, hq2, fl, hfl, n, hn, hr⟩ := h
  injection hr with hr
  have HR := hid (root_any p 2 e w (.inl rfl) he)
  have HM := hid (Modf_any e i dd w hi hdd)
  generalize copyW dd e = c at *
  have h1 := fun w => run_float_arith (P := Tryd.prog) w .mul 105 .f64 c 4895412794951729152 m hm
  have h2 := fun w => run_convert_float_int (P := Tryd.prog) w 105 33 .f64 .u64 m f (by kernel_rfl) Tryd.underlying33 hf
  have h3 := fun w => run_convert_float_int (P := Tryd.prog) w 105 33 .f64 .u64 i wh (by kernel_rfl) Tryd.underlying33 hwh
  have HP := hid (fun W => power_any wh f 2 W (by omega))
  obtain ⟨z0, z1, z2, z3, hz⟩ := four_of_len _ (powerL_len wh f 2)
  rw [hz] at HP hq hex
  simp only [Nat.sub_self, Nat.reduceSub, List.getD_cons_zero, List.getD_cons_succ, IntWalk.i64_left] at hq hex
  have h4 := fun w => run_float_arith (P := Tryd.prog) w .quo 105 .f64 (floatOfInt .f64 z0) 4895412794951729152 q hq
  have h5 := fun w => run_float_arith (P := Tryd.prog) w .add 105 .f64 (floatOfInt .f64 (wrap64 z1)) q ex hex
  have h6 := fun w => run_float_arith (P := Tryd.prog) w .mul 105 .f64 (floatOfInt .f64 2) (floatOfInt .f64 p) m1 hm1
  have h7 := fun w => run_float_arith (P := Tryd.prog) w .quo 105 .f64 m1 e sl hsl
  have h8 := fun w => run_float_arith (P := Tryd.prog) w .quo 105 .f64 (Op.negFloat .f64 ex) sl q2 hq2
  have h9 := negFloat_run Tryd.prog
  have HF := hid (fun w => Floor_any q2 fl w hfl)
  have h10 := fun w => run_convert_float_int (P := Tryd.prog) w 105 2 .f64 .i64 fl n (by kernel_rfl) Tryd.underlying2 hn
  have HRR := hid hr
  clear he hi hdd hm hf hwh hz hq hex hm1 hsl hq2 hfl hn hr
  go_enter Tryd.func70, Tryd.ntmps70
  go_wp2_with fail
  refine (HR.out).mono ?_
  rintro e' w' ⟨rfl, rfl⟩
  go_wp2_with fail
  refine (HM.out).mono ?_
  rintro e' w' ⟨rfl, rfl⟩
  go_wp2_with fail
  refine (HP.out w).mono ?_
  rintro e' w1 ⟨rfl, hk1⟩
  rw [show wordsOf .u64 [z0, z1, z2, z3] = #[.int .u64 z0, .int .u64 z1, .int .u64 z2, .int .u64 z3] from rfl]
  go_wp2_with fail
  refine wp_region_tail 13 (by kernel_rfl) (by kernel_rfl) _ _ rfl rfl ?_
  simp only [List.take_succ_cons, List.take_zero, List.drop_succ_cons, List.drop_zero]
  repeat (first | go_big_quiet_skip | (go_big_quiet_want; go_big_quiet_op; first | go_big_quiet_on | (apply Exists.intro; refine ⟨?_, ?_⟩; (fail); go_big_quiet_on)))
  refine wpQuiet_nil ?_
  go_wp2_with fail
  refine (HF.out _).mono ?_
  rintro e' w' ⟨rfl, rfl⟩
  go_wp2_with fail
  go_ret
  exact ⟨by simp only [HRR.out]; rfl, (hk1.alloc _).drew⟩
set_option maxHeartbeats 2000000 in
set_option maxRecDepth 100000 in
theorem frac64_3 (p : Int) (r : Int) (w : World) (h : frac64W p 3 = some r) :
    Calls Tryd.prog 70 #[.int .u64 p, .int .i64 3] w fun e w' => e = .returned (.int .u64 r) ∧ Keeps (fun _ => False) w w' := by
  simp only [frac64W, Option.bind_eq_some_iff] at h
  obtain ⟨e, he, i, hi, dd, hdd, m, hm, f, hf, wh, hwh, q, hq, ex, hex, m1, hm1, sl, hsl, q2, hq2, fl, hfl, n, hn, hr⟩ := h
  injection hr with hr
  have HR := hid (root_any p 3 e w (.inr rfl) he)
  have HM := hid (Modf_any e i dd w hi hdd)
  generalize copyW dd e = c at *
  have h1 := fun w => run_float_arith (P := Tryd.prog) w .mul 105 .f64 c 4895412794951729152 m hm
  have h2 := fun w => run_convert_float_int (P := Tryd.prog) w 105 33 .f64 .u64 m f (by kernel_rfl) Tryd.underlying33 hf
  have h3 := fun w => run_convert_float_int (P := Tryd.prog) w 105 33 .f64 .u64 i wh (by kernel_rfl) Tryd.underlying33 hwh
  have HP := hid (fun W => power_any wh f 3 W (by omega))
  obtain ⟨z0, z1, z2, z3, hz⟩ := four_of_len _ (powerL_len wh f 3)
  rw [hz] at HP hq hex
  simp only [Nat.reduceSub, List.getD_cons_zero, List.getD_cons_succ, IntWalk.i64_left] at hq hex
  have h4 := fun w => run_float_arith (P := Tryd.prog) w .quo 105 .f64 (floatOfInt .f64 z1) 4895412794951729152 q hq
  have h5 := fun w => run_float_arith (P := Tryd.prog) w .add 105 .f64 (floatOfInt .f64 (wrap64 z2)) q ex hex
  have h6 := fun w => run_float_arith (P := Tryd.prog) w .mul 105 .f64 (floatOfInt .f64 3) (floatOfInt .f64 p) m1 hm1
  have h7 := fun w => run_float_arith (P := Tryd.prog) w .quo 105 .f64 m1 e sl hsl
  have h8 := fun w => run_float_arith (P := Tryd.prog) w .quo 105 .f64 (Op.negFloat .f64 ex) sl q2 hq2
  have h9 := negFloat_run Tryd.prog
  have HF := hid (fun w => Floor_any q2 fl w hfl)
  have h10 := fun w => run_convert_float_int (P := Tryd.prog) w 105 2 .f64 .i64 fl n (by kernel_rfl) Tryd.underlying2 hn
  have HRR := hid hr
  clear he hi hdd hm hf hwh hz hq hex hm1 hsl hq2 hfl hn hr
  go_enter Tryd.func70, Tryd.ntmps70
  go_wp2_with fail
  refine (HR.out).mono ?_
  rintro e' w' ⟨rfl, rfl⟩
  go_wp2_with fail
  refine (HM.out).mono ?_
  rintro e' w' ⟨rfl, rfl⟩
  go_wp2_with fail
  refine (HP.out w).mono ?_
  rintro e' w1 ⟨rfl, hk1⟩
  rw [show wordsOf .u64 [z0, z1, z2, z3] = #[.int .u64 z0, .int .u64 z1, .int .u64 z2, .int .u64 z3] from rfl]
  go_wp2_with fail
  refine wp_region_tail 13 (by kernel_rfl) (by kernel_rfl) _ _ rfl rfl ?_
  simp only [List.take_succ_cons, List.take_zero, List.drop_succ_cons, List.drop_zero]
  repeat (first | go_big_quiet_skip | (go_big_quiet_want; go_big_quiet_op; first | go_big_quiet_on | (apply Exists.intro; refine ⟨?_, ?_⟩; (fail); go_big_quiet_on)))
  refine wpQuiet_nil ?_
  go_wp2_with fail
  refine (HF.out _).mono ?_
  rintro e' w' ⟨rfl, rfl⟩
  go_wp2_with fail
  go_ret
  exact ⟨by simp only [HRR.out]; rfl, (hk1.alloc _).drew⟩
theorem frac64_any (p : Int) (d : Nat) (r : Int) (w : World) (hd : d = 2 ∨ d = 3) (h : frac64W p d = some r) :
    Calls Tryd.prog 70 #[.int .u64 p, .int .i64 d] w fun e w' => e = .returned (.int .u64 r) ∧ Keeps (fun _ => False) w w' := by
  rcases hd with rfl | rfl
  · exact frac64_2 p r w h
  · exact frac64_3 p r w h
end Go.Proofs.YtdeigmjbcbjgeaaDoor
/-
  The program's primes, and the constants of its two kinds: walked.
-/
namespace Go.Proofs.YtdeigmjbcbjgeaaDoor
open Go.RowKit

theorem zero80p : (Tryd.prog.info? 103).map (fun i => (i.zero, i.size)) = some (some (.agg (Array.replicate 80 (.int .u16 0))), 80) := by kernel_rfl

set_option maxHeartbeats 1000000 in
set_option maxRecDepth 100000 in
theorem primes_any (w : World) :
    Calls Tryd.prog 77 #[] w fun e w' => e = .returned (.agg (wordsOf .u16 primes80)) ∧ Keeps (fun _ => False) w w' := by
  obtain ⟨hz, hs⟩ := zero_of_info zero80p
  generalize hZ : Array.replicate 80 (Value.int .u16 0) = Z at hz
  have HZ := hid hZ.symm
  clear hZ
  go_enter Tryd.func77, Tryd.ntmps77
  go_wp2_with (first
    | (refine wpList_build_to rfl _ _ rfl (wordsOf .u16 primes80) (by kernel_rfl) ?_)
    | (refine wpList_store_row rfl _ _ _ rfl w.heap.size (wordsOf .u16 primes80) rfl rfl _ Z (heap_alloc_last _ _) (by kernel_rfl) (by rw [HZ.out]; kernel_rfl) (by kernel_rfl) ?_))
  rw [World.setRow_alloc_new]
  refine bodyPost_ret (v := .agg (wordsOf .u16 primes80)) (results_cell_row rfl _ _ w.heap.size 103 (wordsOf .u16 primes80) (0, 0) _ rfl (heap_alloc_last _ _) Tryd.underlying103 rfl (by kernel_rfl)) rfl ?_
  exact ⟨rfl, (Keeps.refl _ _).alloc _⟩

/-- The cells cs, the first i of vs laid over those from off on. -/
def overTo (k : IntKind) (cs : Array Value) (off : Nat) (vs : List Int) : Nat → Array Value
  | 0 => cs
  | i + 1 => (overTo k cs off vs i).setIfInBounds (off + i) (.int k (vs.getD i 0))
def RootsRel (k : IntKind) (t : TypeId) (cs : Array Value) (off : Nat) (vs : List Int) (g : Nat) (wp : World) (i : Value) (wr : World) : Prop :=
  ∃ n : Nat, i = .int .i64 n ∧ n ≤ vs.length ∧ wr.heap[g]? = some (.cells (overTo k cs off vs n) t (0, 0)) ∧ Keeps (· = g) wp wr
def RootsPost (k : IntKind) (t : TypeId) (cs : Array Value) (off : Nat) (vs : List Int) (g : Nat) (w : World) (e : Ending) (w' : World) : Prop :=
  e = .returned (.tuple #[]) ∧ w'.heap[g]? = some (.cells (overTo k cs off vs vs.length) t (0, 0)) ∧ Keeps (· = g) w w'
theorem size80p : (Tryd.prog.info? 103).map (·.size) = some (wordsOf .u16 primes80).size := by kernel_rfl
theorem primes80_bound : ∀ i, i < 80 → 0 ≤ primes80.getD i 0 ∧ primes80.getD i 0 ≤ 409 := by decide +kernel

theorem overTo_at (k : IntKind) (cs : Array Value) (off : Nat) (vs : List Int) (i : Nat) : ∀ n, n ≤ i → (overTo k cs off vs n)[off + i]? = cs[off + i]?
  | 0, _ => rfl
  | n + 1, h => by
    rw [overTo, Array.getElem?_setIfInBounds_ne (by omega), overTo_at k cs off vs i n (by omega)]

set_option maxHeartbeats 2000000 in
set_option maxRecDepth 100000 in
theorem roots64_any (d : Nat) (hd : d = 2 ∨ d = 3) (vs : List Int) (hv : ∀ i, i < vs.length → frac64W (primes80.getD i 0) d = some (vs.getD i 0)) (hn : vs.length ≤ 80)
    (cs : Array Value) (t : TypeId) (g off c : Nat) (w : World) (hg : w.heap[g]? = some (.cells cs t (0, 0))) (hc : ∀ i, i < vs.length → ∃ x, cs[off + i]? = some (.int .u64 x)) :
    Calls Tryd.prog 69 #[.slice (some ⟨g, off, none⟩) vs.length c, .int .i64 d, .func (.func 70) #[] #[]] w (RootsPost .u64 t cs off vs g w) := by
  have HN := hid hn
  have HV := hid hv
  have HC := hid hc
  have HG := hid hg
  have hgl : g < w.heap.size := (Array.getElem?_eq_some_iff.1 hg).1
  clear hv hc hg
  obtain ⟨hz80, _⟩ := zero_of_info zero80p
  have HZ80 := hid (show (Array.replicate 80 (Value.int .u16 0)).size = (wordsOf .u16 primes80).size by kernel_rfl)
  have HK1 := hid (show (wordsOf .u16 primes80).all (·.oneCell') = true by kernel_rfl)
  have HS80 := hid size80p
  have HKG := hid (show ∀ t, t < 80 → (wordsOf .u16 primes80)[t]? = some (.int .u16 (primes80.getD t 0)) from fun t h => wordsOf_get _ _ t h)
  generalize Array.replicate 80 (Value.int .u16 0) = Z80 at hz80 HZ80
  obtain ⟨m, hm⟩ : ∃ m, m = vs.length := ⟨_, rfl⟩
  rw [← hm]
  have HM := hid hm
  have hm80 : m ≤ 80 := by omega
  clear hm hn
  go_enter Tryd.func69, Tryd.ntmps69
  go_wp2_with fail
  refine (primes_any w).mono ?_
  rintro e w1 ⟨rfl, hk1⟩
  generalize wordsOf .u16 primes80 = K at *
  go_wp2_with (refine wpList_store_row rfl _ _ _ rfl w1.heap.size K rfl rfl _ Z80 (heap_alloc_last _ _) HS80.out HZ80.out HK1.out ?_)
  rw [World.setRow_alloc_new]
  obtain ⟨w2, hw2⟩ : ∃ w2, w2 = w1.alloc (Obj.cells K 103) := ⟨_, rfl⟩
  rw [← hw2]
  obtain ⟨gp, hgp⟩ : ∃ gp, gp = w1.heap.size := ⟨_, rfl⟩
  rw [← hgp]
  have hgp2 : w2.heap[gp]? = some (.cells K 103 (0, 0)) := by rw [hw2, hgp]; exact heap_alloc_last _ _
  have hg2 : w2.heap[g]? = some (.cells (overTo .u64 cs off vs 0) t (0, 0)) := by
    rw [hw2, Below.heap_alloc _ _ _ (by have := hk1.size; omega), hk1.block g hgl (fun h => h)]; exact HG.out
  have kp2 : Keeps (fun _ => False) w w2 := by rw [hw2]; exact hk1.alloc _
  have hpl : gp < w2.heap.size := (Array.getElem?_eq_some_iff.1 hgp2).1
  have hne : gp ≠ g := by rw [hgp]; have := hk1.size; omega
  have HGP := hid hgp2
  clear hw2 hgp hgp2 hk1
  go_wp2_with fail
  go_loopw [11] (fun i wr => RootsRel .u64 t cs off vs g w2 i wr) (fun i _ => m - (intOf i).toNat)
  case atStart => exact ⟨0, rfl, by omega, hg2, Keeps.refl _ _⟩
  case round =>
    clear hg2
    obtain ⟨n, rfl, hn, hgr, hkr⟩ := hrel
    have hnm : n ≤ m := by have := HM.out; omega
    clear hn
    by_cases hlt : n < m
    · have hlt' : (n : Int) < m := by omega
      have hlt80 : (n : Int) < 80 := by omega
      obtain ⟨p, hp⟩ : ∃ p, p = primes80.getD n 0 := ⟨_, rfl⟩
      have hb := primes80_bound n (by omega)
      rw [← hp] at hb
      obtain ⟨hb0, hb1⟩ := hb
      obtain ⟨r, hr⟩ : ∃ r, r = vs.getD n 0 := ⟨_, rfl⟩
      have hfr := HV.out n (by have := HM.out; omega)
      rw [← hp, ← hr] at hfr
      have HF := hid (fun W => frac64_any p d r W hd hfr)
      have cp : wr.cell? ⟨gp, n, none⟩ = some (.int .u16 p) := by
        rw [cell_of_row wr gp n _ _ _ ((hkr.block gp hpl hne).trans HGP.out), HKG.out n (by omega), hp]
      obtain ⟨x, hx⟩ := HC.out n (by have := HM.out; omega)
      have cw : wr.cell? ⟨g, off + n, none⟩ = some (.int .u64 x) := by
        rw [cell_of_row wr g (off + n) _ _ _ hgr, overTo_at _ _ _ _ _ _ (Nat.le_refl _), hx]
      have fw : wr.frozen? ⟨g, off + n, none⟩ = false := frozen_of_row wr g (off + n) _ _ hgr
      have HP := hid hp; have HR := hid hr
      clear hp hr hfr hx
      go_wp2_with fail
      refine (HF.out wr).mono ?_
      rintro e w3 ⟨rfl, hk3⟩
      have hgr3 : w3.heap[g]? = some (.cells (overTo .u64 cs off vs n) t (0, 0)) := by
        rw [hk3.block g (Array.getElem?_eq_some_iff.1 hgr).1 (fun h => h)]; exact hgr
      have cw3 : w3.cell? ⟨g, off + n, none⟩ = some (.int .u64 x) := by
        rw [hk3.cell (p := ⟨g, off + n, none⟩) (Array.getElem?_eq_some_iff.1 hgr).1 (fun h => h)]; exact cw
      have fw3 : w3.frozen? ⟨g, off + n, none⟩ = false := frozen_of_row w3 g (off + n) _ _ hgr3
      have hk4 : Keeps (· = g) w2 w3 := hkr.trans (hk3.mono (fun _ _ h => h.elim))
      clear cw fw cp hk3
      go_wp2_with fail
      go_roundw
      case rel =>
        refine ⟨n + 1, rfl, by have := HM.out; omega, ?_, Keeps.setCell hk4 _ _ (fun _ => rfl)⟩
        rw [heap_setCell_same w3 g (off + n) _ _ _ hgr3, overTo, HR.out]
      case measure => simp [intOf]; omega
    · have heq : n = m := by omega
      subst heq
      go_wp2_with fail
      refine bodyPost_ret (v := .tuple #[]) (by simp [results, Tryd.results69, go_sem]) rfl ?_
      exact ⟨rfl, by rw [← HM.out]; exact hgr, (kp2.mono (fun _ _ h => h.elim)).trans hkr⟩
end Go.Proofs.YtdeigmjbcbjgeaaDoor
/-
  The program's two kinds, made.
-/
namespace Go.Proofs.YtdeigmjbcbjgeaaDoor
open Go.RowKit

theorem of_map (f : Int → Option Int) (ps vs : List Int) (m : Nat) (h : (ps.take m).map f = vs.map some) (hm : m ≤ ps.length) : ∀ i, i < vs.length → f (ps.getD i 0) = some (vs.getD i 0) := by
  intro i hi
  have h1 := congrArg (fun l => l[i]?) h
  have hl := congrArg List.length h
  simp only [List.length_map, List.length_take] at hl
  have hi' : i < ps.length := by omega
  simp only [List.getElem?_map, List.getElem?_take] at h1
  rw [if_pos (by omega), List.getElem?_eq_getElem hi', List.getElem?_eq_getElem hi] at h1
  simpa [List.getD_eq_getElem?_getD, List.getElem?_eq_getElem hi', List.getElem?_eq_getElem hi] using h1

def isU (k : IntKind) : Option Value → Bool
  | some (.int k' _) => k' == k
  | _ => false
theorem isU_spec {k : IntKind} {o : Option Value} (h : isU k o = true) : ∃ x, o = some (.int k x) := by
  unfold isU at h
  split at h
  · rw [beq_iff_eq] at h; subst h; exact ⟨_, rfl⟩
  · cases h


def fn (f : Nat) : Value := .func (.func f) #[] #[]

def start64 : List Int := refIs
def keys64 : List Int := refKs
def kind64Of (s k : List Int) : Array Value := #[.int .i64 8, .int .i64 80] ++ wordsOf .u64 s ++ wordsOf .u64 k ++ #[fn 64, fn 66, fn 67, fn 68]
def kind64 : Array Value := kind64Of start64 (keys64)
def kind64_0 : Array Value := kind64Of (List.replicate 8 0) (List.replicate 80 0)
def kind64_1 : Array Value := kind64Of start64 (List.replicate 80 0)
theorem kind64_over1 : overTo .u64 kind64_0 2 start64 8 = kind64_1 := by kernel_rfl
theorem kind64_over2 : overTo .u64 kind64_1 10 keys64 80 = kind64 := by kernel_rfl
theorem kind64_at0 : ∀ i, i < 8 → ∃ x, kind64_0[2 + i]? = some (.int .u64 x) := fun i hi => isU_spec ((show ∀ i : Fin 8, isU .u64 kind64_0[2 + i.val]? = true by decide +kernel) ⟨i, hi⟩)
theorem kind64_at1 : ∀ i, i < 80 → ∃ x, kind64_1[10 + i]? = some (.int .u64 x) := fun i hi => isU_spec ((show ∀ i : Fin 80, isU .u64 kind64_1[10 + i.val]? = true by decide +kernel) ⟨i, hi⟩)
theorem start64_fracs : ∀ i, i < start64.length → frac64W (primes80.getD i 0) 2 = some (start64.getD i 0) :=
  of_map (frac64W · 2) primes80 start64 8 (fracs64_squares) (by decide)
theorem keys64_fracs : ∀ i, i < keys64.length → frac64W (primes80.getD i 0) 3 = some (keys64.getD i 0) :=
  of_map (frac64W · 3) primes80 keys64 80 (by rw [show primes80.take 80 = primes80 from rfl]; exact fracs64_cubes) (by decide)
theorem roots64_start (g c : Nat) (w : World) (hg : w.heap[g]? = some (.cells kind64_0 82 (0, 0))) :
    Calls Tryd.prog 69 #[.slice (some ⟨g, 2, none⟩) 8 c, .int .i64 2, .func (.func 70) #[] #[]] w (fun e w' =>
      e = .returned (.tuple #[]) ∧ w'.heap[g]? = some (.cells kind64_1 82 (0, 0)) ∧ Keeps (· = g) w w') := by
  have h := roots64_any 2 (.inl rfl) start64 start64_fracs (by decide) kind64_0 82 g 2 c w hg (fun i hi => kind64_at0 i hi)
  unfold RootsPost at h
  rw [show start64.length = 8 from rfl, kind64_over1] at h
  exact h
theorem roots64_keys (g c : Nat) (w : World) (hg : w.heap[g]? = some (.cells kind64_1 82 (0, 0))) :
    Calls Tryd.prog 69 #[.slice (some ⟨g, 10, none⟩) 80 c, .int .i64 3, .func (.func 70) #[] #[]] w (fun e w' =>
      e = .returned (.tuple #[]) ∧ w'.heap[g]? = some (.cells kind64 82 (0, 0)) ∧ Keeps (· = g) w w') := by
  have h := roots64_any 3 (.inr rfl) keys64 keys64_fracs (by decide) kind64_1 82 g 10 c w hg (fun i hi => kind64_at1 i hi)
  unfold RootsPost at h
  rw [show keys64.length = 80 from rfl, kind64_over2] at h
  exact h
theorem kind64_size : kind64.size = 94 := by kernel_rfl
theorem kind64_c0 : kind64[0]? = some (.int .i64 8) := by kernel_rfl
theorem kind64_c1 : kind64[1]? = some (.int .i64 80) := by kernel_rfl
theorem kind64_m1 : kind64[90]? = some (.func (.func 64) #[] #[]) := by kernel_rfl
theorem kind64_m0 : kind64[91]? = some (.func (.func 66) #[] #[]) := by kernel_rfl
theorem kind64_t1 : kind64[92]? = some (.func (.func 67) #[] #[]) := by kernel_rfl
theorem kind64_t0 : kind64[93]? = some (.func (.func 68) #[] #[]) := by kernel_rfl
theorem kind64_key : ∀ t, t < 80 → kind64[10 + t]? = some (.int .u64 (keys64.getD t 0)) := fun t h => by
  have h1 : kind64 = ((#[.int .i64 8, .int .i64 80] : Array Value) ++ wordsOf .u64 start64) ++ (wordsOf .u64 keys64 ++ (wordsOf .u64 (List.replicate 0 0) ++ #[fn 64, fn 66, fn 67, fn 68])) := by kernel_rfl
  have h2 : ((#[.int .i64 8, .int .i64 80] : Array Value) ++ wordsOf .u64 start64).size = 10 := by kernel_rfl
  rw [h1, Array.getElem?_append_right (by omega), h2, Nat.add_sub_cancel_left, Array.getElem?_append_left (by rw [wordsOf_size]; exact h), wordsOf_get _ _ _ h]
end Go.Proofs.YtdeigmjbcbjgeaaDoor
/-
  The program's two kinds, walked.
-/
namespace Go.Proofs.YtdeigmjbcbjgeaaDoor
open Go.RowKit

def kind64_z : Array Value := #[.int .i64 0, .int .i64 0] ++ wordsOf .u64 (List.replicate 8 0) ++ wordsOf .u64 (List.replicate 80 0) ++ #[.nilFunc, .nilFunc, .nilFunc, .nilFunc]
theorem zeroKind64 : (Tryd.prog.info? 82).map (fun i => (i.zero, i.size)) = some (some (.agg kind64_z), 94) := by kernel_rfl

set_option maxHeartbeats 2000000 in
set_option maxRecDepth 100000 in
theorem kind512_any (w : World) :
    Calls Tryd.prog 50 #[] w fun e w' => e = .returned (.agg kind64) ∧ Keeps (fun _ => False) w w' := by
  obtain ⟨hz, hs⟩ := zero_of_info zeroKind64
  have HZZ := hid (show kind64_z.size = 94 by kernel_rfl)
  have H0Z := hid (show kind64_0.size = 94 by kernel_rfl)
  have H0O := hid (show kind64_0.all (·.oneCell') = true by kernel_rfl)
  have HKO := hid (show kind64.all (·.oneCell') = true by kernel_rfl)
  have HKZ := hid kind64_size
  have HSZ := hid (show (Tryd.prog.info? 82).map (·.size) = some 94 by kernel_rfl)
  generalize hZ : kind64_z = Z at hz HZZ
  clear hZ hs
  go_enter Tryd.func50, Tryd.ntmps50
  go_wp2_with (first
    | (refine wpList_build_to rfl _ _ rfl kind64_0 (by kernel_rfl) ?_)
    | (refine wpList_store_row rfl _ _ _ rfl (w.heap.size + 1) kind64_0 rfl rfl _ Z (heap_alloc2_new _ _ _) (by rw [HSZ.out, H0Z.out]) (by rw [HZZ.out, H0Z.out]) H0O.out ?_))
  obtain ⟨g, hg⟩ : ∃ g, g = w.heap.size + 1 := ⟨_, rfl⟩
  obtain ⟨w2, hw2⟩ : ∃ w2, w2 = ((w.alloc (Obj.cells Z 82)).alloc (Obj.cells Z 82)).setRow g kind64_0 := ⟨_, rfl⟩
  rw [← hg, ← hw2]
  have hg2 : w2.heap[g]? = some (.cells kind64_0 82 (0, 0)) := by rw [hw2, hg]; exact setRow_heap _ _ _ _ _ _ (heap_alloc2_new w _ _)
  have hr2 : w2.heap[w.heap.size]? = some (.cells Z 82 (0, 0)) := by
    rw [hw2, (Keeps.setRow (S := (· = g)) (Keeps.refl _ ((w.alloc (Obj.cells Z 82)).alloc (Obj.cells Z 82))) g kind64_0 (fun _ => rfl)).block w.heap.size (by rw [World.size_alloc, World.size_alloc]; omega) (by omega)]
    exact heap_alloc2_old w _ _
  have kp2 : Keeps (fun _ => False) w w2 := by rw [hw2]; exact Keeps.setRow (((Keeps.refl _ w).alloc _).alloc _) _ _ (fun hi => absurd hi (by omega))
  have hgl : g < w2.heap.size := (Array.getElem?_eq_some_iff.1 hg2).1
  have hrl : w.heap.size < w2.heap.size := (Array.getElem?_eq_some_iff.1 hr2).1
  have hne : w.heap.size ≠ g := by omega
  have hle : w.heap.size ≤ g := by omega
  clear hw2 hg
  refine (roots64_start g 8 w2 hg2).mono ?_
  rintro e w3 ⟨rfl, hg3, hk3⟩
  have c1 : w3.cell? ⟨g, 1, none⟩ = some (.int .i64 80) := by rw [cell_of_row w3 g 1 _ _ _ hg3]; kernel_rfl
  have hr3 := (hk3.block w.heap.size hrl hne).trans hr2
  have hk3' := kp2.step hk3 (fun i hi e => by omega)
  clear hg2 hr2 hk3
  go_wp2_with fail
  refine (roots64_keys g 80 w3 hg3).mono ?_
  rintro e w4 ⟨rfl, hg4, hk4⟩
  have hr4 := (hk4.block w.heap.size (by have := hk3'.size; have := (Array.getElem?_eq_some_iff.1 hr3).1; omega) hne).trans hr3
  have hk4' := hk3'.step hk4 (fun i hi e => by omega)
  clear hg3 hr3 hk4 c1
  obtain ⟨C, hC⟩ : ∃ C, C = kind64 := ⟨_, rfl⟩
  rw [← hC] at hg4 HKO HKZ
  have HC := hid hC
  clear hC
  go_wp2_with (first
    | (refine wpList_load_row rfl _ _ rfl g rfl _ _ (0, 0) _ hg4 Tryd.underlying82 rfl (by rw [HSZ.out, HKZ.out]) ?_)
    | (refine wpList_store_row rfl _ _ _ rfl w.heap.size C rfl rfl _ Z hr4 (by rw [HSZ.out, HKZ.out]) (by rw [HZZ.out, HKZ.out]) HKO.out ?_))
  refine bodyPost_ret (v := .agg C) (results_cell_row rfl _ _ w.heap.size 82 _ (0, 0) _ rfl (setRow_heap _ _ _ _ _ _ hr4) Tryd.underlying82 rfl (by rw [HSZ.out, HKZ.out])) rfl ?_
  exact ⟨by rw [HC.out], Keeps.setRow hk4' _ _ (fun hi => absurd hi (by omega))⟩
end Go.Proofs.YtdeigmjbcbjgeaaDoor
