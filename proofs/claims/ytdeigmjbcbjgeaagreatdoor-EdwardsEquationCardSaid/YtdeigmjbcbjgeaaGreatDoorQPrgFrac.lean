/-
  The program's powers of words, and the 64 bits of a root: walked.
-/
import Derived.Test.YtdeigmjbcbjgeaaGreatDoorQPrgConst
import Derived.Test.YtdeigmjbcbjgeaaGreatDoorQTail
import Derived.Test.YtdeigmjbcbjgeaaGreatDoorQRefBlk
namespace Go.Proofs.YtdeigmjbcbjgeaaGreatDoor
open Go.RowKit

theorem timesL_len (whole f : Int) (z : List Int) : (timesL whole f z).length = 4 := timesTo_len whole f z 4
theorem powerL_len (whole f : Int) : ∀ n, (powerL whole f n).length = 4
  | 0 => rfl
  | _ + 1 => timesL_len _ _ _
theorem four_of_len (l : List Int) (h : l.length = 4) : ∃ a b c d, l = [a, b, c, d] := by
  rcases l with _ | ⟨a, _ | ⟨b, _ | ⟨c, _ | ⟨d, _ | ⟨_, _⟩⟩⟩⟩⟩ <;> simp at h
  exact ⟨a, b, c, d, rfl⟩
def PowerRel (whole f : Int) (d g : Nat) (wp : World) (i : Value) (wr : World) : Prop :=
  ∃ n : Nat, i = .int .i64 n ∧ n ≤ d ∧ wr.heap[g]? = some (.cells (wordsOf .u64 (powerL whole f n)) 53 (0, 0)) ∧ Keeps (· = g) wp wr

set_option maxHeartbeats 2000000 in
set_option maxRecDepth 100000 in
theorem power_any (whole f : Int) (d : Nat) (w : World) (hd : d ≤ 3) :
    Calls Tryz.prog 136 #[.int .u64 whole, .int .u64 f, .int .i64 d] w fun e w' =>
      e = .returned (.agg (wordsOf .u64 (powerL whole f d))) ∧ Keeps (fun _ => False) w w' := by
  go_enter Tryz.func136, Tryz.ntmps136
  go_wp2
  obtain ⟨w2, hw2⟩ : ∃ w2, w2 = (w.alloc (Obj.cells #[.int .u64 0, .int .u64 0, .int .u64 0, .int .u64 0] 53)).alloc (Obj.cells #[.int .u64 1, .int .u64 0, .int .u64 0, .int .u64 0] 53) := ⟨_, rfl⟩
  rw [← hw2]
  have hgz : w2.heap[w.heap.size + 1]? = some (.cells (wordsOf .u64 (powerL whole f 0)) 53 (0, 0)) := by
    rw [hw2, heap_alloc2_new]; rfl
  have hgr : w2.heap[w.heap.size]? = some (.cells #[.int .u64 0, .int .u64 0, .int .u64 0, .int .u64 0] 53 (0, 0)) := by
    rw [hw2]; exact heap_alloc2_old w _ _
  have kp2 : Keeps (fun _ => False) w w2 := by rw [hw2]; exact ((Keeps.refl _ w).alloc _).alloc _
  have hs2 : w2.heap.size = w.heap.size + 2 := by rw [hw2]; simp
  obtain ⟨g, hg⟩ : ∃ g, g = w.heap.size + 1 := ⟨_, rfl⟩
  obtain ⟨g0, hg0⟩ : ∃ g0, g0 = w.heap.size := ⟨_, rfl⟩
  rw [← hg] at hgz ⊢
  rw [← hg0] at hgr ⊢
  have HG := hid hg
  have HG0 := hid hg0
  have HGR := hid hgr
  have HS2 := hid hs2
  clear hw2 hg hg0 hgr hs2
  go_loopw [10] (fun i wr => PowerRel whole f d g w2 i wr) (fun i _ => d - (intOf i).toNat)
  case atStart => exact ⟨0, rfl, by omega, hgz, Keeps.refl _ _⟩
  case round =>
    clear hgz
    obtain ⟨n, rfl, hn, hgz, hkr⟩ := hrel
    obtain ⟨z0, z1, z2, z3, hz⟩ := four_of_len _ (powerL_len whole f n)
    have HZ := hid hz
    rw [hz] at hgz
    have hsz := hkr.size
    clear hz
    by_cases hlt : n < d
    · have hlt' : (n : Int) < d := by omega
      have HT := hid (fun W => times_any whole f z0 z1 z2 z3 W)
      go_wp2_with (refine wpList_load_row rfl _ _ rfl g rfl _ _ (0, 0) _ hgz Tryz.underlying53 rfl (by kernel_rfl) ?_)
      refine (HT.out _).mono ?_
      rintro e w3 ⟨rfl, hk3⟩
      obtain ⟨y0, y1, y2, y3, hy⟩ := four_of_len _ (timesL_len whole f [z0, z1, z2, z3])
      have HY := hid hy
      rw [hy]
      have hg3 : w3.heap[g]? = some (.cells (wordsOf .u64 [z0, z1, z2, z3]) 53 (0, 0)) := by
        rw [hk3.block g (by have := HG.out; have := HS2.out; omega) (fun h => h)]; exact hgz
      have hk4 : Keeps (· = g) w2 w3 := hkr.trans (hk3.mono (fun _ _ h => h.elim))
      clear hy hk3
      go_wp2_with (refine wpList_store_row rfl _ _ _ rfl g _ rfl rfl _ _ hg3 (by kernel_rfl) (by kernel_rfl) (by kernel_rfl) ?_)
      go_roundw
      case rel =>
        refine ⟨n + 1, rfl, by omega, ?_, Keeps.setRow hk4 _ _ (fun _ => rfl)⟩
        rw [setRow_heap _ _ _ _ _ _ hg3, powerL, HZ.out, HY.out]
      case measure => simp [intOf]; omega
    · have heq : n = d := by omega
      subst heq
      have hgr : wr.heap[g0]? = some (.cells #[.int .u64 0, .int .u64 0, .int .u64 0, .int .u64 0] 53 (0, 0)) := by
        rw [hkr.block g0 (by have := HS2.out; have := HG0.out; omega) (by have := HG.out; have := HG0.out; omega)]; exact HGR.out
      have kf : Keeps (fun _ => False) w wr := kp2.step hkr (fun i hi e => by have := HG.out; omega)
      have hle : w.heap.size ≤ g0 := by have := HG0.out; omega
      go_wp2_with (first
        | (refine wpList_load_row rfl _ _ rfl g rfl _ _ (0, 0) _ hgz Tryz.underlying53 rfl (by kernel_rfl) ?_)
        | (refine wpList_store_row rfl _ _ _ rfl g0 _ rfl rfl _ _ hgr (by kernel_rfl) (by kernel_rfl) (by kernel_rfl) ?_))
      refine bodyPost_ret (v := .agg (wordsOf .u64 [z0, z1, z2, z3])) (results_cell_row rfl _ _ g0 53 (wordsOf .u64 [z0, z1, z2, z3]) (0, 0) _ rfl (setRow_heap _ _ _ _ _ _ hgr) Tryz.underlying53 rfl (by kernel_rfl)) rfl ?_
      exact ⟨by rw [HZ.out], Keeps.setRow kf _ _ (fun hi => absurd hi (by omega))⟩

theorem negFloat_run (P : Program) (b : Nat) (w : World) : (Op.unary .neg (.float .f64 b)).run P w = .ok (.float .f64 (Op.negFloat .f64 b)) w := rfl

set_option maxHeartbeats 2000000 in
set_option maxRecDepth 100000 in
theorem frac64_2 (p : Int) (r : Int) (w : World) (h : frac64W p 2 = some r) :
    Calls Tryz.prog 130 #[.int .u64 p, .int .i64 2] w fun e w' => e = .returned (.int .u64 r) ∧ Keeps (fun _ => False) w w' := by
  simp only [frac64W, Option.bind_eq_some_iff] at h
  obtain ⟨e, he, i, hi, dd, hdd, m, hm, f, hf, wh, hwh, q, hq, ex, hex, m1, hm1, sl, hsl, q2, hq2, fl, hfl, n, hn, hr⟩ := h
  injection hr with hr
  have HR := hid (root_any p 2 e w (.inl rfl) he)
  have HM := hid (Modf_any e i dd w hi hdd)
  generalize copyW dd e = c at *
  have h1 := fun w => run_float_arith (P := Tryz.prog) w .mul 136 .f64 c 4895412794951729152 m hm
  have h2 := fun w => run_convert_float_int (P := Tryz.prog) w 136 52 .f64 .u64 m f (by kernel_rfl) Tryz.underlying52 hf
  have h3 := fun w => run_convert_float_int (P := Tryz.prog) w 136 52 .f64 .u64 i wh (by kernel_rfl) Tryz.underlying52 hwh
  have HP := hid (fun W => power_any wh f 2 W (by omega))
  obtain ⟨z0, z1, z2, z3, hz⟩ := four_of_len _ (powerL_len wh f 2)
  rw [hz] at HP hq hex
  simp only [Nat.sub_self, Nat.reduceSub, List.getD_cons_zero, List.getD_cons_succ, IntWalk.i64_left] at hq hex
  have h4 := fun w => run_float_arith (P := Tryz.prog) w .quo 136 .f64 (floatOfInt .f64 z0) 4895412794951729152 q hq
  have h5 := fun w => run_float_arith (P := Tryz.prog) w .add 136 .f64 (floatOfInt .f64 (wrap64 z1)) q ex hex
  have h6 := fun w => run_float_arith (P := Tryz.prog) w .mul 136 .f64 (floatOfInt .f64 2) (floatOfInt .f64 p) m1 hm1
  have h7 := fun w => run_float_arith (P := Tryz.prog) w .quo 136 .f64 m1 e sl hsl
  have h8 := fun w => run_float_arith (P := Tryz.prog) w .quo 136 .f64 (Op.negFloat .f64 ex) sl q2 hq2
  have h9 := negFloat_run Tryz.prog
  have HF := hid (fun w => Floor_any q2 fl w hfl)
  have h10 := fun w => run_convert_float_int (P := Tryz.prog) w 136 2 .f64 .i64 fl n (by kernel_rfl) Tryz.underlying2 hn
  have HRR := hid hr
  clear he hi hdd hm hf hwh hz hq hex hm1 hsl hq2 hfl hn hr
  go_enter Tryz.func130, Tryz.ntmps130
  go_wp2_with fail
  refine (HR.out).mono ?_
  rintro e' w' ⟨rfl, rfl⟩
  go_wp2_with fail
  refine (HM.out).mono ?_
  rintro e' w' ⟨rfl, rfl⟩
  go_wp2_with fail
  refine (HP.out w).mono ?_
  rintro e' w1 ⟨rfl, hk1⟩
  rw [show wordsOf .u64 [z0, z1, z2, z3] = #[.int .u64 z0, .int .u64 z1, .int .u64 z2, .int .u64 z3] from rfl]
  go_wp2_with fail
  refine wp_region_tail 13 (by kernel_rfl) (by kernel_rfl) _ _ rfl rfl ?_
  simp only [List.take_succ_cons, List.take_zero, List.drop_succ_cons, List.drop_zero]
  repeat (first | go_big_quiet_skip | (go_big_quiet_want; go_big_quiet_op; first | go_big_quiet_on | (apply Exists.intro; refine ⟨?_, ?_⟩; (fail); go_big_quiet_on)))
  refine wpQuiet_nil ?_
  go_wp2_with fail
  refine (HF.out _).mono ?_
  rintro e' w' ⟨rfl, rfl⟩
  go_wp2_with fail
  go_ret
  exact ⟨by simp only [HRR.out]; rfl, (hk1.alloc _).drew⟩
set_option maxHeartbeats 2000000 in
set_option maxRecDepth 100000 in
theorem frac64_3 (p : Int) (r : Int) (w : World) (h : frac64W p 3 = some r) :
    Calls Tryz.prog 130 #[.int .u64 p, .int .i64 3] w fun e w' => e = .returned (.int .u64 r) ∧ Keeps (fun _ => False) w w' := by
  simp only [frac64W, Option.bind_eq_some_iff] at h
  obtain ⟨e, he, i, hi, dd, hdd, m, hm, f, hf, wh, hwh, q, hq, ex, hex, m1, hm1, sl, hsl, q2, hq2, fl, hfl, n, hn, hr⟩ := h
  injection hr with hr
  have HR := hid (root_any p 3 e w (.inr rfl) he)
  have HM := hid (Modf_any e i dd w hi hdd)
  generalize copyW dd e = c at *
  have h1 := fun w => run_float_arith (P := Tryz.prog) w .mul 136 .f64 c 4895412794951729152 m hm
  have h2 := fun w => run_convert_float_int (P := Tryz.prog) w 136 52 .f64 .u64 m f (by kernel_rfl) Tryz.underlying52 hf
  have h3 := fun w => run_convert_float_int (P := Tryz.prog) w 136 52 .f64 .u64 i wh (by kernel_rfl) Tryz.underlying52 hwh
  have HP := hid (fun W => power_any wh f 3 W (by omega))
  obtain ⟨z0, z1, z2, z3, hz⟩ := four_of_len _ (powerL_len wh f 3)
  rw [hz] at HP hq hex
  simp only [Nat.reduceSub, List.getD_cons_zero, List.getD_cons_succ, IntWalk.i64_left] at hq hex
  have h4 := fun w => run_float_arith (P := Tryz.prog) w .quo 136 .f64 (floatOfInt .f64 z1) 4895412794951729152 q hq
  have h5 := fun w => run_float_arith (P := Tryz.prog) w .add 136 .f64 (floatOfInt .f64 (wrap64 z2)) q ex hex
  have h6 := fun w => run_float_arith (P := Tryz.prog) w .mul 136 .f64 (floatOfInt .f64 3) (floatOfInt .f64 p) m1 hm1
  have h7 := fun w => run_float_arith (P := Tryz.prog) w .quo 136 .f64 m1 e sl hsl
  have h8 := fun w => run_float_arith (P := Tryz.prog) w .quo 136 .f64 (Op.negFloat .f64 ex) sl q2 hq2
  have h9 := negFloat_run Tryz.prog
  have HF := hid (fun w => Floor_any q2 fl w hfl)
  have h10 := fun w => run_convert_float_int (P := Tryz.prog) w 136 2 .f64 .i64 fl n (by kernel_rfl) Tryz.underlying2 hn
  have HRR := hid hr
  clear he hi hdd hm hf hwh hz hq hex hm1 hsl hq2 hfl hn hr
  go_enter Tryz.func130, Tryz.ntmps130
  go_wp2_with fail
  refine (HR.out).mono ?_
  rintro e' w' ⟨rfl, rfl⟩
  go_wp2_with fail
  refine (HM.out).mono ?_
  rintro e' w' ⟨rfl, rfl⟩
  go_wp2_with fail
  refine (HP.out w).mono ?_
  rintro e' w1 ⟨rfl, hk1⟩
  rw [show wordsOf .u64 [z0, z1, z2, z3] = #[.int .u64 z0, .int .u64 z1, .int .u64 z2, .int .u64 z3] from rfl]
  go_wp2_with fail
  refine wp_region_tail 13 (by kernel_rfl) (by kernel_rfl) _ _ rfl rfl ?_
  simp only [List.take_succ_cons, List.take_zero, List.drop_succ_cons, List.drop_zero]
  repeat (first | go_big_quiet_skip | (go_big_quiet_want; go_big_quiet_op; first | go_big_quiet_on | (apply Exists.intro; refine ⟨?_, ?_⟩; (fail); go_big_quiet_on)))
  refine wpQuiet_nil ?_
  go_wp2_with fail
  refine (HF.out _).mono ?_
  rintro e' w' ⟨rfl, rfl⟩
  go_wp2_with fail
  go_ret
  exact ⟨by simp only [HRR.out]; rfl, (hk1.alloc _).drew⟩
theorem frac64_any (p : Int) (d : Nat) (r : Int) (w : World) (hd : d = 2 ∨ d = 3) (h : frac64W p d = some r) :
    Calls Tryz.prog 130 #[.int .u64 p, .int .i64 d] w fun e w' => e = .returned (.int .u64 r) ∧ Keeps (fun _ => False) w w' := by
  rcases hd with rfl | rfl
  · exact frac64_2 p r w h
  · exact frac64_3 p r w h
end Go.Proofs.YtdeigmjbcbjgeaaGreatDoor
/-
  The program's primes, and the constants of its two kinds: walked.
-/
namespace Go.Proofs.YtdeigmjbcbjgeaaGreatDoor
open Go.RowKit

theorem zero80p : (Tryz.prog.info? 134).map (fun i => (i.zero, i.size)) = some (some (.agg (Array.replicate 80 (.int .u16 0))), 80) := by kernel_rfl

set_option maxHeartbeats 1000000 in
set_option maxRecDepth 100000 in
theorem primes_any (w : World) :
    Calls Tryz.prog 133 #[] w fun e w' => e = .returned (.agg (wordsOf .u16 primes80)) ∧ Keeps (fun _ => False) w w' := by
  obtain ⟨hz, hs⟩ := zero_of_info zero80p
  generalize hZ : Array.replicate 80 (Value.int .u16 0) = Z at hz
  have HZ := hid hZ.symm
  clear hZ
  go_enter Tryz.func133, Tryz.ntmps133
  go_wp2_with (first
    | (refine wpList_build_to rfl _ _ rfl (wordsOf .u16 primes80) (by kernel_rfl) ?_)
    | (refine wpList_store_row rfl _ _ _ rfl w.heap.size (wordsOf .u16 primes80) rfl rfl _ Z (heap_alloc_last _ _) (by kernel_rfl) (by rw [HZ.out]; kernel_rfl) (by kernel_rfl) ?_))
  rw [World.setRow_alloc_new]
  refine bodyPost_ret (v := .agg (wordsOf .u16 primes80)) (results_cell_row rfl _ _ w.heap.size 134 (wordsOf .u16 primes80) (0, 0) _ rfl (heap_alloc_last _ _) Tryz.underlying134 rfl (by kernel_rfl)) rfl ?_
  exact ⟨rfl, (Keeps.refl _ _).alloc _⟩

/-- The cells cs, the first i of vs laid over those from off on. -/
def overTo (k : IntKind) (cs : Array Value) (off : Nat) (vs : List Int) : Nat → Array Value
  | 0 => cs
  | i + 1 => (overTo k cs off vs i).setIfInBounds (off + i) (.int k (vs.getD i 0))
def RootsRel (k : IntKind) (t : TypeId) (cs : Array Value) (off : Nat) (vs : List Int) (g : Nat) (wp : World) (i : Value) (wr : World) : Prop :=
  ∃ n : Nat, i = .int .i64 n ∧ n ≤ vs.length ∧ wr.heap[g]? = some (.cells (overTo k cs off vs n) t (0, 0)) ∧ Keeps (· = g) wp wr
def RootsPost (k : IntKind) (t : TypeId) (cs : Array Value) (off : Nat) (vs : List Int) (g : Nat) (w : World) (e : Ending) (w' : World) : Prop :=
  e = .returned (.tuple #[]) ∧ w'.heap[g]? = some (.cells (overTo k cs off vs vs.length) t (0, 0)) ∧ Keeps (· = g) w w'
theorem size80p : (Tryz.prog.info? 134).map (·.size) = some (wordsOf .u16 primes80).size := by kernel_rfl
theorem primes80_bound : ∀ i, i < 80 → 0 ≤ primes80.getD i 0 ∧ primes80.getD i 0 ≤ 409 := by decide +kernel

theorem overTo_at (k : IntKind) (cs : Array Value) (off : Nat) (vs : List Int) (i : Nat) : ∀ n, n ≤ i → (overTo k cs off vs n)[off + i]? = cs[off + i]?
  | 0, _ => rfl
  | n + 1, h => by
    rw [overTo, Array.getElem?_setIfInBounds_ne (by omega), overTo_at k cs off vs i n (by omega)]

set_option maxHeartbeats 2000000 in
set_option maxRecDepth 100000 in
theorem roots64_any (d : Nat) (hd : d = 2 ∨ d = 3) (vs : List Int) (hv : ∀ i, i < vs.length → frac64W (primes80.getD i 0) d = some (vs.getD i 0)) (hn : vs.length ≤ 80)
    (cs : Array Value) (t : TypeId) (g off c : Nat) (w : World) (hg : w.heap[g]? = some (.cells cs t (0, 0))) (hc : ∀ i, i < vs.length → ∃ x, cs[off + i]? = some (.int .u64 x)) :
    Calls Tryz.prog 129 #[.slice (some ⟨g, off, none⟩) vs.length c, .int .i64 d, .func (.func 130) #[] #[]] w (RootsPost .u64 t cs off vs g w) := by
  have HN := hid hn
  have HV := hid hv
  have HC := hid hc
  have HG := hid hg
  have hgl : g < w.heap.size := (Array.getElem?_eq_some_iff.1 hg).1
  clear hv hc hg
  obtain ⟨hz80, _⟩ := zero_of_info zero80p
  have HZ80 := hid (show (Array.replicate 80 (Value.int .u16 0)).size = (wordsOf .u16 primes80).size by kernel_rfl)
  have HK1 := hid (show (wordsOf .u16 primes80).all (·.oneCell') = true by kernel_rfl)
  have HS80 := hid size80p
  have HKG := hid (show ∀ t, t < 80 → (wordsOf .u16 primes80)[t]? = some (.int .u16 (primes80.getD t 0)) from fun t h => wordsOf_get _ _ t h)
  generalize Array.replicate 80 (Value.int .u16 0) = Z80 at hz80 HZ80
  obtain ⟨m, hm⟩ : ∃ m, m = vs.length := ⟨_, rfl⟩
  rw [← hm]
  have HM := hid hm
  have hm80 : m ≤ 80 := by omega
  clear hm hn
  go_enter Tryz.func129, Tryz.ntmps129
  go_wp2_with fail
  refine (primes_any w).mono ?_
  rintro e w1 ⟨rfl, hk1⟩
  generalize wordsOf .u16 primes80 = K at *
  go_wp2_with (refine wpList_store_row rfl _ _ _ rfl w1.heap.size K rfl rfl _ Z80 (heap_alloc_last _ _) HS80.out HZ80.out HK1.out ?_)
  rw [World.setRow_alloc_new]
  obtain ⟨w2, hw2⟩ : ∃ w2, w2 = w1.alloc (Obj.cells K 134) := ⟨_, rfl⟩
  rw [← hw2]
  obtain ⟨gp, hgp⟩ : ∃ gp, gp = w1.heap.size := ⟨_, rfl⟩
  rw [← hgp]
  have hgp2 : w2.heap[gp]? = some (.cells K 134 (0, 0)) := by rw [hw2, hgp]; exact heap_alloc_last _ _
  have hg2 : w2.heap[g]? = some (.cells (overTo .u64 cs off vs 0) t (0, 0)) := by
    rw [hw2, Below.heap_alloc _ _ _ (by have := hk1.size; omega), hk1.block g hgl (fun h => h)]; exact HG.out
  have kp2 : Keeps (fun _ => False) w w2 := by rw [hw2]; exact hk1.alloc _
  have hpl : gp < w2.heap.size := (Array.getElem?_eq_some_iff.1 hgp2).1
  have hne : gp ≠ g := by rw [hgp]; have := hk1.size; omega
  have HGP := hid hgp2
  clear hw2 hgp hgp2 hk1
  go_wp2_with fail
  go_loopw [11] (fun i wr => RootsRel .u64 t cs off vs g w2 i wr) (fun i _ => m - (intOf i).toNat)
  case atStart => exact ⟨0, rfl, by omega, hg2, Keeps.refl _ _⟩
  case round =>
    clear hg2
    obtain ⟨n, rfl, hn, hgr, hkr⟩ := hrel
    have hnm : n ≤ m := by have := HM.out; omega
    clear hn
    by_cases hlt : n < m
    · have hlt' : (n : Int) < m := by omega
      have hlt80 : (n : Int) < 80 := by omega
      obtain ⟨p, hp⟩ : ∃ p, p = primes80.getD n 0 := ⟨_, rfl⟩
      have hb := primes80_bound n (by omega)
      rw [← hp] at hb
      obtain ⟨hb0, hb1⟩ := hb
      obtain ⟨r, hr⟩ : ∃ r, r = vs.getD n 0 := ⟨_, rfl⟩
      have hfr := HV.out n (by have := HM.out; omega)
      rw [← hp, ← hr] at hfr
      have HF := hid (fun W => frac64_any p d r W hd hfr)
      have cp : wr.cell? ⟨gp, n, none⟩ = some (.int .u16 p) := by
        rw [cell_of_row wr gp n _ _ _ ((hkr.block gp hpl hne).trans HGP.out), HKG.out n (by omega), hp]
      obtain ⟨x, hx⟩ := HC.out n (by have := HM.out; omega)
      have cw : wr.cell? ⟨g, off + n, none⟩ = some (.int .u64 x) := by
        rw [cell_of_row wr g (off + n) _ _ _ hgr, overTo_at _ _ _ _ _ _ (Nat.le_refl _), hx]
      have fw : wr.frozen? ⟨g, off + n, none⟩ = false := frozen_of_row wr g (off + n) _ _ hgr
      have HP := hid hp; have HR := hid hr
      clear hp hr hfr hx
      go_wp2_with fail
      refine (HF.out wr).mono ?_
      rintro e w3 ⟨rfl, hk3⟩
      have hgr3 : w3.heap[g]? = some (.cells (overTo .u64 cs off vs n) t (0, 0)) := by
        rw [hk3.block g (Array.getElem?_eq_some_iff.1 hgr).1 (fun h => h)]; exact hgr
      have cw3 : w3.cell? ⟨g, off + n, none⟩ = some (.int .u64 x) := by
        rw [hk3.cell (p := ⟨g, off + n, none⟩) (Array.getElem?_eq_some_iff.1 hgr).1 (fun h => h)]; exact cw
      have fw3 : w3.frozen? ⟨g, off + n, none⟩ = false := frozen_of_row w3 g (off + n) _ _ hgr3
      have hk4 : Keeps (· = g) w2 w3 := hkr.trans (hk3.mono (fun _ _ h => h.elim))
      clear cw fw cp hk3
      go_wp2_with fail
      go_roundw
      case rel =>
        refine ⟨n + 1, rfl, by have := HM.out; omega, ?_, Keeps.setCell hk4 _ _ (fun _ => rfl)⟩
        rw [heap_setCell_same w3 g (off + n) _ _ _ hgr3, overTo, HR.out]
      case measure => simp [intOf]; omega
    · have heq : n = m := by omega
      subst heq
      go_wp2_with fail
      refine bodyPost_ret (v := .tuple #[]) (by simp [results, Tryz.results129, go_sem]) rfl ?_
      exact ⟨rfl, by rw [← HM.out]; exact hgr, (kp2.mono (fun _ _ h => h.elim)).trans hkr⟩
end Go.Proofs.YtdeigmjbcbjgeaaGreatDoor
/-
  The program's two kinds, made.
-/
namespace Go.Proofs.YtdeigmjbcbjgeaaGreatDoor
open Go.RowKit

theorem of_map (f : Int → Option Int) (ps vs : List Int) (m : Nat) (h : (ps.take m).map f = vs.map some) (hm : m ≤ ps.length) : ∀ i, i < vs.length → f (ps.getD i 0) = some (vs.getD i 0) := by
  intro i hi
  have h1 := congrArg (fun l => l[i]?) h
  have hl := congrArg List.length h
  simp only [List.length_map, List.length_take] at hl
  have hi' : i < ps.length := by omega
  simp only [List.getElem?_map, List.getElem?_take] at h1
  rw [if_pos (by omega), List.getElem?_eq_getElem hi', List.getElem?_eq_getElem hi] at h1
  simpa [List.getD_eq_getElem?_getD, List.getElem?_eq_getElem hi', List.getElem?_eq_getElem hi] using h1

def isU (k : IntKind) : Option Value → Bool
  | some (.int k' _) => k' == k
  | _ => false
theorem isU_spec {k : IntKind} {o : Option Value} (h : isU k o = true) : ∃ x, o = some (.int k x) := by
  unfold isU at h
  split at h
  · rw [beq_iff_eq] at h; subst h; exact ⟨_, rfl⟩
  · cases h


def fn (f : Nat) : Value := .func (.func f) #[] #[]

def start64 : List Int := refIs
def keys64 : List Int := refKs
def kind64Of (s k : List Int) : Array Value := #[.int .i64 8, .int .i64 80] ++ wordsOf .u64 s ++ wordsOf .u64 k ++ #[fn 124, fn 126, fn 127, fn 128]
def kind64 : Array Value := kind64Of start64 (keys64)
def kind64_0 : Array Value := kind64Of (List.replicate 8 0) (List.replicate 80 0)
def kind64_1 : Array Value := kind64Of start64 (List.replicate 80 0)
theorem kind64_over1 : overTo .u64 kind64_0 2 start64 8 = kind64_1 := by kernel_rfl
theorem kind64_over2 : overTo .u64 kind64_1 10 keys64 80 = kind64 := by kernel_rfl
theorem kind64_at0 : ∀ i, i < 8 → ∃ x, kind64_0[2 + i]? = some (.int .u64 x) := fun i hi => isU_spec ((show ∀ i : Fin 8, isU .u64 kind64_0[2 + i.val]? = true by decide +kernel) ⟨i, hi⟩)
theorem kind64_at1 : ∀ i, i < 80 → ∃ x, kind64_1[10 + i]? = some (.int .u64 x) := fun i hi => isU_spec ((show ∀ i : Fin 80, isU .u64 kind64_1[10 + i.val]? = true by decide +kernel) ⟨i, hi⟩)
theorem start64_fracs : ∀ i, i < start64.length → frac64W (primes80.getD i 0) 2 = some (start64.getD i 0) :=
  of_map (frac64W · 2) primes80 start64 8 (fracs64_squares) (by decide)
theorem keys64_fracs : ∀ i, i < keys64.length → frac64W (primes80.getD i 0) 3 = some (keys64.getD i 0) :=
  of_map (frac64W · 3) primes80 keys64 80 (by rw [show primes80.take 80 = primes80 from rfl]; exact fracs64_cubes) (by decide)
theorem roots64_start (g c : Nat) (w : World) (hg : w.heap[g]? = some (.cells kind64_0 128 (0, 0))) :
    Calls Tryz.prog 129 #[.slice (some ⟨g, 2, none⟩) 8 c, .int .i64 2, .func (.func 130) #[] #[]] w (fun e w' =>
      e = .returned (.tuple #[]) ∧ w'.heap[g]? = some (.cells kind64_1 128 (0, 0)) ∧ Keeps (· = g) w w') := by
  have h := roots64_any 2 (.inl rfl) start64 start64_fracs (by decide) kind64_0 128 g 2 c w hg (fun i hi => kind64_at0 i hi)
  unfold RootsPost at h
  rw [show start64.length = 8 from rfl, kind64_over1] at h
  exact h
theorem roots64_keys (g c : Nat) (w : World) (hg : w.heap[g]? = some (.cells kind64_1 128 (0, 0))) :
    Calls Tryz.prog 129 #[.slice (some ⟨g, 10, none⟩) 80 c, .int .i64 3, .func (.func 130) #[] #[]] w (fun e w' =>
      e = .returned (.tuple #[]) ∧ w'.heap[g]? = some (.cells kind64 128 (0, 0)) ∧ Keeps (· = g) w w') := by
  have h := roots64_any 3 (.inr rfl) keys64 keys64_fracs (by decide) kind64_1 128 g 10 c w hg (fun i hi => kind64_at1 i hi)
  unfold RootsPost at h
  rw [show keys64.length = 80 from rfl, kind64_over2] at h
  exact h
theorem kind64_size : kind64.size = 94 := by kernel_rfl
theorem kind64_c0 : kind64[0]? = some (.int .i64 8) := by kernel_rfl
theorem kind64_c1 : kind64[1]? = some (.int .i64 80) := by kernel_rfl
theorem kind64_m1 : kind64[90]? = some (.func (.func 124) #[] #[]) := by kernel_rfl
theorem kind64_m0 : kind64[91]? = some (.func (.func 126) #[] #[]) := by kernel_rfl
theorem kind64_t1 : kind64[92]? = some (.func (.func 127) #[] #[]) := by kernel_rfl
theorem kind64_t0 : kind64[93]? = some (.func (.func 128) #[] #[]) := by kernel_rfl
theorem kind64_key : ∀ t, t < 80 → kind64[10 + t]? = some (.int .u64 (keys64.getD t 0)) := fun t h => by
  have h1 : kind64 = ((#[.int .i64 8, .int .i64 80] : Array Value) ++ wordsOf .u64 start64) ++ (wordsOf .u64 keys64 ++ (wordsOf .u64 (List.replicate 0 0) ++ #[fn 124, fn 126, fn 127, fn 128])) := by kernel_rfl
  have h2 : ((#[.int .i64 8, .int .i64 80] : Array Value) ++ wordsOf .u64 start64).size = 10 := by kernel_rfl
  rw [h1, Array.getElem?_append_right (by omega), h2, Nat.add_sub_cancel_left, Array.getElem?_append_left (by rw [wordsOf_size]; exact h), wordsOf_get _ _ _ h]
end Go.Proofs.YtdeigmjbcbjgeaaGreatDoor
/-
  The program's two kinds, walked.
-/
namespace Go.Proofs.YtdeigmjbcbjgeaaGreatDoor
open Go.RowKit

def kind64_z : Array Value := #[.int .i64 0, .int .i64 0] ++ wordsOf .u64 (List.replicate 8 0) ++ wordsOf .u64 (List.replicate 80 0) ++ #[.nilFunc, .nilFunc, .nilFunc, .nilFunc]
theorem zeroKind64 : (Tryz.prog.info? 128).map (fun i => (i.zero, i.size)) = some (some (.agg kind64_z), 94) := by kernel_rfl

set_option maxHeartbeats 2000000 in
set_option maxRecDepth 100000 in
theorem kind512_any (w : World) :
    Calls Tryz.prog 118 #[] w fun e w' => e = .returned (.agg kind64) ∧ Keeps (fun _ => False) w w' := by
  obtain ⟨hz, hs⟩ := zero_of_info zeroKind64
  have HZZ := hid (show kind64_z.size = 94 by kernel_rfl)
  have H0Z := hid (show kind64_0.size = 94 by kernel_rfl)
  have H0O := hid (show kind64_0.all (·.oneCell') = true by kernel_rfl)
  have HKO := hid (show kind64.all (·.oneCell') = true by kernel_rfl)
  have HKZ := hid kind64_size
  have HSZ := hid (show (Tryz.prog.info? 128).map (·.size) = some 94 by kernel_rfl)
  generalize hZ : kind64_z = Z at hz HZZ
  clear hZ hs
  go_enter Tryz.func118, Tryz.ntmps118
  go_wp2_with (first
    | (refine wpList_build_to rfl _ _ rfl kind64_0 (by kernel_rfl) ?_)
    | (refine wpList_store_row rfl _ _ _ rfl (w.heap.size + 1) kind64_0 rfl rfl _ Z (heap_alloc2_new _ _ _) (by rw [HSZ.out, H0Z.out]) (by rw [HZZ.out, H0Z.out]) H0O.out ?_))
  obtain ⟨g, hg⟩ : ∃ g, g = w.heap.size + 1 := ⟨_, rfl⟩
  obtain ⟨w2, hw2⟩ : ∃ w2, w2 = ((w.alloc (Obj.cells Z 128)).alloc (Obj.cells Z 128)).setRow g kind64_0 := ⟨_, rfl⟩
  rw [← hg, ← hw2]
  have hg2 : w2.heap[g]? = some (.cells kind64_0 128 (0, 0)) := by rw [hw2, hg]; exact setRow_heap _ _ _ _ _ _ (heap_alloc2_new w _ _)
  have hr2 : w2.heap[w.heap.size]? = some (.cells Z 128 (0, 0)) := by
    rw [hw2, (Keeps.setRow (S := (· = g)) (Keeps.refl _ ((w.alloc (Obj.cells Z 128)).alloc (Obj.cells Z 128))) g kind64_0 (fun _ => rfl)).block w.heap.size (by rw [World.size_alloc, World.size_alloc]; omega) (by omega)]
    exact heap_alloc2_old w _ _
  have kp2 : Keeps (fun _ => False) w w2 := by rw [hw2]; exact Keeps.setRow (((Keeps.refl _ w).alloc _).alloc _) _ _ (fun hi => absurd hi (by omega))
  have hgl : g < w2.heap.size := (Array.getElem?_eq_some_iff.1 hg2).1
  have hrl : w.heap.size < w2.heap.size := (Array.getElem?_eq_some_iff.1 hr2).1
  have hne : w.heap.size ≠ g := by omega
  have hle : w.heap.size ≤ g := by omega
  clear hw2 hg
  refine (roots64_start g 8 w2 hg2).mono ?_
  rintro e w3 ⟨rfl, hg3, hk3⟩
  have c1 : w3.cell? ⟨g, 1, none⟩ = some (.int .i64 80) := by rw [cell_of_row w3 g 1 _ _ _ hg3]; kernel_rfl
  have hr3 := (hk3.block w.heap.size hrl hne).trans hr2
  have hk3' := kp2.step hk3 (fun i hi e => by omega)
  clear hg2 hr2 hk3
  go_wp2_with fail
  refine (roots64_keys g 80 w3 hg3).mono ?_
  rintro e w4 ⟨rfl, hg4, hk4⟩
  have hr4 := (hk4.block w.heap.size (by have := hk3'.size; have := (Array.getElem?_eq_some_iff.1 hr3).1; omega) hne).trans hr3
  have hk4' := hk3'.step hk4 (fun i hi e => by omega)
  clear hg3 hr3 hk4 c1
  obtain ⟨C, hC⟩ : ∃ C, C = kind64 := ⟨_, rfl⟩
  rw [← hC] at hg4 HKO HKZ
  have HC := hid hC
  clear hC
  go_wp2_with (first
    | (refine wpList_load_row rfl _ _ rfl g rfl _ _ (0, 0) _ hg4 Tryz.underlying128 rfl (by rw [HSZ.out, HKZ.out]) ?_)
    | (refine wpList_store_row rfl _ _ _ rfl w.heap.size C rfl rfl _ Z hr4 (by rw [HSZ.out, HKZ.out]) (by rw [HZZ.out, HKZ.out]) HKO.out ?_))
  refine bodyPost_ret (v := .agg C) (results_cell_row rfl _ _ w.heap.size 128 _ (0, 0) _ rfl (setRow_heap _ _ _ _ _ _ hr4) Tryz.underlying128 rfl (by rw [HSZ.out, HKZ.out])) rfl ?_
  exact ⟨by rw [HC.out], Keeps.setRow hk4' _ _ (fun hi => absurd hi (by omega))⟩
end Go.Proofs.YtdeigmjbcbjgeaaGreatDoor
/-
  The program's words of a block, walked.
-/
namespace Go.Proofs.YtdeigmjbcbjgeaaGreatDoor
open Go.RowKit

theorem zero80w64 : (Tryz.prog.info? 112).map (fun i => (i.zero, i.size)) = some (some (.agg (Array.replicate 80 (.int .u64 0))), 80) := by kernel_rfl
theorem words_one (k : IntKind) (l : List Int) : (wordsOf k l).all (·.oneCell') = true := by
  rw [Array.all_eq_true]
  intro i hi
  simp [wordsOf, Value.oneCell']

/-- The cells of the schedule's array, t words of it made; and while word t is made, i bytes of it read. -/
def pcells64 (b : List Int) (t : Nat) : List Int := sched64 b t ++ List.replicate (80 - t) 0
def ppart64 (b : List Int) (t i : Nat) : List Int := (sched64 b t ++ [part64 b t i]) ++ List.replicate (80 - (t + 1)) 0
theorem pcells64_set (b : List Int) (t : Nat) (x : Int) (h : t < 80) (hx : x = if t < 16 then word64 b t else next64 (sched64 b t) t) : (pcells64 b t).set t x = pcells64 b (t + 1) := by
  have h1 := set_pad (sched64 b t) 80 x (by rw [sched64_len]; exact h)
  rw [sched64_len] at h1
  rw [pcells64, h1, pcells64, sched64, hx]
theorem pcells64_len (b : List Int) (t : Nat) (h : t ≤ 80) : (pcells64 b t).length = 80 := by simp [pcells64, sched64_len]; omega
theorem pcells64_old (b : List Int) (t i : Nat) (h : i < t) : (pcells64 b t).getD i 0 = (sched64 b t).getD i 0 := by
  simp [pcells64, List.getD_eq_getElem?_getD, List.getElem?_append, sched64_len, h]
theorem ppart64_zero (b : List Int) (t : Nat) (h : t < 80) : ppart64 b t 0 = pcells64 b t := by
  rw [ppart64, pcells64, show 80 - t = (80 - (t + 1)) + 1 by omega, List.replicate_succ, List.append_assoc]; rfl
theorem ppart64_full (b : List Int) (t : Nat) (h : t < 16) : ppart64 b t 8 = pcells64 b (t + 1) := by
  rw [ppart64, pcells64, sched64, if_pos h]; rfl
theorem ppart64_len (b : List Int) (t i : Nat) (h : t < 80) : (ppart64 b t i).length = 80 := by simp [ppart64, sched64_len]; omega
theorem ppart64_get (b : List Int) (t i : Nat) : (ppart64 b t i).getD t 0 = part64 b t i := by
  rw [ppart64, List.append_assoc, List.getD_eq_getElem?_getD, List.getElem?_append_right (by rw [sched64_len]; exact Nat.le_refl _), sched64_len]; simp
theorem ppart64_set (b : List Int) (t i : Nat) (x : Int) (hx : x = part64 b t (i + 1)) : (ppart64 b t i).set t x = ppart64 b t (i + 1) := by
  subst hx
  rw [ppart64, ppart64, List.append_assoc, List.set_append_right _ _ (by rw [sched64_len]; exact Nat.le_refl _), sched64_len]; simp
def PBytes64 (b : List Int) (t gw : Nat) (wo : World) (i : Value) (wr : World) : Prop :=
  ∃ k : Nat, i = .int .i64 k ∧ k ≤ 8 ∧ wr.heap[gw]? = some (.cells (wordsOf .u64 (ppart64 b t k)) 112 (0, 0)) ∧ Keeps (· = gw) wo wr
def PSched64 (b : List Int) (m0 m gw : Nat) (w2 : World) (i : Value) (wr : World) : Prop :=
  ∃ t : Nat, i = .int .i64 t ∧ m0 ≤ t ∧ t ≤ m ∧ wr.heap[gw]? = some (.cells (wordsOf .u64 (pcells64 b t)) 112 (0, 0)) ∧ Keeps (· = gw) w2 wr

set_option maxHeartbeats 4000000 in
set_option maxRecDepth 100000 in
theorem words64_any (gv : Nat) (b : List Int) (a : Option Addr) (c : Nat) (w : World) (hv : w.heap[gv]? = some (.cells kind64 128 (0, 0))) (hb : b.length = 128) (hc : 128 ≤ c) (hr : RowAt (fun _ => True) .u8 w a b) :
    Calls Tryz.prog 138 #[.pointer (some ⟨gv, 0, none⟩), .slice a 128 c] w fun e w' => e = .returned (.agg (wordsOf .u64 (pcells64 b 80))) ∧ Keeps (fun _ => False) w w' := by
  obtain ⟨hz80, _⟩ := zero_of_info zero80w64
  have HZ80 := hid (show Array.replicate 80 (Value.int .u64 0) = wordsOf .u64 (pcells64 b 0) from rfl)
  generalize Array.replicate 80 (Value.int .u64 0) = Z80 at hz80 HZ80
  have HR := hid hr
  have hgv : gv < w.heap.size := (Array.getElem?_eq_some_iff.1 hv).1
  have HV := hid hv
  obtain ⟨g, off, rfl, hg, hbc⟩ : ∃ g off, a = some ⟨g, off, none⟩ ∧ g < w.heap.size ∧ ∀ j, j < b.length → w.cell? ⟨g, off + j, none⟩ = some (.int .u8 (b.getD j 0)) := by
    rcases hr.2.2 with h0 | ⟨g, off, h1, _, h2, h3⟩
    · rw [h0] at hb; simp at hb
    · exact ⟨g, off, h1, h2, h3⟩
  have HB := hid hbc
  clear hbc hv hr
  have HM1 := hid kind512f1_any
  have HM0 := hid kind512f2_any
  go_enter Tryz.func138, Tryz.ntmps138
  go_wp2_with fail
  obtain ⟨gw, hgwn⟩ : ∃ gw, gw = w.heap.size + 1 := ⟨_, rfl⟩
  obtain ⟨w2, hw2⟩ : ∃ w2, w2 = (w.alloc (Obj.cells Z80 112)).alloc (Obj.cells Z80 112) := ⟨_, rfl⟩
  rw [← hw2, ← hgwn]
  have HGR := hid (show w2.heap[w.heap.size]? = some (.cells Z80 112 (0, 0)) by rw [hw2]; exact heap_alloc2_old w _ _)
  have hgw : w2.heap[gw]? = some (.cells (wordsOf .u64 (pcells64 b 0)) 112 (0, 0)) := by
    rw [hw2, hgwn, ← HZ80.out]; exact heap_alloc2_new w _ _
  have kp2 : Keeps (fun _ => False) w w2 := by rw [hw2]; exact ((Keeps.refl _ w).alloc _).alloc _
  have hs2 : w2.heap.size = gw + 1 := by rw [hw2, hgwn]; simp
  have HGW := hid hgwn
  have HS2 := hid hs2
  have hne : gv ≠ gw ∧ g ≠ gw := by omega
  obtain ⟨hnev, hneg⟩ := hne
  clear hw2 hgwn hs2
  go_loopw [10] (fun i wr => PSched64 b 0 16 gw w2 i wr) (fun i _ => 16 - (intOf i).toNat)
  case atStart => exact ⟨0, rfl, by omega, by omega, hgw, Keeps.refl _ _⟩
  case round =>
    clear hgw
    obtain ⟨t, rfl, _, ht, hws, hkr⟩ := hrel
    have kv : ∀ W : World, Keeps (· = gw) w2 W → W.heap[gv]? = some (.cells kind64 128 (0, 0)) := fun W k => by
      rw [k.block gv (by have := kp2.size; omega) hnev, kp2.block gv hgv (fun h => h)]; exact HV.out
    have hcell0 : ∀ W : World, Keeps (· = gw) w2 W → W.cell? ⟨gv, 0, none⟩ = some (.int .i64 8) ∧ W.cell? ⟨gv, 1, none⟩ = some (.int .i64 80) ∧ W.cell? ⟨gv, 90, none⟩ = some (.func (.func 124) #[] #[]) ∧ W.cell? ⟨gv, 91, none⟩ = some (.func (.func 126) #[] #[]) := fun W k => by
      refine ⟨?_, ?_, ?_, ?_⟩ <;> (rw [cell_of_row W gv _ _ _ _ (kv W k)]; first | exact kind64_c0 | exact kind64_c1 | exact kind64_m1 | exact kind64_m0)
    by_cases h16 : t < 16
    · have h16' : (t : Int) < 16 := by omega
      obtain ⟨wo, rfl⟩ : ∃ wo : World, wo = wr := ⟨_, rfl⟩
      obtain ⟨cv0, _, _, _⟩ := hcell0 wo hkr
      have hcapn : ¬ c = 8 * t := by omega
      have hcap2 : 8 * (t + 1) ≤ c := by omega
      go_wp2_with fail
      go_quiet (fail)
      go_wp2_with fail
      go_loopw [29] (fun i wr => PBytes64 b t gw wo i wr) (fun i _ => 8 - (intOf i).toNat)
      case atStart => exact ⟨0, rfl, by omega, by rw [ppart64_zero b t (by omega)]; exact hws, Keeps.drewN (Keeps.refl _ _) _⟩
      case round =>
        obtain ⟨i, rfl, hi8, hwi, hki⟩ := hrel
        by_cases hlt : i < 8
        · have hlt' : (i : Int) < 8 := by omega
          have hgwo : g < wo.heap.size := by have := hkr.size; have := kp2.size; omega
          have c1 : wr.cell? ⟨g, off + 8 * t + i, none⟩ = some (.int .u8 (b.getD (8 * t + i) 0)) := by
            rw [hki.cell (p := ⟨g, _, none⟩) hgwo hneg, hkr.cell (p := ⟨g, _, none⟩) (by have := kp2.size; show g < _; omega) hneg, kp2.cell (p := ⟨g, _, none⟩) hg (fun h => h), Nat.add_assoc]
            exact HB.out _ (by omega)
          obtain ⟨l0, u0⟩ := wf_u8 (HR.out.mem (j := 8 * t + i) (by omega))
          have c2 : wr.cell? ⟨gw, t, none⟩ = some (.int .u64 (part64 b t i)) := by
            rw [cell_of_row wr gw t _ _ _ hwi, wordsOf_get _ _ _ (by rw [ppart64_len b t i (by omega)]; omega), ppart64_get]
          have f2 : wr.frozen? ⟨gw, t, none⟩ = false := frozen_of_row wr gw t _ _ hwi
          have hx := (show part64 b t (i + 1) = bits .or .u64 (part64 b t i * 256 % 18446744073709551616) (b.getD (8 * t + i) 0) from rfl)
          have HX := hid hx
          clear hx
          generalize b.getD (8 * t + i) 0 = y at c1 HX l0 u0
          generalize part64 b t i = x at c2 HX
          clear hgwo
          go_wp2_with fail
          go_roundw
          case rel =>
            refine ⟨i + 1, rfl, by omega, ?_, Keeps.setCell hki _ _ (fun _ => rfl)⟩
            rw [heap_setCell_same wr gw t _ _ _ hwi, wordsOf_set, IntKind.wrap_u64, ppart64_set b t i _ HX.out.symm]
          case measure => simp [intOf]; omega
        · have h8 : i = 8 := by omega
          subst h8
          go_wp2_with fail
          go_roundw
          case rel =>
            refine ⟨t + 1, rfl, by omega, by omega, ?_, hkr.trans hki⟩
            rw [hwi, ppart64_full b t h16]
          case measure => simp [intOf]; omega
    · have h16' : ¬ (t : Int) < 16 := by omega
      have ht16 : t = 16 := by omega
      subst ht16
      obtain ⟨w3, rfl⟩ : ∃ w3 : World, w3 = wr := ⟨_, rfl⟩
      go_wp2_with fail
      go_loopw [9] (fun i wr => PSched64 b 16 80 gw w2 i wr) (fun i _ => 80 - (intOf i).toNat)
      case atStart => exact ⟨16, rfl, by omega, by omega, hws, hkr⟩
      case round =>
        clear hws hkr
        obtain ⟨t, rfl, ht16, ht, hws, hkr⟩ := hrel
        obtain ⟨_, cv1, cm1, cm0⟩ := hcell0 wr hkr
        by_cases hlt : t < 80
        · have h64' : (t : Int) < 80 := by omega
          have h80' : (t : Int) < 80 := by omega
          have h16'' : 16 ≤ (t : Int) := by omega
          have hold : ∀ j, j < t → wr.cell? ⟨gw, j, none⟩ = some (.int .u64 ((sched64 b t).getD j 0)) := fun j hj => by
            rw [cell_of_row wr gw j _ _ _ hws, wordsOf_get _ _ _ (by rw [pcells64_len b t (by omega)]; omega), pcells64_old b t j hj]
          have c2 := hold (t - 2) (by omega)
          have c7 := hold (t - 7) (by omega)
          have c15 := hold (t - 15) (by omega)
          have c16 := hold (t - 16) (by omega)
          clear hold
          have cw : wr.cell? ⟨gw, t, none⟩ = some (.int .u64 ((pcells64 b t).getD t 0)) := by
            rw [cell_of_row wr gw t _ _ _ hws, wordsOf_get _ _ _ (by rw [pcells64_len b t (by omega)]; omega)]
          generalize (pcells64 b t).getD t 0 = x0 at cw
          have fw : wr.frozen? ⟨gw, t, none⟩ = false := frozen_of_row wr gw t _ _ hws
          obtain ⟨y, hy⟩ : ∃ y, y = next64 (sched64 b t) t := ⟨_, rfl⟩
          have HW := hid hy
          have HY := hid hy
          clear hy
          unfold next64 at HW
          generalize (sched64 b t).getD (t - 2) 0 = x2 at c2 HW
          generalize (sched64 b t).getD (t - 7) 0 = x7 at c7 HW
          generalize (sched64 b t).getD (t - 15) 0 = x15 at c15 HW
          generalize (sched64 b t).getD (t - 16) 0 = x16 at c16 HW
          go_wp2_with fail
          refine wp_region_tail 31 (by kernel_rfl) (by kernel_rfl) _ _ rfl rfl ?_
          simp only [List.take_succ_cons, List.take_zero, List.drop_succ_cons, List.drop_zero]
          repeat (first | go_big_quiet_skip | (go_big_quiet_want; go_big_quiet_op; first | go_big_quiet_on | (apply Exists.intro; refine ⟨?_, ?_⟩; (first | with_reducible exact HM1.out _ _ | with_reducible exact HM0.out _ _); go_big_quiet_on)))
          refine wpQuiet_nil ?_
          go_wp2
          go_roundw
          case rel =>
            refine ⟨t + 1, rfl, by omega, by omega, ?_, Keeps.drew (Keeps.setCell hkr _ _ (fun _ => rfl))⟩
            rw [heap_drew, heap_setCell_same wr gw t _ _ _ hws, wordsOf_set, pcells64_set b t _ (by omega) (by rw [if_neg (by omega), ← HY.out, HW.out]; simp only [IntKind.wrap_u64, Int.emod_add_emod])]
          case measure => simp [intOf]; omega
        · have heq : t = 80 := by omega
          subst heq
          have hgr := (hkr.block w.heap.size (by have := HS2.out; have := HGW.out; omega) (by have := HGW.out; omega)).trans HGR.out
          have kf : Keeps (fun _ => False) w wr := kp2.step hkr (fun i hi e => by have := HGW.out; omega)
          have HPL := hid (pcells64_len b 80 (by omega))
          have HZS := hid (show Z80.size = 80 by rw [HZ80.out]; kernel_rfl)
          have HCS := hid (show (wordsOf .u64 (pcells64 b 80)).size = 80 by rw [wordsOf_size, HPL.out])
          go_wp2_with (first
            | (refine wpList_load_row rfl _ _ rfl gw rfl _ _ (0, 0) _ hws Tryz.underlying112 rfl (by rw [HCS.out]; kernel_rfl) ?_)
            | (refine wpList_store_row rfl _ _ _ rfl w.heap.size _ rfl rfl _ _ hgr (by rw [HCS.out]; kernel_rfl) (by rw [HZS.out, HCS.out]) (words_one _ _) ?_))
          refine bodyPost_ret (v := .agg (wordsOf .u64 (pcells64 b 80))) (results_cell_row rfl _ _ w.heap.size 112 (wordsOf .u64 (pcells64 b 80)) (0, 0) _ rfl (setRow_heap _ _ _ _ _ _ hgr) Tryz.underlying112 rfl (by rw [HCS.out]; kernel_rfl)) rfl ?_
          exact ⟨rfl, Keeps.setRow kf _ _ (fun hi => absurd hi (by omega))⟩
end Go.Proofs.YtdeigmjbcbjgeaaGreatDoor
/-
  The program's rounds for a block, walked.
-/
namespace Go.Proofs.YtdeigmjbcbjgeaaGreatDoor
open Go.RowKit

theorem keys64_get : ∀ t, t < 80 → keys64.getD t 0 = refKs.getD t 0 := fun _ _ => rfl

def PRounds64 (h : Wd8) (b : List Int) (w3 : World) (va vb vc vd ve vf vg vh i : Value) (wr : World) : Prop :=
  ∃ t : Nat, i = .int .i64 t ∧ t ≤ 80 ∧ va = .int .u64 (state64 h b t).a ∧ vb = .int .u64 (state64 h b t).b ∧ vc = .int .u64 (state64 h b t).c ∧ vd = .int .u64 (state64 h b t).d ∧ ve = .int .u64 (state64 h b t).e ∧ vf = .int .u64 (state64 h b t).f ∧ vg = .int .u64 (state64 h b t).g ∧ vh = .int .u64 (state64 h b t).h ∧ Keeps (fun _ => False) w3 wr

set_option maxHeartbeats 4000000 in
set_option maxRecDepth 100000 in
theorem afterBlock64_any (gv : Nat) (h : Wd8) (b : List Int) (a : Option Addr) (c : Nat) (w : World) (hv : w.heap[gv]? = some (.cells kind64 128 (0, 0))) (hb : b.length = 128) (hc : 128 ≤ c) (hr : RowAt (fun _ => True) .u8 w a b) :
    Calls Tryz.prog 131 #[.pointer (some ⟨gv, 0, none⟩), .agg (h.cells .u64), .slice a 128 c] w (Blk512Post h b w) := by
  rw [Wd8.cells_def]
  obtain ⟨hz80, _⟩ := zero_of_info zero80w64
  have HZ80 := hid (show Array.replicate 80 (Value.int .u64 0) = wordsOf .u64 (pcells64 b 0) from rfl)
  generalize Array.replicate 80 (Value.int .u64 0) = Z80 at hz80 HZ80
  have hgv : gv < w.heap.size := (Array.getElem?_eq_some_iff.1 hv).1
  have HV := hid hv
  have HWD := hid (fun W (k : Keeps (fun _ => False) w W) => words64_any gv b a c W (by rw [k.block gv hgv (fun h => h)]; exact hv) hb hc (hr.keeps k (fun _ _ h => h)))
  have HT1 := hid kind512f3_any
  have HT0 := hid kind512f4_any
  clear hr hv hc hb
  go_enter Tryz.func131, Tryz.ntmps131
  go_wp2_with fail
  refine (HWD.out _ (((Keeps.refl _ w).alloc _).alloc _)).mono ?_
  rintro e w1 ⟨rfl, hk1⟩
  have HPL := hid (pcells64_len b 80 (by omega))
  have HPO := hid (fun t (ht : t < 80) => show (wordsOf .u64 (pcells64 b 80))[t]? = some (.int .u64 ((sched64 b 80).getD t 0)) by
    rw [wordsOf_get _ _ _ (by rw [HPL.out]; omega), pcells64_old b 80 t ht])
  have HZS := hid (show Z80.size = 80 by rw [HZ80.out]; kernel_rfl)
  have HCS := hid (show (wordsOf .u64 (pcells64 b 80)).size = 80 by rw [wordsOf_size, HPL.out])
  have HON := hid (words_one .u64 (pcells64 b 80))
  generalize wordsOf .u64 (pcells64 b 80) = C at *
  go_wp2_with (refine wpList_store_row rfl _ _ _ rfl w1.heap.size _ rfl rfl _ Z80 (heap_alloc_last _ _) (by rw [HCS.out]; kernel_rfl) (by rw [HZS.out, HCS.out]) HON.out ?_)
  rw [World.setRow_alloc_new]
  obtain ⟨w3, hw3⟩ : ∃ w3, w3 = w1.alloc (Obj.cells C 112) := ⟨_, rfl⟩
  obtain ⟨gs, hgsn⟩ : ∃ gs, gs = w.heap.size := ⟨_, rfl⟩
  obtain ⟨gw, hgwn⟩ : ∃ gw, gw = w1.heap.size := ⟨_, rfl⟩
  rw [← hw3, ← hgsn, ← hgwn]
  have hs1 : w.heap.size + 2 ≤ w1.heap.size := by have := hk1.size; simpa using this
  have hgs : w3.heap[gs]? = some (.cells (h.cells .u64) 86 (0, 0)) := by
    rw [hw3, Below.heap_alloc _ _ _ (by omega), hgsn, hk1.block _ (by rw [World.size_alloc, World.size_alloc]; omega) (fun h => h)]; exact heap_alloc2_old w _ _
  have hgr : w3.heap[gs + 1]? = some (.cells #[.int .u64 0, .int .u64 0, .int .u64 0, .int .u64 0, .int .u64 0, .int .u64 0, .int .u64 0, .int .u64 0] 86 (0, 0)) := by
    rw [hw3, Below.heap_alloc _ _ _ (by omega), hgsn, hk1.block _ (by rw [World.size_alloc, World.size_alloc]; omega) (fun h => h)]; exact heap_alloc2_new w _ _
  have hgw : w3.heap[gw]? = some (.cells C 112 (0, 0)) := by rw [hw3, hgwn]; exact heap_alloc_last _ _
  have kp3 : Keeps (fun _ => False) w w3 := by rw [hw3]; exact ((((Keeps.refl _ w).alloc _).alloc _).trans hk1).alloc _
  have hgv3 : w3.heap[gv]? = some (.cells kind64 128 (0, 0)) := by rw [kp3.block gv hgv (fun h => h)]; exact HV.out
  have o : gv < w3.heap.size ∧ gs + 1 < w3.heap.size ∧ gw < w3.heap.size := by rw [hw3, World.size_alloc]; omega
  obtain ⟨o1, o2, o3⟩ := o
  have ho : w.heap.size ≤ gs := by omega
  have HW3 := hid hw3
  clear hw3 hgsn hgwn hs1 hk1
  have c0 : w3.cell? ⟨gs, 0, none⟩ = some (.int .u64 h.a) := by rw [cell_of_row w3 gs 0 _ _ _ hgs]; rfl
  have c1 : w3.cell? ⟨gs, 1, none⟩ = some (.int .u64 h.b) := by rw [cell_of_row w3 gs 1 _ _ _ hgs]; rfl
  have c2 : w3.cell? ⟨gs, 2, none⟩ = some (.int .u64 h.c) := by rw [cell_of_row w3 gs 2 _ _ _ hgs]; rfl
  have c3 : w3.cell? ⟨gs, 3, none⟩ = some (.int .u64 h.d) := by rw [cell_of_row w3 gs 3 _ _ _ hgs]; rfl
  have c4 : w3.cell? ⟨gs, 4, none⟩ = some (.int .u64 h.e) := by rw [cell_of_row w3 gs 4 _ _ _ hgs]; rfl
  have c5 : w3.cell? ⟨gs, 5, none⟩ = some (.int .u64 h.f) := by rw [cell_of_row w3 gs 5 _ _ _ hgs]; rfl
  have c6 : w3.cell? ⟨gs, 6, none⟩ = some (.int .u64 h.g) := by rw [cell_of_row w3 gs 6 _ _ _ hgs]; rfl
  have c7 : w3.cell? ⟨gs, 7, none⟩ = some (.int .u64 h.h) := by rw [cell_of_row w3 gs 7 _ _ _ hgs]; rfl
  have cv1 : w3.cell? ⟨gv, 1, none⟩ = some (.int .i64 80) := by rw [cell_of_row w3 gv 1 _ _ _ hgv3]; exact kind64_c1
  have HGS := hid hgs; have HGR := hid hgr; have HGW := hid hgw; have HGV := hid hgv3
  clear hgs hgr hgw hgv3
  go_wp2_with fail
  go_quiet (fail)
  go_wp2_with fail
  go_quiet (fail)
  go_wp2_with fail
  clear c0 c1 c2 c3 c4 c5 c6 c7
  go_loopw [8, 9, 10, 11, 12, 13, 14, 15, 48] (fun va vb vc vd ve vf vg vh i wr => PRounds64 h b w3 va vb vc vd ve vf vg vh i wr) (fun _ _ _ _ _ _ _ _ i _ => 80 - (intOf i).toNat)
  case atStart => exact ⟨0, rfl, by omega, rfl, rfl, rfl, rfl, rfl, rfl, rfl, rfl, Keeps.drewN (Keeps.drewN (Keeps.refl _ _) _) _⟩
  case round =>
    obtain ⟨t, rfl, ht, rfl, rfl, rfl, rfl, rfl, rfl, rfl, rfl, hkr⟩ := hrel
    by_cases hlt : t < 80
    · have hlt' : (t : Int) < 80 := by omega
      have hlt80 : (t : Int) < 80 := by omega
      obtain ⟨s, hs⟩ : ∃ s, s = state64 h b t := ⟨_, rfl⟩
      have HS := hid hs
      rw [← hs]
      clear hs
      have ck : wr.cell? ⟨gv, 10 + t, none⟩ = some (.int .u64 (keys64.getD t 0)) := by
        rw [cell_of_row wr gv (10 + t) _ _ _ ((hkr.block gv o1 (fun h => h)).trans HGV.out)]; exact kind64_key t hlt
      have cw : wr.cell? ⟨gw, t, none⟩ = some (.int .u64 ((sched64 b 80).getD t 0)) := by
        rw [cell_of_row wr gw t _ _ _ ((hkr.block gw o3 (fun h => h)).trans HGW.out)]; exact HPO.out t hlt
      have ct1 : wr.cell? ⟨gv, 92, none⟩ = some (.func (.func 127) #[] #[]) := by
        rw [cell_of_row wr gv 92 _ _ _ ((hkr.block gv o1 (fun h => h)).trans HGV.out)]; exact kind64_t1
      have ct0 : wr.cell? ⟨gv, 93, none⟩ = some (.func (.func 128) #[] #[]) := by
        rw [cell_of_row wr gv 93 _ _ _ ((hkr.block gv o1 (fun h => h)).trans HGV.out)]; exact kind64_t0
      obtain ⟨kt, hkt⟩ : ∃ kt, kt = keys64.getD t 0 := ⟨_, rfl⟩
      obtain ⟨wt, hwt⟩ : ∃ wt, wt = (sched64 b 80).getD t 0 := ⟨_, rfl⟩
      have HKT := hid (hkt.trans (keys64_get t hlt)); have HWT := hid hwt
      rw [← hkt] at ck; rw [← hwt] at cw
      clear hkt hwt
      go_wp2_with fail
      refine wp_region_tail 23 (by kernel_rfl) (by kernel_rfl) _ _ rfl rfl ?_
      simp only [List.take_succ_cons, List.take_zero, List.drop_succ_cons, List.drop_zero]
      repeat (first | go_big_quiet_skip | (go_big_quiet_want; go_big_quiet_op; first | go_big_quiet_on | (apply Exists.intro; refine ⟨?_, ?_⟩; (with_reducible exact HT1.out _ _); go_big_quiet_on)))
      refine wpQuiet_nil ?_
      go_upto_region 7 with (fail)
      obtain ⟨T1, hT1⟩ : ∃ T1 : Int, T1 = IntKind.u64.wrap (IntKind.u64.wrap (IntKind.u64.wrap (IntKind.u64.wrap (s.h + bits BinOp.xor IntKind.u64 (bits BinOp.xor IntKind.u64 (ror64 s.e 14) (ror64 s.e 18)) (ror64 s.e 41)) + bits BinOp.xor IntKind.u64 (bits BinOp.and IntKind.u64 s.e s.f) (bits BinOp.and IntKind.u64 (bits BinOp.xor IntKind.u64 (if IntKind.u64.signed = true then -1 else IntKind.u64.max) s.e) s.g)) + kt) + wt) := ⟨_, rfl⟩
      rw [← hT1]
      have HT := hid hT1
      clear hT1
      obtain ⟨W, hW⟩ : ∃ W, W = wr.drew := ⟨_, rfl⟩
      have cW : W.cell? ⟨gv, 93, none⟩ = some (.func (.func 128) #[] #[]) := by rw [hW]; exact ct0
      have hkW : Keeps (fun _ => False) w3 W := by rw [hW]; exact hkr.drew
      rw [← hW]
      clear hW ct0 ct1 ck cw hkr
      repeat (first | go_values | go_skip | go_guarded | go_step | go_upon | go_back)
      refine (HT0.out _ _).mono ?_
      rintro e w' ⟨rfl, rfl⟩
      go_wp2_with fail
      go_roundw
      case rel =>
        have hst : state64 h b (t + 1) = step64 s (refKs.getD t 0) wt := by rw [state64, ← HS.out, ← HWT.out]
        have e1 : T1 = sumE64 s (refKs.getD t 0) wt % 18446744073709551616 := by
          rw [HT.out, HKT.out]
          unfold sumE64
          simp only [show IntKind.u64.signed = false from rfl, Bool.false_eq_true, if_false, IntKind.wrap_u64, Int.emod_add_emod]
        refine ⟨t + 1, rfl, by omega, ?_, ?_, ?_, ?_, ?_, ?_, ?_, ?_, hkW⟩ <;> rw [hst] <;> first | rfl | refine congrArg (Value.int .u64) ?_
        · show _ = (sumE64 s (refKs.getD t 0) wt + sumA64 s) % 18446744073709551616
          rw [e1]
          unfold sumA64
          simp only [IntKind.wrap_u64, Int.emod_add_emod, Int.add_emod_emod]
        · show _ = (s.d + sumE64 s (refKs.getD t 0) wt) % 18446744073709551616
          rw [e1]
          simp only [IntKind.wrap_u64, Int.add_emod_emod]
      case measure => simp [intOf]; omega
    · have heq : t = 80 := by omega
      subst heq
      obtain ⟨s, hs⟩ : ∃ s, s = state64 h b 80 := ⟨_, rfl⟩
      have HS := hid hs
      rw [← hs]
      clear hs
      have hgsr := (hkr.block gs (by omega) (fun h => h)).trans HGS.out
      have hgr := (hkr.block (gs + 1) o2 (fun h => h)).trans HGR.out
      have c0 : wr.cell? ⟨gs, 0, none⟩ = some (.int .u64 h.a) := by rw [cell_of_row wr gs 0 _ _ _ hgsr]; rfl
      have c1 : wr.cell? ⟨gs, 1, none⟩ = some (.int .u64 h.b) := by rw [cell_of_row wr gs 1 _ _ _ hgsr]; rfl
      have c2 : wr.cell? ⟨gs, 2, none⟩ = some (.int .u64 h.c) := by rw [cell_of_row wr gs 2 _ _ _ hgsr]; rfl
      have c3 : wr.cell? ⟨gs, 3, none⟩ = some (.int .u64 h.d) := by rw [cell_of_row wr gs 3 _ _ _ hgsr]; rfl
      have c4 : wr.cell? ⟨gs, 4, none⟩ = some (.int .u64 h.e) := by rw [cell_of_row wr gs 4 _ _ _ hgsr]; rfl
      have c5 : wr.cell? ⟨gs, 5, none⟩ = some (.int .u64 h.f) := by rw [cell_of_row wr gs 5 _ _ _ hgsr]; rfl
      have c6 : wr.cell? ⟨gs, 6, none⟩ = some (.int .u64 h.g) := by rw [cell_of_row wr gs 6 _ _ _ hgsr]; rfl
      have c7 : wr.cell? ⟨gs, 7, none⟩ = some (.int .u64 h.h) := by rw [cell_of_row wr gs 7 _ _ _ hgsr]; rfl
      have HF := hid (show (block64 h b) = add8 18446744073709551616 h s by rw [block64, HS.out])
      have kf : Keeps (fun _ => False) w wr := kp3.trans hkr
      go_wp2_with (refine wpList_store_row rfl _ _ _ rfl (gs + 1) ((add8 18446744073709551616 h s).cells .u64) rfl rfl _ _ hgr (by kernel_rfl) (by kernel_rfl) (by kernel_rfl) ?_)
      refine bodyPost_ret (v := .agg ((add8 18446744073709551616 h s).cells .u64)) (results_cell_row rfl _ _ (gs + 1) 86 _ (0, 0) _ rfl (setRow_heap _ _ _ _ _ _ hgr) Tryz.underlying86 rfl (by kernel_rfl)) rfl ?_
      exact ⟨by rw [HF.out], Keeps.setRow kf _ _ (fun hi => absurd hi (by omega))⟩
end Go.Proofs.YtdeigmjbcbjgeaaGreatDoor
/-
  What whole blocks make of the program's state, walked.
-/
namespace Go.Proofs.YtdeigmjbcbjgeaaGreatDoor
open Go.RowKit

def lenOf : Value → Nat
  | .slice _ n _ => n
  | _ => 0
theorem RowAt.takeN {F : Nat → Prop} {k : IntKind} {w : World} {a : Option Addr} {l : List Int} (h : RowAt F k w a l) (n : Nat) : RowAt F k w a (l.take n) := by
  obtain ⟨h1, h2, h3⟩ := h
  refine ⟨by rw [List.length_take]; omega, fun x hx => h2 x (List.mem_of_mem_take hx), ?_⟩
  rcases h3 with h3 | ⟨g, off, h4, h5, h6, h7⟩
  · left; rw [h3]; simp
  · refine .inr ⟨g, off, h4, h5, h6, fun j hj => ?_⟩
    rw [List.length_take] at hj
    rw [h7 j (by omega)]
    simp [List.getD_eq_getElem?_getD, show j < n by omega]
theorem RowAt.dropN {F : Nat → Prop} {k : IntKind} {w : World} {g off : Nat} {l : List Int} (h : RowAt F k w (some ⟨g, off, none⟩) l) (n : Nat) : RowAt F k w (some ⟨g, off + n, none⟩) (l.drop n) := by
  obtain ⟨h1, h2, h3⟩ := h
  refine ⟨by rw [List.length_drop]; omega, fun x hx => h2 x (List.mem_of_mem_drop hx), ?_⟩
  rcases h3 with h3 | ⟨g', off', h4, h5, h6, h7⟩
  · left; rw [h3]; simp
  · injection h4 with h4; injection h4 with h4 h4'; subst h4; subst h4'
    refine .inr ⟨g, off + n, rfl, h5, h6, fun j hj => ?_⟩
    rw [List.length_drop] at hj
    rw [Nat.add_assoc, h7 (n + j) (by omega)]
    simp [List.getD_eq_getElem?_getD, List.getElem?_drop]

/-- What the first n blocks of b make of the state h. -/
def pchain64 (h : Wd8) (b : List Int) : Nat → Wd8
  | 0 => h
  | n + 1 => block64 (pchain64 h b n) ((b.drop (128 * n)).take 128)
def PAfter64 (h : Wd8) (b : List Int) (c gs : Nat) (w w2 : World) (x : Value) (wr : World) : Prop :=
  ∃ (n : Nat) (a : Option Addr), x = .slice a (b.length - 128 * n) (c - 128 * n) ∧ 128 * n ≤ b.length ∧ RowAt (fun _ => True) .u8 w a (b.drop (128 * n)) ∧
    wr.heap[gs]? = some (.cells ((pchain64 h b n).cells .u64) 86 (0, 0)) ∧ Keeps (· = gs) w2 wr

set_option maxHeartbeats 4000000 in
set_option maxRecDepth 100000 in
theorem after64_any (gv : Nat) (h : Wd8) (b : List Int) (a : Option Addr) (c : Nat) (w : World) (hv : w.heap[gv]? = some (.cells kind64 128 (0, 0))) (hc : b.length ≤ c) (hr : RowAt (fun _ => True) .u8 w a b) :
    Calls Tryz.prog 122 #[.pointer (some ⟨gv, 0, none⟩), .agg (h.cells .u64), .slice a b.length c] w fun e w' => e = .returned (.agg ((pchain64 h b (b.length / 128)).cells .u64)) ∧ Keeps (fun _ => False) w w' := by
  rw [Wd8.cells_def]
  have hgv : gv < w.heap.size := (Array.getElem?_eq_some_iff.1 hv).1
  have HV := hid hv
  have HBL := hid (fun (W : World) (k : Keeps (fun _ => False) w W) (s : Wd8) (b' : List Int) (a' : Option Addr) (c' : Nat) (h1 : b'.length = 128) (h2 : 128 ≤ c') (h3 : RowAt (fun _ => True) .u8 w a' b') =>
    afterBlock64_any gv s b' a' c' W (by rw [k.block gv hgv (fun h => h)]; exact hv) h1 h2 (h3.keeps k (fun _ _ h => h)))
  obtain ⟨m, hm⟩ : ∃ m, m = b.length := ⟨_, rfl⟩
  rw [← hm] at hc ⊢
  have HM := hid hm
  have hm0 : m ≤ 9223372036854775807 := by rw [hm]; exact hr.1
  have HR := hid hr
  clear hr hv hm
  have hv0 : w.cell? ⟨gv, 0, none⟩ = some (.int .i64 8) := by rw [cell_of_row w gv 0 _ _ _ HV.out]; exact kind64_c0
  go_enter Tryz.func122, Tryz.ntmps122
  obtain ⟨gs, hgsn⟩ : ∃ gs, gs = w.heap.size := ⟨_, rfl⟩
  obtain ⟨w2, hw2⟩ : ∃ w2, w2 = (w.alloc (Obj.cells #[.int .u64 h.a, .int .u64 h.b, .int .u64 h.c, .int .u64 h.d, .int .u64 h.e, .int .u64 h.f, .int .u64 h.g, .int .u64 h.h] 86)).alloc (Obj.cells #[.int .u64 0, .int .u64 0, .int .u64 0, .int .u64 0, .int .u64 0, .int .u64 0, .int .u64 0, .int .u64 0] 86) := ⟨_, rfl⟩
  have hgs : w2.heap[gs]? = some (.cells ((pchain64 h b 0).cells .u64) 86 (0, 0)) := by rw [hw2, hgsn]; exact heap_alloc2_old w _ _
  have hgr : w2.heap[gs + 1]? = some (.cells #[.int .u64 0, .int .u64 0, .int .u64 0, .int .u64 0, .int .u64 0, .int .u64 0, .int .u64 0, .int .u64 0] 86 (0, 0)) := by rw [hw2, hgsn]; exact heap_alloc2_new w _ _
  have kp2 : Keeps (fun _ => False) w w2 := by rw [hw2]; exact ((Keeps.refl _ w).alloc _).alloc _
  have hs2 : w2.heap.size = gs + 2 := by rw [hw2, hgsn]; simp
  have hv2 : w2.cell? ⟨gv, 0, none⟩ = some (.int .i64 8) := by rw [kp2.cell (p := ⟨gv, 0, none⟩) hgv (fun h => h)]; exact hv0
  have HW2 := hid hw2
  have HGSN := hid hgsn
  clear hgsn hw2
  go_upto_region 1 with (fail)
  rw [← HGSN.out, ← HW2.out]
  clear hv0
  have HGR := hid hgr
  have HS2 := hid hs2
  clear hgr hs2
  go_wp2_with fail
  go_loopw [2] (fun x wr => PAfter64 h b c gs w w2 x wr) (fun x _ => lenOf x)
  case atStart => exact ⟨0, a, by rw [← HM.out]; rfl, by omega, HR.out, hgs, Keeps.refl _ _⟩
  case round =>
    clear hgs
    obtain ⟨n, a', rfl, hn, hra, hst, hkr⟩ := hrel
    rw [← HM.out] at hn ⊢
    obtain ⟨s, hs⟩ : ∃ s, s = pchain64 h b n := ⟨_, rfl⟩
    have HS := hid hs
    rw [← hs] at hst
    clear hs
    obtain ⟨q, hq⟩ : ∃ q, q = m - 128 * n := ⟨_, rfl⟩
    obtain ⟨d, hd⟩ : ∃ d, d = c - 128 * n := ⟨_, rfl⟩
    rw [← hq, ← hd]
    have hqd : q ≤ d := by omega
    have hq9 : q ≤ 9223372036854775807 := by omega
    have HQ := hid hq
    have HD := hid hd
    have hne : w2.heap.size = gs + 2 := HS2.out
    have hneg : gv ≠ gs := by have := HGSN.out; omega
    have kf : Keeps (fun _ => False) w wr := kp2.step hkr (fun i hi e => by have := HGSN.out; omega)
    clear hq hd hne
    by_cases hlt : 128 ≤ q
    · have hlt' : (128 : Int) ≤ (q : Int) := by omega
      have hdl : (b.drop (128 * n)).length = q := by rw [List.length_drop, ← HM.out, HQ.out]
      obtain ⟨g, off, rfl⟩ : ∃ g off, a' = some ⟨g, off, none⟩ := by
        rcases hra.2.2 with h0 | ⟨g, off, h1, _⟩
        · rw [h0] at hdl; simp at hdl; omega
        · exact ⟨g, off, h1⟩
      have c0 : wr.cell? ⟨gs, 0, none⟩ = some (.int .u64 s.a) := by rw [cell_of_row wr gs 0 _ _ _ hst]; rfl
      have c1 : wr.cell? ⟨gs, 1, none⟩ = some (.int .u64 s.b) := by rw [cell_of_row wr gs 1 _ _ _ hst]; rfl
      have c2 : wr.cell? ⟨gs, 2, none⟩ = some (.int .u64 s.c) := by rw [cell_of_row wr gs 2 _ _ _ hst]; rfl
      have c3 : wr.cell? ⟨gs, 3, none⟩ = some (.int .u64 s.d) := by rw [cell_of_row wr gs 3 _ _ _ hst]; rfl
      have c4 : wr.cell? ⟨gs, 4, none⟩ = some (.int .u64 s.e) := by rw [cell_of_row wr gs 4 _ _ _ hst]; rfl
      have c5 : wr.cell? ⟨gs, 5, none⟩ = some (.int .u64 s.f) := by rw [cell_of_row wr gs 5 _ _ _ hst]; rfl
      have c6 : wr.cell? ⟨gs, 6, none⟩ = some (.int .u64 s.g) := by rw [cell_of_row wr gs 6 _ _ _ hst]; rfl
      have c7 : wr.cell? ⟨gs, 7, none⟩ = some (.int .u64 s.h) := by rw [cell_of_row wr gs 7 _ _ _ hst]; rfl
      have HCALL := hid (HBL.out wr.drew kf.drew s ((b.drop (128 * n)).take 128) (some ⟨g, off, none⟩) d (by rw [List.length_take, hdl]; omega) (by omega) (hra.takeN 128))
      rw [Wd8.cells_def] at HCALL
      have hdz : ∀ b', b' = b.drop (128 * (n + 1)) → RowAt (fun _ => True) .u8 w (if d = 128 then some ⟨g, off, none⟩ else some ⟨g, off + 128, none⟩) b' := by
        intro b' hb'
        subst hb'
        rw [show 128 * (n + 1) = 128 * n + 128 by omega, ← List.drop_drop]
        by_cases hz : d = 128
        · rw [if_pos hz, List.drop_eq_nil_of_le (by omega)]
          exact ⟨by simp, by simp, .inl rfl⟩
        · rw [if_neg hz]; exact hra.dropN 128
      have HDZ := hid hdz
      clear hdz hra hdl
      go_wp2_with fail
      refine wp_region_tail 5 (by kernel_rfl) (by kernel_rfl) _ _ rfl rfl ?_
      simp only [List.take_succ_cons, List.take_zero, List.drop_succ_cons, List.drop_zero]
      repeat (first | go_big_quiet_skip | (go_big_quiet_want; go_big_quiet_op; first | go_big_quiet_on | (apply Exists.intro; refine ⟨?_, ?_⟩; (fail); go_big_quiet_on)))
      refine wpQuiet_nil ?_
      repeat (first | go_values | go_skip | go_guarded | go_step | go_upon | go_back)
      refine (HCALL.out).mono ?_
      rintro e w4 ⟨rfl, hk4⟩
      have hst4 : w4.heap[gs]? = some (.cells (s.cells .u64) 86 (0, 0)) := by
        rw [hk4.block gs (Array.getElem?_eq_some_iff.1 hst).1 (fun h => h)]; exact hst
      have hk5 : Keeps (· = gs) w2 w4 := (hkr.drew).trans (hk4.mono (fun _ _ h => h.elim))
      have hnx : pchain64 h b (n + 1) = block64 s ((b.drop (128 * n)).take 128) := by rw [pchain64, HS.out]
      obtain ⟨s', hs'⟩ : ∃ s', s' = block64 s ((b.drop (128 * n)).take 128) := ⟨_, rfl⟩
      rw [← hs'] at hnx ⊢
      have HNX := hid hnx
      clear hs' hnx c0 c1 c2 c3 c4 c5 c6 c7 hst hk4
      by_cases hz : d = 128
      all_goals
        go_wp2_with (refine wpList_store_row rfl _ _ _ rfl gs (s'.cells .u64) rfl rfl _ _ hst4 (by kernel_rfl) (by kernel_rfl) (by kernel_rfl) ?_)
        go_roundw
        case rel =>
          refine ⟨n + 1, _, ?_, by have := HQ.out; have := HM.out; omega, HDZ.out _ rfl, by rw [setRow_heap _ _ _ _ _ _ hst4, HNX.out], Keeps.setRow hk5 _ _ (fun _ => rfl)⟩
          rw [show b.length - 128 * (n + 1) = q - 128 by have := HQ.out; have := HM.out; omega, show c - 128 * (n + 1) = d - 128 by have := HD.out; omega]
          first | (rw [if_neg hz]; done) | (rw [if_pos hz, hz])
        case measure => simp [lenOf]; omega
    · have hlt' : ¬ (128 : Int) ≤ (q : Int) := by omega
      have hgr := (hkr.block (gs + 1) (by have := HS2.out; omega) (by omega)).trans HGR.out
      have c0 : wr.cell? ⟨gs, 0, none⟩ = some (.int .u64 s.a) := by rw [cell_of_row wr gs 0 _ _ _ hst]; rfl
      have c1 : wr.cell? ⟨gs, 1, none⟩ = some (.int .u64 s.b) := by rw [cell_of_row wr gs 1 _ _ _ hst]; rfl
      have c2 : wr.cell? ⟨gs, 2, none⟩ = some (.int .u64 s.c) := by rw [cell_of_row wr gs 2 _ _ _ hst]; rfl
      have c3 : wr.cell? ⟨gs, 3, none⟩ = some (.int .u64 s.d) := by rw [cell_of_row wr gs 3 _ _ _ hst]; rfl
      have c4 : wr.cell? ⟨gs, 4, none⟩ = some (.int .u64 s.e) := by rw [cell_of_row wr gs 4 _ _ _ hst]; rfl
      have c5 : wr.cell? ⟨gs, 5, none⟩ = some (.int .u64 s.f) := by rw [cell_of_row wr gs 5 _ _ _ hst]; rfl
      have c6 : wr.cell? ⟨gs, 6, none⟩ = some (.int .u64 s.g) := by rw [cell_of_row wr gs 6 _ _ _ hst]; rfl
      have c7 : wr.cell? ⟨gs, 7, none⟩ = some (.int .u64 s.h) := by rw [cell_of_row wr gs 7 _ _ _ hst]; rfl
      have HN := hid (show m / 128 = n by have := HQ.out; omega)
      go_wp2_with (refine wpList_store_row rfl _ _ _ rfl (gs + 1) (s.cells .u64) rfl rfl _ _ hgr (by kernel_rfl) (by kernel_rfl) (by kernel_rfl) ?_)
      refine bodyPost_ret (v := .agg (s.cells .u64)) (results_cell_row rfl _ _ (gs + 1) 86 _ (0, 0) _ rfl (setRow_heap _ _ _ _ _ _ hgr) Tryz.underlying86 rfl (by kernel_rfl)) rfl ?_
      exact ⟨by rw [HN.out, HS.out], Keeps.setRow kf _ _ (fun hi => absurd hi (by have := HGSN.out; omega))⟩
end Go.Proofs.YtdeigmjbcbjgeaaGreatDoor
