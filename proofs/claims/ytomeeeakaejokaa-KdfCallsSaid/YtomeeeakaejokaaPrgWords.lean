/-
  The program's words of a block, walked.
-/
import Derived.Test.YtomeeeakaejokaaPrgMix
import Derived.Test.YtomeeeakaejokaaPrgKind2
namespace Go.Proofs.Ytomeeeakaejokaa
open Go.RowKit

theorem zero80w32 : (Try.prog.info? 53).map (fun i => (i.zero, i.size)) = some (some (.agg (Array.replicate 80 (.int .u32 0))), 80) := by kernel_rfl
theorem zero80w64 : (Try.prog.info? 66).map (fun i => (i.zero, i.size)) = some (some (.agg (Array.replicate 80 (.int .u64 0))), 80) := by kernel_rfl
theorem words_one (k : IntKind) (l : List Int) : (wordsOf k l).all (·.oneCell') = true := by
  rw [Array.all_eq_true]
  intro i hi
  simp [wordsOf, Value.oneCell']

/-- The cells of the schedule's array, t words of it made; and while word t is made, i bytes of it read. -/
def pcells32 (b : List Int) (t : Nat) : List Int := sched32 b t ++ List.replicate (80 - t) 0
def ppart32 (b : List Int) (t i : Nat) : List Int := (sched32 b t ++ [part32 b t i]) ++ List.replicate (80 - (t + 1)) 0
theorem pcells32_set (b : List Int) (t : Nat) (x : Int) (h : t < 80) (hx : x = if t < 16 then word32 b t else next32 (sched32 b t) t) : (pcells32 b t).set t x = pcells32 b (t + 1) := by
  have h1 := set_pad (sched32 b t) 80 x (by rw [sched32_len]; exact h)
  rw [sched32_len] at h1
  rw [pcells32, h1, pcells32, sched32, hx]
theorem pcells32_len (b : List Int) (t : Nat) (h : t ≤ 80) : (pcells32 b t).length = 80 := by simp [pcells32, sched32_len]; omega
theorem pcells32_old (b : List Int) (t i : Nat) (h : i < t) : (pcells32 b t).getD i 0 = (sched32 b t).getD i 0 := by
  simp [pcells32, List.getD_eq_getElem?_getD, List.getElem?_append, sched32_len, h]
theorem ppart32_zero (b : List Int) (t : Nat) (h : t < 80) : ppart32 b t 0 = pcells32 b t := by
  rw [ppart32, pcells32, show 80 - t = (80 - (t + 1)) + 1 by omega, List.replicate_succ, List.append_assoc]; rfl
theorem ppart32_full (b : List Int) (t : Nat) (hb : ∀ j, j < 4 → 0 ≤ b.getD (4 * t + j) 0 ∧ b.getD (4 * t + j) 0 ≤ 255) (h : t < 16) : ppart32 b t 4 = pcells32 b (t + 1) := by
  rw [ppart32, pcells32, sched32, if_pos h]; rw [part32_word b t hb]
theorem ppart32_len (b : List Int) (t i : Nat) (h : t < 80) : (ppart32 b t i).length = 80 := by simp [ppart32, sched32_len]; omega
theorem ppart32_get (b : List Int) (t i : Nat) : (ppart32 b t i).getD t 0 = part32 b t i := by
  rw [ppart32, List.append_assoc, List.getD_eq_getElem?_getD, List.getElem?_append_right (by rw [sched32_len]; exact Nat.le_refl _), sched32_len]; simp
theorem ppart32_set (b : List Int) (t i : Nat) (x : Int) (hx : x = part32 b t (i + 1)) : (ppart32 b t i).set t x = ppart32 b t (i + 1) := by
  subst hx
  rw [ppart32, ppart32, List.append_assoc, List.set_append_right _ _ (by rw [sched32_len]; exact Nat.le_refl _), sched32_len]; simp
def PBytes32 (b : List Int) (t gw : Nat) (wo : World) (i : Value) (wr : World) : Prop :=
  ∃ k : Nat, i = .int .i64 k ∧ k ≤ 4 ∧ wr.heap[gw]? = some (.cells (wordsOf .u32 (ppart32 b t k)) 53 (0, 0)) ∧ Keeps (· = gw) wo wr
def PSched32 (b : List Int) (m0 m gw : Nat) (w2 : World) (i : Value) (wr : World) : Prop :=
  ∃ t : Nat, i = .int .i64 t ∧ m0 ≤ t ∧ t ≤ m ∧ wr.heap[gw]? = some (.cells (wordsOf .u32 (pcells32 b t)) 53 (0, 0)) ∧ Keeps (· = gw) w2 wr

set_option maxHeartbeats 4000000 in
set_option maxRecDepth 100000 in
theorem words32_any (gv : Nat) (b : List Int) (a : Option Addr) (c : Nat) (w : World) (hv : w.heap[gv]? = some (.cells kind32 56 (0, 0))) (hb : b.length = 64) (hc : 64 ≤ c) (hr : RowAt (fun _ => True) .u8 w a b) :
    Calls Try.prog 56 #[.pointer (some ⟨gv, 0, none⟩), .slice a 64 c] w fun e w' => e = .returned (.agg (wordsOf .u32 (pcells32 b 64))) ∧ Keeps (fun _ => False) w w' := by
  obtain ⟨hz80, _⟩ := zero_of_info zero80w32
  have HZ80 := hid (show Array.replicate 80 (Value.int .u32 0) = wordsOf .u32 (pcells32 b 0) from rfl)
  generalize Array.replicate 80 (Value.int .u32 0) = Z80 at hz80 HZ80
  have HR := hid hr
  have hgv : gv < w.heap.size := (Array.getElem?_eq_some_iff.1 hv).1
  have HV := hid hv
  obtain ⟨g, off, rfl, hg, hbc⟩ : ∃ g off, a = some ⟨g, off, none⟩ ∧ g < w.heap.size ∧ ∀ j, j < b.length → w.cell? ⟨g, off + j, none⟩ = some (.int .u8 (b.getD j 0)) := by
    rcases hr.2.2 with h0 | ⟨g, off, h1, _, h2, h3⟩
    · rw [h0] at hb; simp at hb
    · exact ⟨g, off, h1, h2, h3⟩
  have HB := hid hbc
  clear hbc hv hr
  have HM1 := hid kind256f1_any
  have HM0 := hid kind256f2_any
  go_enter Try.func56, Try.ntmps56
  go_wp2_with fail
  obtain ⟨gw, hgwn⟩ : ∃ gw, gw = w.heap.size + 1 := ⟨_, rfl⟩
  obtain ⟨w2, hw2⟩ : ∃ w2, w2 = (w.alloc (Obj.cells Z80 53)).alloc (Obj.cells Z80 53) := ⟨_, rfl⟩
  rw [← hw2, ← hgwn]
  have HGR := hid (show w2.heap[w.heap.size]? = some (.cells Z80 53 (0, 0)) by rw [hw2]; exact heap_alloc2_old w _ _)
  have hgw : w2.heap[gw]? = some (.cells (wordsOf .u32 (pcells32 b 0)) 53 (0, 0)) := by
    rw [hw2, hgwn, ← HZ80.out]; exact heap_alloc2_new w _ _
  have kp2 : Keeps (fun _ => False) w w2 := by rw [hw2]; exact ((Keeps.refl _ w).alloc _).alloc _
  have hs2 : w2.heap.size = gw + 1 := by rw [hw2, hgwn]; simp
  have HGW := hid hgwn
  have HS2 := hid hs2
  have hne : gv ≠ gw ∧ g ≠ gw := by omega
  obtain ⟨hnev, hneg⟩ := hne
  clear hw2 hgwn hs2
  go_loopw [10] (fun i wr => PSched32 b 0 16 gw w2 i wr) (fun i _ => 16 - (intOf i).toNat)
  case atStart => exact ⟨0, rfl, by omega, by omega, hgw, Keeps.refl _ _⟩
  case round =>
    clear hgw
    obtain ⟨t, rfl, _, ht, hws, hkr⟩ := hrel
    have kv : ∀ W : World, Keeps (· = gw) w2 W → W.heap[gv]? = some (.cells kind32 56 (0, 0)) := fun W k => by
      rw [k.block gv (by have := kp2.size; omega) hnev, kp2.block gv hgv (fun h => h)]; exact HV.out
    have hcell0 : ∀ W : World, Keeps (· = gw) w2 W → W.cell? ⟨gv, 0, none⟩ = some (.int .i64 4) ∧ W.cell? ⟨gv, 1, none⟩ = some (.int .i64 64) ∧ W.cell? ⟨gv, 90, none⟩ = some (.func (.func 42) #[] #[]) ∧ W.cell? ⟨gv, 91, none⟩ = some (.func (.func 44) #[] #[]) := fun W k => by
      refine ⟨?_, ?_, ?_, ?_⟩ <;> (rw [cell_of_row W gv _ _ _ _ (kv W k)]; first | exact kind32_c0 | exact kind32_c1 | exact kind32_m1 | exact kind32_m0)
    by_cases h16 : t < 16
    · have h16' : (t : Int) < 16 := by omega
      obtain ⟨wo, rfl⟩ : ∃ wo : World, wo = wr := ⟨_, rfl⟩
      obtain ⟨cv0, _, _, _⟩ := hcell0 wo hkr
      have hcapn : ¬ c = 4 * t := by omega
      have hcap2 : 4 * (t + 1) ≤ c := by omega
      go_wp2_with fail
      go_quiet (fail)
      go_wp2_with fail
      go_loopw [29] (fun i wr => PBytes32 b t gw wo i wr) (fun i _ => 4 - (intOf i).toNat)
      case atStart => exact ⟨0, rfl, by omega, by rw [ppart32_zero b t (by omega)]; exact hws, Keeps.drewN (Keeps.refl _ _) _⟩
      case round =>
        obtain ⟨i, rfl, hi8, hwi, hki⟩ := hrel
        by_cases hlt : i < 4
        · have hlt' : (i : Int) < 4 := by omega
          have hgwo : g < wo.heap.size := by have := hkr.size; have := kp2.size; omega
          have c1 : wr.cell? ⟨g, off + 4 * t + i, none⟩ = some (.int .u8 (b.getD (4 * t + i) 0)) := by
            rw [hki.cell (p := ⟨g, _, none⟩) hgwo hneg, hkr.cell (p := ⟨g, _, none⟩) (by have := kp2.size; show g < _; omega) hneg, kp2.cell (p := ⟨g, _, none⟩) hg (fun h => h), Nat.add_assoc]
            exact HB.out _ (by omega)
          obtain ⟨l0, u0⟩ := wf_u8 (HR.out.mem (j := 4 * t + i) (by omega))
          have c2 : wr.cell? ⟨gw, t, none⟩ = some (.int .u32 (part32 b t i)) := by
            rw [cell_of_row wr gw t _ _ _ hwi, wordsOf_get _ _ _ (by rw [ppart32_len b t i (by omega)]; omega), ppart32_get]
          have f2 : wr.frozen? ⟨gw, t, none⟩ = false := frozen_of_row wr gw t _ _ hwi
          have hx := (show part32 b t (i + 1) = bits .or .u32 (part32 b t i * 256 % 4294967296) (b.getD (4 * t + i) 0) from rfl)
          have HX := hid hx
          clear hx
          generalize b.getD (4 * t + i) 0 = y at c1 HX l0 u0
          generalize part32 b t i = x at c2 HX
          clear hgwo
          go_wp2_with fail
          go_roundw
          case rel =>
            refine ⟨i + 1, rfl, by omega, ?_, Keeps.setCell hki _ _ (fun _ => rfl)⟩
            rw [heap_setCell_same wr gw t _ _ _ hwi, wordsOf_set, ppart32_set b t i _ HX.out.symm]
          case measure => simp [intOf]; omega
        · have h8 : i = 4 := by omega
          subst h8
          go_wp2_with fail
          go_roundw
          case rel =>
            refine ⟨t + 1, rfl, by omega, by omega, ?_, hkr.trans hki⟩
            rw [hwi, ppart32_full b t (fun j hj => wf_u8 (HR.out.mem (j := 4 * t + j) (by omega))) h16]
          case measure => simp [intOf]; omega
    · have h16' : ¬ (t : Int) < 16 := by omega
      have ht16 : t = 16 := by omega
      subst ht16
      obtain ⟨w3, rfl⟩ : ∃ w3 : World, w3 = wr := ⟨_, rfl⟩
      go_wp2_with fail
      go_loopw [9] (fun i wr => PSched32 b 16 64 gw w2 i wr) (fun i _ => 64 - (intOf i).toNat)
      case atStart => exact ⟨16, rfl, by omega, by omega, hws, hkr⟩
      case round =>
        clear hws hkr
        obtain ⟨t, rfl, ht16, ht, hws, hkr⟩ := hrel
        obtain ⟨_, cv1, cm1, cm0⟩ := hcell0 wr hkr
        by_cases hlt : t < 64
        · have h64' : (t : Int) < 64 := by omega
          have h80' : (t : Int) < 80 := by omega
          have h16'' : 16 ≤ (t : Int) := by omega
          have hold : ∀ j, j < t → wr.cell? ⟨gw, j, none⟩ = some (.int .u32 ((sched32 b t).getD j 0)) := fun j hj => by
            rw [cell_of_row wr gw j _ _ _ hws, wordsOf_get _ _ _ (by rw [pcells32_len b t (by omega)]; omega), pcells32_old b t j hj]
          have c2 := hold (t - 2) (by omega)
          have c7 := hold (t - 7) (by omega)
          have c15 := hold (t - 15) (by omega)
          have c16 := hold (t - 16) (by omega)
          clear hold
          have cw : wr.cell? ⟨gw, t, none⟩ = some (.int .u32 ((pcells32 b t).getD t 0)) := by
            rw [cell_of_row wr gw t _ _ _ hws, wordsOf_get _ _ _ (by rw [pcells32_len b t (by omega)]; omega)]
          generalize (pcells32 b t).getD t 0 = x0 at cw
          have fw : wr.frozen? ⟨gw, t, none⟩ = false := frozen_of_row wr gw t _ _ hws
          obtain ⟨y, hy⟩ : ∃ y, y = next32 (sched32 b t) t := ⟨_, rfl⟩
          have HW := hid hy
          have HY := hid hy
          clear hy
          unfold next32 at HW
          generalize (sched32 b t).getD (t - 2) 0 = x2 at c2 HW
          generalize (sched32 b t).getD (t - 7) 0 = x7 at c7 HW
          generalize (sched32 b t).getD (t - 15) 0 = x15 at c15 HW
          generalize (sched32 b t).getD (t - 16) 0 = x16 at c16 HW
          go_wp2_with fail
          refine wp_region_tail 31 (by kernel_rfl) (by kernel_rfl) _ _ rfl rfl ?_
          simp only [List.take_succ_cons, List.take_zero, List.drop_succ_cons, List.drop_zero]
          repeat (first | go_big_quiet_skip | (go_big_quiet_want; go_big_quiet_op; first | go_big_quiet_on | (apply Exists.intro; refine ⟨?_, ?_⟩; (first | with_reducible exact HM1.out _ _ | with_reducible exact HM0.out _ _); go_big_quiet_on)))
          refine wpQuiet_nil ?_
          go_wp2
          go_roundw
          case rel =>
            refine ⟨t + 1, rfl, by omega, by omega, ?_, Keeps.drew (Keeps.setCell hkr _ _ (fun _ => rfl))⟩
            rw [heap_drew, heap_setCell_same wr gw t _ _ _ hws, wordsOf_set, pcells32_set b t _ (by omega) (by rw [if_neg (by omega), ← HY.out, HW.out])]
          case measure => simp [intOf]; omega
        · have heq : t = 64 := by omega
          subst heq
          have hgr := (hkr.block w.heap.size (by have := HS2.out; have := HGW.out; omega) (by have := HGW.out; omega)).trans HGR.out
          have kf : Keeps (fun _ => False) w wr := kp2.step hkr (fun i hi e => by have := HGW.out; omega)
          have HPL := hid (pcells32_len b 64 (by omega))
          have HZS := hid (show Z80.size = 80 by rw [HZ80.out]; kernel_rfl)
          have HCS := hid (show (wordsOf .u32 (pcells32 b 64)).size = 80 by rw [wordsOf_size, HPL.out])
          go_wp2_with (first
            | (refine wpList_load_row rfl _ _ rfl gw rfl _ _ (0, 0) _ hws Try.underlying53 rfl (by rw [HCS.out]; kernel_rfl) ?_)
            | (refine wpList_store_row rfl _ _ _ rfl w.heap.size _ rfl rfl _ _ hgr (by rw [HCS.out]; kernel_rfl) (by rw [HZS.out, HCS.out]) (words_one _ _) ?_))
          refine bodyPost_ret (v := .agg (wordsOf .u32 (pcells32 b 64))) (results_cell_row rfl _ _ w.heap.size 53 (wordsOf .u32 (pcells32 b 64)) (0, 0) _ rfl (setRow_heap _ _ _ _ _ _ hgr) Try.underlying53 rfl (by rw [HCS.out]; kernel_rfl)) rfl ?_
          exact ⟨rfl, Keeps.setRow kf _ _ (fun hi => absurd hi (by omega))⟩

/-- The cells of the schedule's array, t words of it made; and while word t is made, i bytes of it read. -/
def pcells64 (b : List Int) (t : Nat) : List Int := sched64 b t ++ List.replicate (80 - t) 0
def ppart64 (b : List Int) (t i : Nat) : List Int := (sched64 b t ++ [part64 b t i]) ++ List.replicate (80 - (t + 1)) 0
theorem pcells64_set (b : List Int) (t : Nat) (x : Int) (h : t < 80) (hx : x = if t < 16 then word64 b t else next64 (sched64 b t) t) : (pcells64 b t).set t x = pcells64 b (t + 1) := by
  have h1 := set_pad (sched64 b t) 80 x (by rw [sched64_len]; exact h)
  rw [sched64_len] at h1
  rw [pcells64, h1, pcells64, sched64, hx]
theorem pcells64_len (b : List Int) (t : Nat) (h : t ≤ 80) : (pcells64 b t).length = 80 := by simp [pcells64, sched64_len]; omega
theorem pcells64_old (b : List Int) (t i : Nat) (h : i < t) : (pcells64 b t).getD i 0 = (sched64 b t).getD i 0 := by
  simp [pcells64, List.getD_eq_getElem?_getD, List.getElem?_append, sched64_len, h]
theorem ppart64_zero (b : List Int) (t : Nat) (h : t < 80) : ppart64 b t 0 = pcells64 b t := by
  rw [ppart64, pcells64, show 80 - t = (80 - (t + 1)) + 1 by omega, List.replicate_succ, List.append_assoc]; rfl
theorem ppart64_full (b : List Int) (t : Nat) (h : t < 16) : ppart64 b t 8 = pcells64 b (t + 1) := by
  rw [ppart64, pcells64, sched64, if_pos h]; rfl
theorem ppart64_len (b : List Int) (t i : Nat) (h : t < 80) : (ppart64 b t i).length = 80 := by simp [ppart64, sched64_len]; omega
theorem ppart64_get (b : List Int) (t i : Nat) : (ppart64 b t i).getD t 0 = part64 b t i := by
  rw [ppart64, List.append_assoc, List.getD_eq_getElem?_getD, List.getElem?_append_right (by rw [sched64_len]; exact Nat.le_refl _), sched64_len]; simp
theorem ppart64_set (b : List Int) (t i : Nat) (x : Int) (hx : x = part64 b t (i + 1)) : (ppart64 b t i).set t x = ppart64 b t (i + 1) := by
  subst hx
  rw [ppart64, ppart64, List.append_assoc, List.set_append_right _ _ (by rw [sched64_len]; exact Nat.le_refl _), sched64_len]; simp
def PBytes64 (b : List Int) (t gw : Nat) (wo : World) (i : Value) (wr : World) : Prop :=
  ∃ k : Nat, i = .int .i64 k ∧ k ≤ 8 ∧ wr.heap[gw]? = some (.cells (wordsOf .u64 (ppart64 b t k)) 66 (0, 0)) ∧ Keeps (· = gw) wo wr
def PSched64 (b : List Int) (m0 m gw : Nat) (w2 : World) (i : Value) (wr : World) : Prop :=
  ∃ t : Nat, i = .int .i64 t ∧ m0 ≤ t ∧ t ≤ m ∧ wr.heap[gw]? = some (.cells (wordsOf .u64 (pcells64 b t)) 66 (0, 0)) ∧ Keeps (· = gw) w2 wr

end Go.Proofs.Ytomeeeakaejokaa
