/-
  The program's words of a block, walked.
-/
import Derived.Test.YtdeigmjbcbjgeaaGreatDoorYdPrgConst
import Derived.Test.YtdeigmjbcbjgeaaGreatDoorYdRefBlk
namespace Go.Proofs.YtdeigmjbcbjgeaaGreatDoor
open Go.RowKit

theorem zero80w64 : (Tryz.prog.info? 112).map (fun i => (i.zero, i.size)) = some (some (.agg (Array.replicate 80 (.int .u64 0))), 80) := by kernel_rfl
theorem words_one (k : IntKind) (l : List Int) : (wordsOf k l).all (·.oneCell') = true := by
  rw [Array.all_eq_true]
  intro i hi
  simp [wordsOf, Value.oneCell']

/-- The cells of the schedule's array, t words of it made; and while word t is made, i bytes of it read. -/
def pcells64 (b : List Int) (t : Nat) : List Int := sched64 b t ++ List.replicate (80 - t) 0
def ppart64 (b : List Int) (t i : Nat) : List Int := (sched64 b t ++ [part64 b t i]) ++ List.replicate (80 - (t + 1)) 0
theorem pcells64_set (b : List Int) (t : Nat) (x : Int) (h : t < 80) (hx : x = if t < 16 then word64 b t else next64 (sched64 b t) t) : (pcells64 b t).set t x = pcells64 b (t + 1) := by
  have h1 := set_pad (sched64 b t) 80 x (by rw [sched64_len]; exact h)
  rw [sched64_len] at h1
  rw [pcells64, h1, pcells64, sched64, hx]
theorem pcells64_len (b : List Int) (t : Nat) (h : t ≤ 80) : (pcells64 b t).length = 80 := by simp [pcells64, sched64_len]; omega
theorem pcells64_old (b : List Int) (t i : Nat) (h : i < t) : (pcells64 b t).getD i 0 = (sched64 b t).getD i 0 := by
  simp [pcells64, List.getD_eq_getElem?_getD, List.getElem?_append, sched64_len, h]
theorem ppart64_zero (b : List Int) (t : Nat) (h : t < 80) : ppart64 b t 0 = pcells64 b t := by
  rw [ppart64, pcells64, show 80 - t = (80 - (t + 1)) + 1 by omega, List.replicate_succ, List.append_assoc]; rfl
theorem ppart64_full (b : List Int) (t : Nat) (h : t < 16) : ppart64 b t 8 = pcells64 b (t + 1) := by
  rw [ppart64, pcells64, sched64, if_pos h]; rfl
theorem ppart64_len (b : List Int) (t i : Nat) (h : t < 80) : (ppart64 b t i).length = 80 := by simp [ppart64, sched64_len]; omega
theorem ppart64_get (b : List Int) (t i : Nat) : (ppart64 b t i).getD t 0 = part64 b t i := by
  rw [ppart64, List.append_assoc, List.getD_eq_getElem?_getD, List.getElem?_append_right (by rw [sched64_len]; exact Nat.le_refl _), sched64_len]; simp
theorem ppart64_set (b : List Int) (t i : Nat) (x : Int) (hx : x = part64 b t (i + 1)) : (ppart64 b t i).set t x = ppart64 b t (i + 1) := by
  subst hx
  rw [ppart64, ppart64, List.append_assoc, List.set_append_right _ _ (by rw [sched64_len]; exact Nat.le_refl _), sched64_len]; simp
def PBytes64 (b : List Int) (t gw : Nat) (wo : World) (i : Value) (wr : World) : Prop :=
  ∃ k : Nat, i = .int .i64 k ∧ k ≤ 8 ∧ wr.heap[gw]? = some (.cells (wordsOf .u64 (ppart64 b t k)) 112 (0, 0)) ∧ Keeps (· = gw) wo wr
def PSched64 (b : List Int) (m0 m gw : Nat) (w2 : World) (i : Value) (wr : World) : Prop :=
  ∃ t : Nat, i = .int .i64 t ∧ m0 ≤ t ∧ t ≤ m ∧ wr.heap[gw]? = some (.cells (wordsOf .u64 (pcells64 b t)) 112 (0, 0)) ∧ Keeps (· = gw) w2 wr

set_option maxHeartbeats 4000000 in
set_option maxRecDepth 100000 in
theorem words64_any (gv : Nat) (b : List Int) (a : Option Addr) (c : Nat) (w : World) (hv : w.heap[gv]? = some (.cells kind64 128 (0, 0))) (hb : b.length = 128) (hc : 128 ≤ c) (hr : RowAt (fun _ => True) .u8 w a b) :
    Calls Tryz.prog 138 #[.pointer (some ⟨gv, 0, none⟩), .slice a 128 c] w fun e w' => e = .returned (.agg (wordsOf .u64 (pcells64 b 80))) ∧ Keeps (fun _ => False) w w' := by
  obtain ⟨hz80, _⟩ := zero_of_info zero80w64
  have HZ80 := hid (show Array.replicate 80 (Value.int .u64 0) = wordsOf .u64 (pcells64 b 0) from rfl)
  generalize Array.replicate 80 (Value.int .u64 0) = Z80 at hz80 HZ80
  have HR := hid hr
  have hgv : gv < w.heap.size := (Array.getElem?_eq_some_iff.1 hv).1
  have HV := hid hv
  obtain ⟨g, off, rfl, hg, hbc⟩ : ∃ g off, a = some ⟨g, off, none⟩ ∧ g < w.heap.size ∧ ∀ j, j < b.length → w.cell? ⟨g, off + j, none⟩ = some (.int .u8 (b.getD j 0)) := by
    rcases hr.2.2 with h0 | ⟨g, off, h1, _, h2, h3⟩
    · rw [h0] at hb; simp at hb
    · exact ⟨g, off, h1, h2, h3⟩
  have HB := hid hbc
  clear hbc hv hr
  have HM1 := hid kind512f1_any
  have HM0 := hid kind512f2_any
  go_enter Tryz.func138, Tryz.ntmps138
  go_wp2_with fail
  obtain ⟨gw, hgwn⟩ : ∃ gw, gw = w.heap.size + 1 := ⟨_, rfl⟩
  obtain ⟨w2, hw2⟩ : ∃ w2, w2 = (w.alloc (Obj.cells Z80 112)).alloc (Obj.cells Z80 112) := ⟨_, rfl⟩
  rw [← hw2, ← hgwn]
  have HGR := hid (show w2.heap[w.heap.size]? = some (.cells Z80 112 (0, 0)) by rw [hw2]; exact heap_alloc2_old w _ _)
  have hgw : w2.heap[gw]? = some (.cells (wordsOf .u64 (pcells64 b 0)) 112 (0, 0)) := by
    rw [hw2, hgwn, ← HZ80.out]; exact heap_alloc2_new w _ _
  have kp2 : Keeps (fun _ => False) w w2 := by rw [hw2]; exact ((Keeps.refl _ w).alloc _).alloc _
  have hs2 : w2.heap.size = gw + 1 := by rw [hw2, hgwn]; simp
  have HGW := hid hgwn
  have HS2 := hid hs2
  have hne : gv ≠ gw ∧ g ≠ gw := by omega
  obtain ⟨hnev, hneg⟩ := hne
  clear hw2 hgwn hs2
  go_loopw [10] (fun i wr => PSched64 b 0 16 gw w2 i wr) (fun i _ => 16 - (intOf i).toNat)
  case atStart => exact ⟨0, rfl, by omega, by omega, hgw, Keeps.refl _ _⟩
  case round =>
    clear hgw
    obtain ⟨t, rfl, _, ht, hws, hkr⟩ := hrel
    have kv : ∀ W : World, Keeps (· = gw) w2 W → W.heap[gv]? = some (.cells kind64 128 (0, 0)) := fun W k => by
      rw [k.block gv (by have := kp2.size; omega) hnev, kp2.block gv hgv (fun h => h)]; exact HV.out
    have hcell0 : ∀ W : World, Keeps (· = gw) w2 W → W.cell? ⟨gv, 0, none⟩ = some (.int .i64 8) ∧ W.cell? ⟨gv, 1, none⟩ = some (.int .i64 80) ∧ W.cell? ⟨gv, 90, none⟩ = some (.func (.func 124) #[] #[]) ∧ W.cell? ⟨gv, 91, none⟩ = some (.func (.func 126) #[] #[]) := fun W k => by
      refine ⟨?_, ?_, ?_, ?_⟩ <;> (rw [cell_of_row W gv _ _ _ _ (kv W k)]; first | exact kind64_c0 | exact kind64_c1 | exact kind64_m1 | exact kind64_m0)
    by_cases h16 : t < 16
    · have h16' : (t : Int) < 16 := by omega
      obtain ⟨wo, rfl⟩ : ∃ wo : World, wo = wr := ⟨_, rfl⟩
      obtain ⟨cv0, _, _, _⟩ := hcell0 wo hkr
      have hcapn : ¬ c = 8 * t := by omega
      have hcap2 : 8 * (t + 1) ≤ c := by omega
      go_wp2_with fail
      go_quiet (fail)
      go_wp2_with fail
      go_loopw [29] (fun i wr => PBytes64 b t gw wo i wr) (fun i _ => 8 - (intOf i).toNat)
      case atStart => exact ⟨0, rfl, by omega, by rw [ppart64_zero b t (by omega)]; exact hws, Keeps.drewN (Keeps.refl _ _) _⟩
      case round =>
        obtain ⟨i, rfl, hi8, hwi, hki⟩ := hrel
        by_cases hlt : i < 8
        · have hlt' : (i : Int) < 8 := by omega
          have hgwo : g < wo.heap.size := by have := hkr.size; have := kp2.size; omega
          have c1 : wr.cell? ⟨g, off + 8 * t + i, none⟩ = some (.int .u8 (b.getD (8 * t + i) 0)) := by
            rw [hki.cell (p := ⟨g, _, none⟩) hgwo hneg, hkr.cell (p := ⟨g, _, none⟩) (by have := kp2.size; show g < _; omega) hneg, kp2.cell (p := ⟨g, _, none⟩) hg (fun h => h), Nat.add_assoc]
            exact HB.out _ (by omega)
          obtain ⟨l0, u0⟩ := wf_u8 (HR.out.mem (j := 8 * t + i) (by omega))
          have c2 : wr.cell? ⟨gw, t, none⟩ = some (.int .u64 (part64 b t i)) := by
            rw [cell_of_row wr gw t _ _ _ hwi, wordsOf_get _ _ _ (by rw [ppart64_len b t i (by omega)]; omega), ppart64_get]
          have f2 : wr.frozen? ⟨gw, t, none⟩ = false := frozen_of_row wr gw t _ _ hwi
          have hx := (show part64 b t (i + 1) = bits .or .u64 (part64 b t i * 256 % 18446744073709551616) (b.getD (8 * t + i) 0) from rfl)
          have HX := hid hx
          clear hx
          generalize b.getD (8 * t + i) 0 = y at c1 HX l0 u0
          generalize part64 b t i = x at c2 HX
          clear hgwo
          go_wp2_with fail
          go_roundw
          case rel =>
            refine ⟨i + 1, rfl, by omega, ?_, Keeps.setCell hki _ _ (fun _ => rfl)⟩
            rw [heap_setCell_same wr gw t _ _ _ hwi, wordsOf_set, IntKind.wrap_u64, ppart64_set b t i _ HX.out.symm]
          case measure => simp [intOf]; omega
        · have h8 : i = 8 := by omega
          subst h8
          go_wp2_with fail
          go_roundw
          case rel =>
            refine ⟨t + 1, rfl, by omega, by omega, ?_, hkr.trans hki⟩
            rw [hwi, ppart64_full b t h16]
          case measure => simp [intOf]; omega
    · have h16' : ¬ (t : Int) < 16 := by omega
      have ht16 : t = 16 := by omega
      subst ht16
      obtain ⟨w3, rfl⟩ : ∃ w3 : World, w3 = wr := ⟨_, rfl⟩
      go_wp2_with fail
      go_loopw [9] (fun i wr => PSched64 b 16 80 gw w2 i wr) (fun i _ => 80 - (intOf i).toNat)
      case atStart => exact ⟨16, rfl, by omega, by omega, hws, hkr⟩
      case round =>
        clear hws hkr
        obtain ⟨t, rfl, ht16, ht, hws, hkr⟩ := hrel
        obtain ⟨_, cv1, cm1, cm0⟩ := hcell0 wr hkr
        by_cases hlt : t < 80
        · have h64' : (t : Int) < 80 := by omega
          have h80' : (t : Int) < 80 := by omega
          have h16'' : 16 ≤ (t : Int) := by omega
          have hold : ∀ j, j < t → wr.cell? ⟨gw, j, none⟩ = some (.int .u64 ((sched64 b t).getD j 0)) := fun j hj => by
            rw [cell_of_row wr gw j _ _ _ hws, wordsOf_get _ _ _ (by rw [pcells64_len b t (by omega)]; omega), pcells64_old b t j hj]
          have c2 := hold (t - 2) (by omega)
          have c7 := hold (t - 7) (by omega)
          have c15 := hold (t - 15) (by omega)
          have c16 := hold (t - 16) (by omega)
          clear hold
          have cw : wr.cell? ⟨gw, t, none⟩ = some (.int .u64 ((pcells64 b t).getD t 0)) := by
            rw [cell_of_row wr gw t _ _ _ hws, wordsOf_get _ _ _ (by rw [pcells64_len b t (by omega)]; omega)]
          generalize (pcells64 b t).getD t 0 = x0 at cw
          have fw : wr.frozen? ⟨gw, t, none⟩ = false := frozen_of_row wr gw t _ _ hws
          obtain ⟨y, hy⟩ : ∃ y, y = next64 (sched64 b t) t := ⟨_, rfl⟩
          have HW := hid hy
          have HY := hid hy
          clear hy
          unfold next64 at HW
          generalize (sched64 b t).getD (t - 2) 0 = x2 at c2 HW
          generalize (sched64 b t).getD (t - 7) 0 = x7 at c7 HW
          generalize (sched64 b t).getD (t - 15) 0 = x15 at c15 HW
          generalize (sched64 b t).getD (t - 16) 0 = x16 at c16 HW
          go_wp2_with fail
          refine wp_region_tail 31 (by kernel_rfl) (by kernel_rfl) _ _ rfl rfl ?_
          simp only [List.take_succ_cons, List.take_zero, List.drop_succ_cons, List.drop_zero]
          repeat (first | go_big_quiet_skip | (go_big_quiet_want; go_big_quiet_op; first | go_big_quiet_on | (apply Exists.intro; refine ⟨?_, ?_⟩; (first | with_reducible exact HM1.out _ _ | with_reducible exact HM0.out _ _); go_big_quiet_on)))
          refine wpQuiet_nil ?_
          go_wp2
          go_roundw
          case rel =>
            refine ⟨t + 1, rfl, by omega, by omega, ?_, Keeps.drew (Keeps.setCell hkr _ _ (fun _ => rfl))⟩
            rw [heap_drew, heap_setCell_same wr gw t _ _ _ hws, wordsOf_set, pcells64_set b t _ (by omega) (by rw [if_neg (by omega), ← HY.out, HW.out]; simp only [IntKind.wrap_u64, Int.emod_add_emod])]
          case measure => simp [intOf]; omega
        · have heq : t = 80 := by omega
          subst heq
          have hgr := (hkr.block w.heap.size (by have := HS2.out; have := HGW.out; omega) (by have := HGW.out; omega)).trans HGR.out
          have kf : Keeps (fun _ => False) w wr := kp2.step hkr (fun i hi e => by have := HGW.out; omega)
          have HPL := hid (pcells64_len b 80 (by omega))
          have HZS := hid (show Z80.size = 80 by rw [HZ80.out]; kernel_rfl)
          have HCS := hid (show (wordsOf .u64 (pcells64 b 80)).size = 80 by rw [wordsOf_size, HPL.out])
          go_wp2_with (first
            | (refine wpList_load_row rfl _ _ rfl gw rfl _ _ (0, 0) _ hws Tryz.underlying112 rfl (by rw [HCS.out]; kernel_rfl) ?_)
            | (refine wpList_store_row rfl _ _ _ rfl w.heap.size _ rfl rfl _ _ hgr (by rw [HCS.out]; kernel_rfl) (by rw [HZS.out, HCS.out]) (words_one _ _) ?_))
          refine bodyPost_ret (v := .agg (wordsOf .u64 (pcells64 b 80))) (results_cell_row rfl _ _ w.heap.size 112 (wordsOf .u64 (pcells64 b 80)) (0, 0) _ rfl (setRow_heap _ _ _ _ _ _ hgr) Tryz.underlying112 rfl (by rw [HCS.out]; kernel_rfl)) rfl ?_
          exact ⟨rfl, Keeps.setRow kf _ _ (fun hi => absurd hi (by omega))⟩
end Go.Proofs.YtdeigmjbcbjgeaaGreatDoor
/-
  The program's rounds for a block, walked.
-/
namespace Go.Proofs.YtdeigmjbcbjgeaaGreatDoor
open Go.RowKit

theorem keys64_get : ∀ t, t < 80 → keys64.getD t 0 = refKs.getD t 0 := fun _ _ => rfl

def PRounds64 (h : Wd8) (b : List Int) (w3 : World) (va vb vc vd ve vf vg vh i : Value) (wr : World) : Prop :=
  ∃ t : Nat, i = .int .i64 t ∧ t ≤ 80 ∧ va = .int .u64 (state64 h b t).a ∧ vb = .int .u64 (state64 h b t).b ∧ vc = .int .u64 (state64 h b t).c ∧ vd = .int .u64 (state64 h b t).d ∧ ve = .int .u64 (state64 h b t).e ∧ vf = .int .u64 (state64 h b t).f ∧ vg = .int .u64 (state64 h b t).g ∧ vh = .int .u64 (state64 h b t).h ∧ Keeps (fun _ => False) w3 wr

set_option maxHeartbeats 4000000 in
set_option maxRecDepth 100000 in
theorem afterBlock64_any (gv : Nat) (h : Wd8) (b : List Int) (a : Option Addr) (c : Nat) (w : World) (hv : w.heap[gv]? = some (.cells kind64 128 (0, 0))) (hb : b.length = 128) (hc : 128 ≤ c) (hr : RowAt (fun _ => True) .u8 w a b) :
    Calls Tryz.prog 131 #[.pointer (some ⟨gv, 0, none⟩), .agg (h.cells .u64), .slice a 128 c] w (Blk512Post h b w) := by
  rw [Wd8.cells_def]
  obtain ⟨hz80, _⟩ := zero_of_info zero80w64
  have HZ80 := hid (show Array.replicate 80 (Value.int .u64 0) = wordsOf .u64 (pcells64 b 0) from rfl)
  generalize Array.replicate 80 (Value.int .u64 0) = Z80 at hz80 HZ80
  have hgv : gv < w.heap.size := (Array.getElem?_eq_some_iff.1 hv).1
  have HV := hid hv
  have HWD := hid (fun W (k : Keeps (fun _ => False) w W) => words64_any gv b a c W (by rw [k.block gv hgv (fun h => h)]; exact hv) hb hc (hr.keeps k (fun _ _ h => h)))
  have HT1 := hid kind512f3_any
  have HT0 := hid kind512f4_any
  clear hr hv hc hb
  go_enter Tryz.func131, Tryz.ntmps131
  go_wp2_with fail
  refine (HWD.out _ (((Keeps.refl _ w).alloc _).alloc _)).mono ?_
  rintro e w1 ⟨rfl, hk1⟩
  have HPL := hid (pcells64_len b 80 (by omega))
  have HPO := hid (fun t (ht : t < 80) => show (wordsOf .u64 (pcells64 b 80))[t]? = some (.int .u64 ((sched64 b 80).getD t 0)) by
    rw [wordsOf_get _ _ _ (by rw [HPL.out]; omega), pcells64_old b 80 t ht])
  have HZS := hid (show Z80.size = 80 by rw [HZ80.out]; kernel_rfl)
  have HCS := hid (show (wordsOf .u64 (pcells64 b 80)).size = 80 by rw [wordsOf_size, HPL.out])
  have HON := hid (words_one .u64 (pcells64 b 80))
  generalize wordsOf .u64 (pcells64 b 80) = C at *
  go_wp2_with (refine wpList_store_row rfl _ _ _ rfl w1.heap.size _ rfl rfl _ Z80 (heap_alloc_last _ _) (by rw [HCS.out]; kernel_rfl) (by rw [HZS.out, HCS.out]) HON.out ?_)
  rw [World.setRow_alloc_new]
  obtain ⟨w3, hw3⟩ : ∃ w3, w3 = w1.alloc (Obj.cells C 112) := ⟨_, rfl⟩
  obtain ⟨gs, hgsn⟩ : ∃ gs, gs = w.heap.size := ⟨_, rfl⟩
  obtain ⟨gw, hgwn⟩ : ∃ gw, gw = w1.heap.size := ⟨_, rfl⟩
  rw [← hw3, ← hgsn, ← hgwn]
  have hs1 : w.heap.size + 2 ≤ w1.heap.size := by have := hk1.size; simpa using this
  have hgs : w3.heap[gs]? = some (.cells (h.cells .u64) 86 (0, 0)) := by
    rw [hw3, Below.heap_alloc _ _ _ (by omega), hgsn, hk1.block _ (by rw [World.size_alloc, World.size_alloc]; omega) (fun h => h)]; exact heap_alloc2_old w _ _
  have hgr : w3.heap[gs + 1]? = some (.cells #[.int .u64 0, .int .u64 0, .int .u64 0, .int .u64 0, .int .u64 0, .int .u64 0, .int .u64 0, .int .u64 0] 86 (0, 0)) := by
    rw [hw3, Below.heap_alloc _ _ _ (by omega), hgsn, hk1.block _ (by rw [World.size_alloc, World.size_alloc]; omega) (fun h => h)]; exact heap_alloc2_new w _ _
  have hgw : w3.heap[gw]? = some (.cells C 112 (0, 0)) := by rw [hw3, hgwn]; exact heap_alloc_last _ _
  have kp3 : Keeps (fun _ => False) w w3 := by rw [hw3]; exact ((((Keeps.refl _ w).alloc _).alloc _).trans hk1).alloc _
  have hgv3 : w3.heap[gv]? = some (.cells kind64 128 (0, 0)) := by rw [kp3.block gv hgv (fun h => h)]; exact HV.out
  have o : gv < w3.heap.size ∧ gs + 1 < w3.heap.size ∧ gw < w3.heap.size := by rw [hw3, World.size_alloc]; omega
  obtain ⟨o1, o2, o3⟩ := o
  have ho : w.heap.size ≤ gs := by omega
  have HW3 := hid hw3
  clear hw3 hgsn hgwn hs1 hk1
  have c0 : w3.cell? ⟨gs, 0, none⟩ = some (.int .u64 h.a) := by rw [cell_of_row w3 gs 0 _ _ _ hgs]; rfl
  have c1 : w3.cell? ⟨gs, 1, none⟩ = some (.int .u64 h.b) := by rw [cell_of_row w3 gs 1 _ _ _ hgs]; rfl
  have c2 : w3.cell? ⟨gs, 2, none⟩ = some (.int .u64 h.c) := by rw [cell_of_row w3 gs 2 _ _ _ hgs]; rfl
  have c3 : w3.cell? ⟨gs, 3, none⟩ = some (.int .u64 h.d) := by rw [cell_of_row w3 gs 3 _ _ _ hgs]; rfl
  have c4 : w3.cell? ⟨gs, 4, none⟩ = some (.int .u64 h.e) := by rw [cell_of_row w3 gs 4 _ _ _ hgs]; rfl
  have c5 : w3.cell? ⟨gs, 5, none⟩ = some (.int .u64 h.f) := by rw [cell_of_row w3 gs 5 _ _ _ hgs]; rfl
  have c6 : w3.cell? ⟨gs, 6, none⟩ = some (.int .u64 h.g) := by rw [cell_of_row w3 gs 6 _ _ _ hgs]; rfl
  have c7 : w3.cell? ⟨gs, 7, none⟩ = some (.int .u64 h.h) := by rw [cell_of_row w3 gs 7 _ _ _ hgs]; rfl
  have cv1 : w3.cell? ⟨gv, 1, none⟩ = some (.int .i64 80) := by rw [cell_of_row w3 gv 1 _ _ _ hgv3]; exact kind64_c1
  have HGS := hid hgs; have HGR := hid hgr; have HGW := hid hgw; have HGV := hid hgv3
  clear hgs hgr hgw hgv3
  go_wp2_with fail
  go_quiet (fail)
  go_wp2_with fail
  go_quiet (fail)
  go_wp2_with fail
  clear c0 c1 c2 c3 c4 c5 c6 c7
  go_loopw [8, 9, 10, 11, 12, 13, 14, 15, 48] (fun va vb vc vd ve vf vg vh i wr => PRounds64 h b w3 va vb vc vd ve vf vg vh i wr) (fun _ _ _ _ _ _ _ _ i _ => 80 - (intOf i).toNat)
  case atStart => exact ⟨0, rfl, by omega, rfl, rfl, rfl, rfl, rfl, rfl, rfl, rfl, Keeps.drewN (Keeps.drewN (Keeps.refl _ _) _) _⟩
  case round =>
    obtain ⟨t, rfl, ht, rfl, rfl, rfl, rfl, rfl, rfl, rfl, rfl, hkr⟩ := hrel
    by_cases hlt : t < 80
    · have hlt' : (t : Int) < 80 := by omega
      have hlt80 : (t : Int) < 80 := by omega
      obtain ⟨s, hs⟩ : ∃ s, s = state64 h b t := ⟨_, rfl⟩
      have HS := hid hs
      rw [← hs]
      clear hs
      have ck : wr.cell? ⟨gv, 10 + t, none⟩ = some (.int .u64 (keys64.getD t 0)) := by
        rw [cell_of_row wr gv (10 + t) _ _ _ ((hkr.block gv o1 (fun h => h)).trans HGV.out)]; exact kind64_key t hlt
      have cw : wr.cell? ⟨gw, t, none⟩ = some (.int .u64 ((sched64 b 80).getD t 0)) := by
        rw [cell_of_row wr gw t _ _ _ ((hkr.block gw o3 (fun h => h)).trans HGW.out)]; exact HPO.out t hlt
      have ct1 : wr.cell? ⟨gv, 92, none⟩ = some (.func (.func 127) #[] #[]) := by
        rw [cell_of_row wr gv 92 _ _ _ ((hkr.block gv o1 (fun h => h)).trans HGV.out)]; exact kind64_t1
      have ct0 : wr.cell? ⟨gv, 93, none⟩ = some (.func (.func 128) #[] #[]) := by
        rw [cell_of_row wr gv 93 _ _ _ ((hkr.block gv o1 (fun h => h)).trans HGV.out)]; exact kind64_t0
      obtain ⟨kt, hkt⟩ : ∃ kt, kt = keys64.getD t 0 := ⟨_, rfl⟩
      obtain ⟨wt, hwt⟩ : ∃ wt, wt = (sched64 b 80).getD t 0 := ⟨_, rfl⟩
      have HKT := hid (hkt.trans (keys64_get t hlt)); have HWT := hid hwt
      rw [← hkt] at ck; rw [← hwt] at cw
      clear hkt hwt
      go_wp2_with fail
      refine wp_region_tail 23 (by kernel_rfl) (by kernel_rfl) _ _ rfl rfl ?_
      simp only [List.take_succ_cons, List.take_zero, List.drop_succ_cons, List.drop_zero]
      repeat (first | go_big_quiet_skip | (go_big_quiet_want; go_big_quiet_op; first | go_big_quiet_on | (apply Exists.intro; refine ⟨?_, ?_⟩; (with_reducible exact HT1.out _ _); go_big_quiet_on)))
      refine wpQuiet_nil ?_
      go_upto_region 7 with (fail)
      obtain ⟨T1, hT1⟩ : ∃ T1 : Int, T1 = IntKind.u64.wrap (IntKind.u64.wrap (IntKind.u64.wrap (IntKind.u64.wrap (s.h + bits BinOp.xor IntKind.u64 (bits BinOp.xor IntKind.u64 (ror64 s.e 14) (ror64 s.e 18)) (ror64 s.e 41)) + bits BinOp.xor IntKind.u64 (bits BinOp.and IntKind.u64 s.e s.f) (bits BinOp.and IntKind.u64 (bits BinOp.xor IntKind.u64 (if IntKind.u64.signed = true then -1 else IntKind.u64.max) s.e) s.g)) + kt) + wt) := ⟨_, rfl⟩
      rw [← hT1]
      have HT := hid hT1
      clear hT1
      obtain ⟨W, hW⟩ : ∃ W, W = wr.drew := ⟨_, rfl⟩
      have cW : W.cell? ⟨gv, 93, none⟩ = some (.func (.func 128) #[] #[]) := by rw [hW]; exact ct0
      have hkW : Keeps (fun _ => False) w3 W := by rw [hW]; exact hkr.drew
      rw [← hW]
      clear hW ct0 ct1 ck cw hkr
      repeat (first | go_values | go_skip | go_guarded | go_step | go_upon | go_back)
      refine (HT0.out _ _).mono ?_
      rintro e w' ⟨rfl, rfl⟩
      go_wp2_with fail
      go_roundw
      case rel =>
        have hst : state64 h b (t + 1) = step64 s (refKs.getD t 0) wt := by rw [state64, ← HS.out, ← HWT.out]
        have e1 : T1 = sumE64 s (refKs.getD t 0) wt % 18446744073709551616 := by
          rw [HT.out, HKT.out]
          unfold sumE64
          simp only [show IntKind.u64.signed = false from rfl, Bool.false_eq_true, if_false, IntKind.wrap_u64, Int.emod_add_emod]
        refine ⟨t + 1, rfl, by omega, ?_, ?_, ?_, ?_, ?_, ?_, ?_, ?_, hkW⟩ <;> rw [hst] <;> first | rfl | refine congrArg (Value.int .u64) ?_
        · show _ = (sumE64 s (refKs.getD t 0) wt + sumA64 s) % 18446744073709551616
          rw [e1]
          unfold sumA64
          simp only [IntKind.wrap_u64, Int.emod_add_emod, Int.add_emod_emod]
        · show _ = (s.d + sumE64 s (refKs.getD t 0) wt) % 18446744073709551616
          rw [e1]
          simp only [IntKind.wrap_u64, Int.add_emod_emod]
      case measure => simp [intOf]; omega
    · have heq : t = 80 := by omega
      subst heq
      obtain ⟨s, hs⟩ : ∃ s, s = state64 h b 80 := ⟨_, rfl⟩
      have HS := hid hs
      rw [← hs]
      clear hs
      have hgsr := (hkr.block gs (by omega) (fun h => h)).trans HGS.out
      have hgr := (hkr.block (gs + 1) o2 (fun h => h)).trans HGR.out
      have c0 : wr.cell? ⟨gs, 0, none⟩ = some (.int .u64 h.a) := by rw [cell_of_row wr gs 0 _ _ _ hgsr]; rfl
      have c1 : wr.cell? ⟨gs, 1, none⟩ = some (.int .u64 h.b) := by rw [cell_of_row wr gs 1 _ _ _ hgsr]; rfl
      have c2 : wr.cell? ⟨gs, 2, none⟩ = some (.int .u64 h.c) := by rw [cell_of_row wr gs 2 _ _ _ hgsr]; rfl
      have c3 : wr.cell? ⟨gs, 3, none⟩ = some (.int .u64 h.d) := by rw [cell_of_row wr gs 3 _ _ _ hgsr]; rfl
      have c4 : wr.cell? ⟨gs, 4, none⟩ = some (.int .u64 h.e) := by rw [cell_of_row wr gs 4 _ _ _ hgsr]; rfl
      have c5 : wr.cell? ⟨gs, 5, none⟩ = some (.int .u64 h.f) := by rw [cell_of_row wr gs 5 _ _ _ hgsr]; rfl
      have c6 : wr.cell? ⟨gs, 6, none⟩ = some (.int .u64 h.g) := by rw [cell_of_row wr gs 6 _ _ _ hgsr]; rfl
      have c7 : wr.cell? ⟨gs, 7, none⟩ = some (.int .u64 h.h) := by rw [cell_of_row wr gs 7 _ _ _ hgsr]; rfl
      have HF := hid (show (block64 h b) = add8 18446744073709551616 h s by rw [block64, HS.out])
      have kf : Keeps (fun _ => False) w wr := kp3.trans hkr
      go_wp2_with (refine wpList_store_row rfl _ _ _ rfl (gs + 1) ((add8 18446744073709551616 h s).cells .u64) rfl rfl _ _ hgr (by kernel_rfl) (by kernel_rfl) (by kernel_rfl) ?_)
      refine bodyPost_ret (v := .agg ((add8 18446744073709551616 h s).cells .u64)) (results_cell_row rfl _ _ (gs + 1) 86 _ (0, 0) _ rfl (setRow_heap _ _ _ _ _ _ hgr) Tryz.underlying86 rfl (by kernel_rfl)) rfl ?_
      exact ⟨by rw [HF.out], Keeps.setRow kf _ _ (fun hi => absurd hi (by omega))⟩
end Go.Proofs.YtdeigmjbcbjgeaaGreatDoor
/-
  What whole blocks make of the program's state, walked.
-/
namespace Go.Proofs.YtdeigmjbcbjgeaaGreatDoor
open Go.RowKit

def lenOf : Value → Nat
  | .slice _ n _ => n
  | _ => 0
theorem RowAt.takeN {F : Nat → Prop} {k : IntKind} {w : World} {a : Option Addr} {l : List Int} (h : RowAt F k w a l) (n : Nat) : RowAt F k w a (l.take n) := by
  obtain ⟨h1, h2, h3⟩ := h
  refine ⟨by rw [List.length_take]; omega, fun x hx => h2 x (List.mem_of_mem_take hx), ?_⟩
  rcases h3 with h3 | ⟨g, off, h4, h5, h6, h7⟩
  · left; rw [h3]; simp
  · refine .inr ⟨g, off, h4, h5, h6, fun j hj => ?_⟩
    rw [List.length_take] at hj
    rw [h7 j (by omega)]
    simp [List.getD_eq_getElem?_getD, show j < n by omega]
theorem RowAt.dropN {F : Nat → Prop} {k : IntKind} {w : World} {g off : Nat} {l : List Int} (h : RowAt F k w (some ⟨g, off, none⟩) l) (n : Nat) : RowAt F k w (some ⟨g, off + n, none⟩) (l.drop n) := by
  obtain ⟨h1, h2, h3⟩ := h
  refine ⟨by rw [List.length_drop]; omega, fun x hx => h2 x (List.mem_of_mem_drop hx), ?_⟩
  rcases h3 with h3 | ⟨g', off', h4, h5, h6, h7⟩
  · left; rw [h3]; simp
  · injection h4 with h4; injection h4 with h4 h4'; subst h4; subst h4'
    refine .inr ⟨g, off + n, rfl, h5, h6, fun j hj => ?_⟩
    rw [List.length_drop] at hj
    rw [Nat.add_assoc, h7 (n + j) (by omega)]
    simp [List.getD_eq_getElem?_getD, List.getElem?_drop]

/-- What the first n blocks of b make of the state h. -/
def pchain64 (h : Wd8) (b : List Int) : Nat → Wd8
  | 0 => h
  | n + 1 => block64 (pchain64 h b n) ((b.drop (128 * n)).take 128)
def PAfter64 (h : Wd8) (b : List Int) (c gs : Nat) (w w2 : World) (x : Value) (wr : World) : Prop :=
  ∃ (n : Nat) (a : Option Addr), x = .slice a (b.length - 128 * n) (c - 128 * n) ∧ 128 * n ≤ b.length ∧ RowAt (fun _ => True) .u8 w a (b.drop (128 * n)) ∧
    wr.heap[gs]? = some (.cells ((pchain64 h b n).cells .u64) 86 (0, 0)) ∧ Keeps (· = gs) w2 wr

set_option maxHeartbeats 4000000 in
set_option maxRecDepth 100000 in
theorem after64_any (gv : Nat) (h : Wd8) (b : List Int) (a : Option Addr) (c : Nat) (w : World) (hv : w.heap[gv]? = some (.cells kind64 128 (0, 0))) (hc : b.length ≤ c) (hr : RowAt (fun _ => True) .u8 w a b) :
    Calls Tryz.prog 122 #[.pointer (some ⟨gv, 0, none⟩), .agg (h.cells .u64), .slice a b.length c] w fun e w' => e = .returned (.agg ((pchain64 h b (b.length / 128)).cells .u64)) ∧ Keeps (fun _ => False) w w' := by
  rw [Wd8.cells_def]
  have hgv : gv < w.heap.size := (Array.getElem?_eq_some_iff.1 hv).1
  have HV := hid hv
  have HBL := hid (fun (W : World) (k : Keeps (fun _ => False) w W) (s : Wd8) (b' : List Int) (a' : Option Addr) (c' : Nat) (h1 : b'.length = 128) (h2 : 128 ≤ c') (h3 : RowAt (fun _ => True) .u8 w a' b') =>
    afterBlock64_any gv s b' a' c' W (by rw [k.block gv hgv (fun h => h)]; exact hv) h1 h2 (h3.keeps k (fun _ _ h => h)))
  obtain ⟨m, hm⟩ : ∃ m, m = b.length := ⟨_, rfl⟩
  rw [← hm] at hc ⊢
  have HM := hid hm
  have hm0 : m ≤ 9223372036854775807 := by rw [hm]; exact hr.1
  have HR := hid hr
  clear hr hv hm
  have hv0 : w.cell? ⟨gv, 0, none⟩ = some (.int .i64 8) := by rw [cell_of_row w gv 0 _ _ _ HV.out]; exact kind64_c0
  go_enter Tryz.func122, Tryz.ntmps122
  obtain ⟨gs, hgsn⟩ : ∃ gs, gs = w.heap.size := ⟨_, rfl⟩
  obtain ⟨w2, hw2⟩ : ∃ w2, w2 = (w.alloc (Obj.cells #[.int .u64 h.a, .int .u64 h.b, .int .u64 h.c, .int .u64 h.d, .int .u64 h.e, .int .u64 h.f, .int .u64 h.g, .int .u64 h.h] 86)).alloc (Obj.cells #[.int .u64 0, .int .u64 0, .int .u64 0, .int .u64 0, .int .u64 0, .int .u64 0, .int .u64 0, .int .u64 0] 86) := ⟨_, rfl⟩
  have hgs : w2.heap[gs]? = some (.cells ((pchain64 h b 0).cells .u64) 86 (0, 0)) := by rw [hw2, hgsn]; exact heap_alloc2_old w _ _
  have hgr : w2.heap[gs + 1]? = some (.cells #[.int .u64 0, .int .u64 0, .int .u64 0, .int .u64 0, .int .u64 0, .int .u64 0, .int .u64 0, .int .u64 0] 86 (0, 0)) := by rw [hw2, hgsn]; exact heap_alloc2_new w _ _
  have kp2 : Keeps (fun _ => False) w w2 := by rw [hw2]; exact ((Keeps.refl _ w).alloc _).alloc _
  have hs2 : w2.heap.size = gs + 2 := by rw [hw2, hgsn]; simp
  have hv2 : w2.cell? ⟨gv, 0, none⟩ = some (.int .i64 8) := by rw [kp2.cell (p := ⟨gv, 0, none⟩) hgv (fun h => h)]; exact hv0
  have HW2 := hid hw2
  have HGSN := hid hgsn
  clear hgsn hw2
  go_upto_region 1 with (fail)
  rw [← HGSN.out, ← HW2.out]
  clear hv0
  have HGR := hid hgr
  have HS2 := hid hs2
  clear hgr hs2
  go_wp2_with fail
  go_loopw [2] (fun x wr => PAfter64 h b c gs w w2 x wr) (fun x _ => lenOf x)
  case atStart => exact ⟨0, a, by rw [← HM.out]; rfl, by omega, HR.out, hgs, Keeps.refl _ _⟩
  case round =>
    clear hgs
    obtain ⟨n, a', rfl, hn, hra, hst, hkr⟩ := hrel
    rw [← HM.out] at hn ⊢
    obtain ⟨s, hs⟩ : ∃ s, s = pchain64 h b n := ⟨_, rfl⟩
    have HS := hid hs
    rw [← hs] at hst
    clear hs
    obtain ⟨q, hq⟩ : ∃ q, q = m - 128 * n := ⟨_, rfl⟩
    obtain ⟨d, hd⟩ : ∃ d, d = c - 128 * n := ⟨_, rfl⟩
    rw [← hq, ← hd]
    have hqd : q ≤ d := by omega
    have hq9 : q ≤ 9223372036854775807 := by omega
    have HQ := hid hq
    have HD := hid hd
    have hne : w2.heap.size = gs + 2 := HS2.out
    have hneg : gv ≠ gs := by have := HGSN.out; omega
    have kf : Keeps (fun _ => False) w wr := kp2.step hkr (fun i hi e => by have := HGSN.out; omega)
    clear hq hd hne
    by_cases hlt : 128 ≤ q
    · have hlt' : (128 : Int) ≤ (q : Int) := by omega
      have hdl : (b.drop (128 * n)).length = q := by rw [List.length_drop, ← HM.out, HQ.out]
      obtain ⟨g, off, rfl⟩ : ∃ g off, a' = some ⟨g, off, none⟩ := by
        rcases hra.2.2 with h0 | ⟨g, off, h1, _⟩
        · rw [h0] at hdl; simp at hdl; omega
        · exact ⟨g, off, h1⟩
      have c0 : wr.cell? ⟨gs, 0, none⟩ = some (.int .u64 s.a) := by rw [cell_of_row wr gs 0 _ _ _ hst]; rfl
      have c1 : wr.cell? ⟨gs, 1, none⟩ = some (.int .u64 s.b) := by rw [cell_of_row wr gs 1 _ _ _ hst]; rfl
      have c2 : wr.cell? ⟨gs, 2, none⟩ = some (.int .u64 s.c) := by rw [cell_of_row wr gs 2 _ _ _ hst]; rfl
      have c3 : wr.cell? ⟨gs, 3, none⟩ = some (.int .u64 s.d) := by rw [cell_of_row wr gs 3 _ _ _ hst]; rfl
      have c4 : wr.cell? ⟨gs, 4, none⟩ = some (.int .u64 s.e) := by rw [cell_of_row wr gs 4 _ _ _ hst]; rfl
      have c5 : wr.cell? ⟨gs, 5, none⟩ = some (.int .u64 s.f) := by rw [cell_of_row wr gs 5 _ _ _ hst]; rfl
      have c6 : wr.cell? ⟨gs, 6, none⟩ = some (.int .u64 s.g) := by rw [cell_of_row wr gs 6 _ _ _ hst]; rfl
      have c7 : wr.cell? ⟨gs, 7, none⟩ = some (.int .u64 s.h) := by rw [cell_of_row wr gs 7 _ _ _ hst]; rfl
      have HCALL := hid (HBL.out wr.drew kf.drew s ((b.drop (128 * n)).take 128) (some ⟨g, off, none⟩) d (by rw [List.length_take, hdl]; omega) (by omega) (hra.takeN 128))
      rw [Wd8.cells_def] at HCALL
      have hdz : ∀ b', b' = b.drop (128 * (n + 1)) → RowAt (fun _ => True) .u8 w (if d = 128 then some ⟨g, off, none⟩ else some ⟨g, off + 128, none⟩) b' := by
        intro b' hb'
        subst hb'
        rw [show 128 * (n + 1) = 128 * n + 128 by omega, ← List.drop_drop]
        by_cases hz : d = 128
        · rw [if_pos hz, List.drop_eq_nil_of_le (by omega)]
          exact ⟨by simp, by simp, .inl rfl⟩
        · rw [if_neg hz]; exact hra.dropN 128
      have HDZ := hid hdz
      clear hdz hra hdl
      go_wp2_with fail
      refine wp_region_tail 5 (by kernel_rfl) (by kernel_rfl) _ _ rfl rfl ?_
      simp only [List.take_succ_cons, List.take_zero, List.drop_succ_cons, List.drop_zero]
      repeat (first | go_big_quiet_skip | (go_big_quiet_want; go_big_quiet_op; first | go_big_quiet_on | (apply Exists.intro; refine ⟨?_, ?_⟩; (fail); go_big_quiet_on)))
      refine wpQuiet_nil ?_
      repeat (first | go_values | go_skip | go_guarded | go_step | go_upon | go_back)
      refine (HCALL.out).mono ?_
      rintro e w4 ⟨rfl, hk4⟩
      have hst4 : w4.heap[gs]? = some (.cells (s.cells .u64) 86 (0, 0)) := by
        rw [hk4.block gs (Array.getElem?_eq_some_iff.1 hst).1 (fun h => h)]; exact hst
      have hk5 : Keeps (· = gs) w2 w4 := (hkr.drew).trans (hk4.mono (fun _ _ h => h.elim))
      have hnx : pchain64 h b (n + 1) = block64 s ((b.drop (128 * n)).take 128) := by rw [pchain64, HS.out]
      obtain ⟨s', hs'⟩ : ∃ s', s' = block64 s ((b.drop (128 * n)).take 128) := ⟨_, rfl⟩
      rw [← hs'] at hnx ⊢
      have HNX := hid hnx
      clear hs' hnx c0 c1 c2 c3 c4 c5 c6 c7 hst hk4
      by_cases hz : d = 128
      all_goals
        go_wp2_with (refine wpList_store_row rfl _ _ _ rfl gs (s'.cells .u64) rfl rfl _ _ hst4 (by kernel_rfl) (by kernel_rfl) (by kernel_rfl) ?_)
        go_roundw
        case rel =>
          refine ⟨n + 1, _, ?_, by have := HQ.out; have := HM.out; omega, HDZ.out _ rfl, by rw [setRow_heap _ _ _ _ _ _ hst4, HNX.out], Keeps.setRow hk5 _ _ (fun _ => rfl)⟩
          rw [show b.length - 128 * (n + 1) = q - 128 by have := HQ.out; have := HM.out; omega, show c - 128 * (n + 1) = d - 128 by have := HD.out; omega]
          first | (rw [if_neg hz]; done) | (rw [if_pos hz, hz])
        case measure => simp [lenOf]; omega
    · have hlt' : ¬ (128 : Int) ≤ (q : Int) := by omega
      have hgr := (hkr.block (gs + 1) (by have := HS2.out; omega) (by omega)).trans HGR.out
      have c0 : wr.cell? ⟨gs, 0, none⟩ = some (.int .u64 s.a) := by rw [cell_of_row wr gs 0 _ _ _ hst]; rfl
      have c1 : wr.cell? ⟨gs, 1, none⟩ = some (.int .u64 s.b) := by rw [cell_of_row wr gs 1 _ _ _ hst]; rfl
      have c2 : wr.cell? ⟨gs, 2, none⟩ = some (.int .u64 s.c) := by rw [cell_of_row wr gs 2 _ _ _ hst]; rfl
      have c3 : wr.cell? ⟨gs, 3, none⟩ = some (.int .u64 s.d) := by rw [cell_of_row wr gs 3 _ _ _ hst]; rfl
      have c4 : wr.cell? ⟨gs, 4, none⟩ = some (.int .u64 s.e) := by rw [cell_of_row wr gs 4 _ _ _ hst]; rfl
      have c5 : wr.cell? ⟨gs, 5, none⟩ = some (.int .u64 s.f) := by rw [cell_of_row wr gs 5 _ _ _ hst]; rfl
      have c6 : wr.cell? ⟨gs, 6, none⟩ = some (.int .u64 s.g) := by rw [cell_of_row wr gs 6 _ _ _ hst]; rfl
      have c7 : wr.cell? ⟨gs, 7, none⟩ = some (.int .u64 s.h) := by rw [cell_of_row wr gs 7 _ _ _ hst]; rfl
      have HN := hid (show m / 128 = n by have := HQ.out; omega)
      go_wp2_with (refine wpList_store_row rfl _ _ _ rfl (gs + 1) (s.cells .u64) rfl rfl _ _ hgr (by kernel_rfl) (by kernel_rfl) (by kernel_rfl) ?_)
      refine bodyPost_ret (v := .agg (s.cells .u64)) (results_cell_row rfl _ _ (gs + 1) 86 _ (0, 0) _ rfl (setRow_heap _ _ _ _ _ _ hgr) Tryz.underlying86 rfl (by kernel_rfl)) rfl ?_
      exact ⟨by rw [HN.out, HS.out], Keeps.setRow kf _ _ (fun hi => absurd hi (by have := HGSN.out; omega))⟩
end Go.Proofs.YtdeigmjbcbjgeaaGreatDoor
