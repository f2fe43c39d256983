/-
  The program's rounds for a block, walked.
-/
import Derived.Test.YtomeeeakaejokaaPrgWords
namespace Go.Proofs.Ytomeeeakaejokaa
open Go.RowKit

theorem keys32_get : ∀ t, t < 64 → keys32.getD t 0 = refKs.getD t 0 / 4294967296 := fun t h => (show ∀ t : Fin 64, keys32.getD t.val 0 = refKs.getD t.val 0 / 4294967296 by decide +kernel) ⟨t, h⟩
theorem keys64_get : ∀ t, t < 80 → keys64.getD t 0 = refKs.getD t 0 := fun _ _ => rfl

def PRounds32 (h : W8) (b : List Int) (w3 : World) (va vb vc vd ve vf vg vh i : Value) (wr : World) : Prop :=
  ∃ t : Nat, i = .int .i64 t ∧ t ≤ 64 ∧ va = .int .u32 (state32 h b t).a ∧ vb = .int .u32 (state32 h b t).b ∧ vc = .int .u32 (state32 h b t).c ∧ vd = .int .u32 (state32 h b t).d ∧ ve = .int .u32 (state32 h b t).e ∧ vf = .int .u32 (state32 h b t).f ∧ vg = .int .u32 (state32 h b t).g ∧ vh = .int .u32 (state32 h b t).h ∧ Keeps (fun _ => False) w3 wr

set_option maxHeartbeats 4000000 in
set_option maxRecDepth 100000 in
theorem afterBlock32_any (gv : Nat) (h : W8) (b : List Int) (a : Option Addr) (c : Nat) (w : World) (hv : w.heap[gv]? = some (.cells kind32 56 (0, 0))) (hb : b.length = 64) (hc : 64 ≤ c) (hr : RowAt (fun _ => True) .u8 w a b) :
    Calls Try.prog 51 #[.pointer (some ⟨gv, 0, none⟩), .agg (h.cells .u32), .slice a 64 c] w (Blk256Post h b w) := by
  rw [W8.cells_def]
  obtain ⟨hz80, _⟩ := zero_of_info zero80w32
  have HZ80 := hid (show Array.replicate 80 (Value.int .u32 0) = wordsOf .u32 (pcells32 b 0) from rfl)
  generalize Array.replicate 80 (Value.int .u32 0) = Z80 at hz80 HZ80
  have hgv : gv < w.heap.size := (Array.getElem?_eq_some_iff.1 hv).1
  have HV := hid hv
  have HWD := hid (fun W (k : Keeps (fun _ => False) w W) => words32_any gv b a c W (by rw [k.block gv hgv (fun h => h)]; exact hv) hb hc (hr.keeps k (fun _ _ h => h)))
  have HT1 := hid kind256f3_any
  have HT0 := hid kind256f4_any
  clear hr hv hc hb
  go_enter Try.func51, Try.ntmps51
  go_wp2_with fail
  refine (HWD.out _ (((Keeps.refl _ w).alloc _).alloc _)).mono ?_
  rintro e w1 ⟨rfl, hk1⟩
  have HPL := hid (pcells32_len b 64 (by omega))
  have HPO := hid (fun t (ht : t < 64) => show (wordsOf .u32 (pcells32 b 64))[t]? = some (.int .u32 ((sched32 b 64).getD t 0)) by
    rw [wordsOf_get _ _ _ (by rw [HPL.out]; omega), pcells32_old b 64 t ht])
  have HZS := hid (show Z80.size = 80 by rw [HZ80.out]; kernel_rfl)
  have HCS := hid (show (wordsOf .u32 (pcells32 b 64)).size = 80 by rw [wordsOf_size, HPL.out])
  have HON := hid (words_one .u32 (pcells32 b 64))
  generalize wordsOf .u32 (pcells32 b 64) = C at *
  go_wp2_with (refine wpList_store_row rfl _ _ _ rfl w1.heap.size _ rfl rfl _ Z80 (heap_alloc_last _ _) (by rw [HCS.out]; kernel_rfl) (by rw [HZS.out, HCS.out]) HON.out ?_)
  rw [World.setRow_alloc_new]
  obtain ⟨w3, hw3⟩ : ∃ w3, w3 = w1.alloc (Obj.cells C 53) := ⟨_, rfl⟩
  obtain ⟨gs, hgsn⟩ : ∃ gs, gs = w.heap.size := ⟨_, rfl⟩
  obtain ⟨gw, hgwn⟩ : ∃ gw, gw = w1.heap.size := ⟨_, rfl⟩
  rw [← hw3, ← hgsn, ← hgwn]
  have hs1 : w.heap.size + 2 ≤ w1.heap.size := by have := hk1.size; simpa using this
  have hgs : w3.heap[gs]? = some (.cells (h.cells .u32) 52 (0, 0)) := by
    rw [hw3, Below.heap_alloc _ _ _ (by omega), hgsn, hk1.block _ (by rw [World.size_alloc, World.size_alloc]; omega) (fun h => h)]; exact heap_alloc2_old w _ _
  have hgr : w3.heap[gs + 1]? = some (.cells #[.int .u32 0, .int .u32 0, .int .u32 0, .int .u32 0, .int .u32 0, .int .u32 0, .int .u32 0, .int .u32 0] 52 (0, 0)) := by
    rw [hw3, Below.heap_alloc _ _ _ (by omega), hgsn, hk1.block _ (by rw [World.size_alloc, World.size_alloc]; omega) (fun h => h)]; exact heap_alloc2_new w _ _
  have hgw : w3.heap[gw]? = some (.cells C 53 (0, 0)) := by rw [hw3, hgwn]; exact heap_alloc_last _ _
  have kp3 : Keeps (fun _ => False) w w3 := by rw [hw3]; exact ((((Keeps.refl _ w).alloc _).alloc _).trans hk1).alloc _
  have hgv3 : w3.heap[gv]? = some (.cells kind32 56 (0, 0)) := by rw [kp3.block gv hgv (fun h => h)]; exact HV.out
  have o : gv < w3.heap.size ∧ gs + 1 < w3.heap.size ∧ gw < w3.heap.size := by rw [hw3, World.size_alloc]; omega
  obtain ⟨o1, o2, o3⟩ := o
  have ho : w.heap.size ≤ gs := by omega
  have HW3 := hid hw3
  clear hw3 hgsn hgwn hs1 hk1
  have c0 : w3.cell? ⟨gs, 0, none⟩ = some (.int .u32 h.a) := by rw [cell_of_row w3 gs 0 _ _ _ hgs]; rfl
  have c1 : w3.cell? ⟨gs, 1, none⟩ = some (.int .u32 h.b) := by rw [cell_of_row w3 gs 1 _ _ _ hgs]; rfl
  have c2 : w3.cell? ⟨gs, 2, none⟩ = some (.int .u32 h.c) := by rw [cell_of_row w3 gs 2 _ _ _ hgs]; rfl
  have c3 : w3.cell? ⟨gs, 3, none⟩ = some (.int .u32 h.d) := by rw [cell_of_row w3 gs 3 _ _ _ hgs]; rfl
  have c4 : w3.cell? ⟨gs, 4, none⟩ = some (.int .u32 h.e) := by rw [cell_of_row w3 gs 4 _ _ _ hgs]; rfl
  have c5 : w3.cell? ⟨gs, 5, none⟩ = some (.int .u32 h.f) := by rw [cell_of_row w3 gs 5 _ _ _ hgs]; rfl
  have c6 : w3.cell? ⟨gs, 6, none⟩ = some (.int .u32 h.g) := by rw [cell_of_row w3 gs 6 _ _ _ hgs]; rfl
  have c7 : w3.cell? ⟨gs, 7, none⟩ = some (.int .u32 h.h) := by rw [cell_of_row w3 gs 7 _ _ _ hgs]; rfl
  have cv1 : w3.cell? ⟨gv, 1, none⟩ = some (.int .i64 64) := by rw [cell_of_row w3 gv 1 _ _ _ hgv3]; exact kind32_c1
  have HGS := hid hgs; have HGR := hid hgr; have HGW := hid hgw; have HGV := hid hgv3
  clear hgs hgr hgw hgv3
  go_wp2_with fail
  go_quiet (fail)
  go_wp2_with fail
  go_quiet (fail)
  go_wp2_with fail
  clear c0 c1 c2 c3 c4 c5 c6 c7
  go_loopw [8, 9, 10, 11, 12, 13, 14, 15, 48] (fun va vb vc vd ve vf vg vh i wr => PRounds32 h b w3 va vb vc vd ve vf vg vh i wr) (fun _ _ _ _ _ _ _ _ i _ => 64 - (intOf i).toNat)
  case atStart => exact ⟨0, rfl, by omega, rfl, rfl, rfl, rfl, rfl, rfl, rfl, rfl, Keeps.drewN (Keeps.drewN (Keeps.refl _ _) _) _⟩
  case round =>
    obtain ⟨t, rfl, ht, rfl, rfl, rfl, rfl, rfl, rfl, rfl, rfl, hkr⟩ := hrel
    by_cases hlt : t < 64
    · have hlt' : (t : Int) < 64 := by omega
      have hlt80 : (t : Int) < 80 := by omega
      obtain ⟨s, hs⟩ : ∃ s, s = state32 h b t := ⟨_, rfl⟩
      have HS := hid hs
      rw [← hs]
      clear hs
      have ck : wr.cell? ⟨gv, 10 + t, none⟩ = some (.int .u32 (keys32.getD t 0)) := by
        rw [cell_of_row wr gv (10 + t) _ _ _ ((hkr.block gv o1 (fun h => h)).trans HGV.out)]; exact kind32_key t hlt
      have cw : wr.cell? ⟨gw, t, none⟩ = some (.int .u32 ((sched32 b 64).getD t 0)) := by
        rw [cell_of_row wr gw t _ _ _ ((hkr.block gw o3 (fun h => h)).trans HGW.out)]; exact HPO.out t hlt
      have ct1 : wr.cell? ⟨gv, 92, none⟩ = some (.func (.func 45) #[] #[]) := by
        rw [cell_of_row wr gv 92 _ _ _ ((hkr.block gv o1 (fun h => h)).trans HGV.out)]; exact kind32_t1
      have ct0 : wr.cell? ⟨gv, 93, none⟩ = some (.func (.func 46) #[] #[]) := by
        rw [cell_of_row wr gv 93 _ _ _ ((hkr.block gv o1 (fun h => h)).trans HGV.out)]; exact kind32_t0
      obtain ⟨kt, hkt⟩ : ∃ kt, kt = keys32.getD t 0 := ⟨_, rfl⟩
      obtain ⟨wt, hwt⟩ : ∃ wt, wt = (sched32 b 64).getD t 0 := ⟨_, rfl⟩
      have HKT := hid (hkt.trans (keys32_get t hlt)); have HWT := hid hwt
      rw [← hkt] at ck; rw [← hwt] at cw
      clear hkt hwt
      go_wp2_with fail
      refine wp_region_tail 23 (by kernel_rfl) (by kernel_rfl) _ _ rfl rfl ?_
      simp only [List.take_succ_cons, List.take_zero, List.drop_succ_cons, List.drop_zero]
      repeat (first | go_big_quiet_skip | (go_big_quiet_want; go_big_quiet_op; first | go_big_quiet_on | (apply Exists.intro; refine ⟨?_, ?_⟩; (with_reducible exact HT1.out _ _); go_big_quiet_on)))
      refine wpQuiet_nil ?_
      go_upto_region 7 with (fail)
      obtain ⟨T1, hT1⟩ : ∃ T1 : Int, T1 = ((s.h + bits BinOp.xor IntKind.u32 (bits BinOp.xor IntKind.u32 (ror32 s.e 6) (ror32 s.e 11)) (ror32 s.e 25) + bits BinOp.xor IntKind.u32 (bits BinOp.and IntKind.u32 s.e s.f) (bits BinOp.and IntKind.u32 (bits BinOp.xor IntKind.u32 (if IntKind.u32.signed = true then -1 else IntKind.u32.max) s.e) s.g) + kt) % 4294967296 + wt) % 4294967296 := ⟨_, rfl⟩
      rw [← hT1]
      have HT := hid hT1
      clear hT1
      obtain ⟨W, hW⟩ : ∃ W, W = wr.drew := ⟨_, rfl⟩
      have cW : W.cell? ⟨gv, 93, none⟩ = some (.func (.func 46) #[] #[]) := by rw [hW]; exact ct0
      have hkW : Keeps (fun _ => False) w3 W := by rw [hW]; exact hkr.drew
      rw [← hW]
      clear hW ct0 ct1 ck cw hkr
      repeat (first | go_values | go_skip | go_guarded | go_step | go_upon | go_back)
      refine (HT0.out _ _).mono ?_
      rintro e w' ⟨rfl, rfl⟩
      go_wp2_with fail
      go_roundw
      case rel =>
        have hst : state32 h b (t + 1) = step32 s (refKs.getD t 0) wt := by rw [state32, ← HS.out, ← HWT.out]
        have e1 : T1 = sumE32 s (refKs.getD t 0) wt % 4294967296 := by
          rw [HT.out, HKT.out]
          unfold sumE32
          simp only [show IntKind.u32.signed = false from rfl, Bool.false_eq_true, if_false, Int.emod_add_emod]
        refine ⟨t + 1, rfl, by omega, ?_, ?_, ?_, ?_, ?_, ?_, ?_, ?_, hkW⟩ <;> rw [hst] <;> first | rfl | refine congrArg (Value.int .u32) ?_
        · show _ = (sumE32 s (refKs.getD t 0) wt + sumA32 s) % 4294967296
          rw [e1]
          unfold sumA32
          simp only [Int.emod_add_emod, Int.add_emod_emod]
        · show _ = (s.d + sumE32 s (refKs.getD t 0) wt) % 4294967296
          rw [e1]
          simp only [Int.add_emod_emod]
      case measure => simp [intOf]; omega
    · have heq : t = 64 := by omega
      subst heq
      obtain ⟨s, hs⟩ : ∃ s, s = state32 h b 64 := ⟨_, rfl⟩
      have HS := hid hs
      rw [← hs]
      clear hs
      have hgsr := (hkr.block gs (by omega) (fun h => h)).trans HGS.out
      have hgr := (hkr.block (gs + 1) o2 (fun h => h)).trans HGR.out
      have c0 : wr.cell? ⟨gs, 0, none⟩ = some (.int .u32 h.a) := by rw [cell_of_row wr gs 0 _ _ _ hgsr]; rfl
      have c1 : wr.cell? ⟨gs, 1, none⟩ = some (.int .u32 h.b) := by rw [cell_of_row wr gs 1 _ _ _ hgsr]; rfl
      have c2 : wr.cell? ⟨gs, 2, none⟩ = some (.int .u32 h.c) := by rw [cell_of_row wr gs 2 _ _ _ hgsr]; rfl
      have c3 : wr.cell? ⟨gs, 3, none⟩ = some (.int .u32 h.d) := by rw [cell_of_row wr gs 3 _ _ _ hgsr]; rfl
      have c4 : wr.cell? ⟨gs, 4, none⟩ = some (.int .u32 h.e) := by rw [cell_of_row wr gs 4 _ _ _ hgsr]; rfl
      have c5 : wr.cell? ⟨gs, 5, none⟩ = some (.int .u32 h.f) := by rw [cell_of_row wr gs 5 _ _ _ hgsr]; rfl
      have c6 : wr.cell? ⟨gs, 6, none⟩ = some (.int .u32 h.g) := by rw [cell_of_row wr gs 6 _ _ _ hgsr]; rfl
      have c7 : wr.cell? ⟨gs, 7, none⟩ = some (.int .u32 h.h) := by rw [cell_of_row wr gs 7 _ _ _ hgsr]; rfl
      have HF := hid (show (block32 h b) = add8 4294967296 h s by rw [block32, HS.out])
      have kf : Keeps (fun _ => False) w wr := kp3.trans hkr
      go_wp2_with (refine wpList_store_row rfl _ _ _ rfl (gs + 1) ((add8 4294967296 h s).cells .u32) rfl rfl _ _ hgr (by kernel_rfl) (by kernel_rfl) (by kernel_rfl) ?_)
      refine bodyPost_ret (v := .agg ((add8 4294967296 h s).cells .u32)) (results_cell_row rfl _ _ (gs + 1) 52 _ (0, 0) _ rfl (setRow_heap _ _ _ _ _ _ hgr) Try.underlying52 rfl (by kernel_rfl)) rfl ?_
      exact ⟨by rw [HF.out], Keeps.setRow kf _ _ (fun hi => absurd hi (by omega))⟩

def PRounds64 (h : W8) (b : List Int) (w3 : World) (va vb vc vd ve vf vg vh i : Value) (wr : World) : Prop :=
  ∃ t : Nat, i = .int .i64 t ∧ t ≤ 80 ∧ va = .int .u64 (state64 h b t).a ∧ vb = .int .u64 (state64 h b t).b ∧ vc = .int .u64 (state64 h b t).c ∧ vd = .int .u64 (state64 h b t).d ∧ ve = .int .u64 (state64 h b t).e ∧ vf = .int .u64 (state64 h b t).f ∧ vg = .int .u64 (state64 h b t).g ∧ vh = .int .u64 (state64 h b t).h ∧ Keeps (fun _ => False) w3 wr

end Go.Proofs.Ytomeeeakaejokaa
