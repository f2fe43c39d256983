/-
  The program's roots, products of words, and fractions: walked.
-/
import Derived.Test.YtoahgjhomnmmbaaPrgCbrt
import Derived.BigQuiet
import Derived.BigRegion
import Derived.StillTailTactics
namespace Go.Proofs.Ytoahgjhomnmmbaa
open Go.RowKit

set_option maxHeartbeats 400000 in
theorem Cbrt_any (x r : Nat) (w : World) (h : cbrtW x = some r) :
    Calls Try.prog 66 #[.float .f64 x] w fun e w' => e = .returned (.float .f64 r) ∧ w = w' := by
  have H := hid (cbrt_any x r w h)
  clear h
  go_enter Try.func66, Try.ntmps66
  go_wp2_with fail
  refine (H.out).mono ?_
  rintro e w' ⟨rfl, rfl⟩
  go_wp2_with fail
  go_ret
  exact ⟨rfl, rfl⟩

set_option maxHeartbeats 400000 in
theorem root2_any (p : Int) (r : Nat) (w : World) (h : rootW p 2 = some r) :
    Calls Try.prog 57 #[.int .u64 p, .int .i64 2] w fun e w' => e = .returned (.float .f64 r) ∧ w = w' := by
  rw [rootW, if_pos rfl] at h
  have H := hid ((Sqrt_any (floatOfInt .f64 p) r w h).mono fun _ _ q => (⟨q.1, q.2.symm⟩ : _ ∧ w = _))
  clear h
  go_enter Try.func57, Try.ntmps57
  go_wp2_with fail
  refine (H.out).mono ?_
  rintro e w' ⟨rfl, rfl⟩
  go_wp2_with fail
  go_ret
  exact ⟨rfl, rfl⟩

set_option maxHeartbeats 400000 in
theorem root3_any (p : Int) (r : Nat) (w : World) (h : rootW p 3 = some r) :
    Calls Try.prog 57 #[.int .u64 p, .int .i64 3] w fun e w' => e = .returned (.float .f64 r) ∧ w = w' := by
  rw [rootW, if_neg (by decide)] at h
  have H := hid (Cbrt_any (floatOfInt .f64 p) r w h)
  clear h
  go_enter Try.func57, Try.ntmps57
  go_wp2_with fail
  refine (H.out).mono ?_
  rintro e w' ⟨rfl, rfl⟩
  go_wp2_with fail
  go_ret
  exact ⟨rfl, rfl⟩

theorem root_any (p : Int) (d r : Nat) (w : World) (hd : d = 2 ∨ d = 3) (h : rootW p d = some r) :
    Calls Try.prog 57 #[.int .u64 p, .int .i64 d] w fun e w' => e = .returned (.float .f64 r) ∧ w = w' := by
  rcases hd with rfl | rfl
  · exact root2_any p r w h
  · exact root3_any p r w h

set_option maxHeartbeats 1000000 in
theorem frac32_any (p : Int) (d : Nat) (r : Int) (w : World) (hd : d = 2 ∨ d = 3) (h : frac32W p d = some r) :
    Calls Try.prog 42 #[.int .u64 p, .int .i64 d] w fun e w' => e = .returned (.int .u32 r) ∧ w = w' := by
  simp only [frac32W, Option.bind_eq_some_iff] at h
  obtain ⟨e, he, i, hi, dd, hdd, m, hm, hr⟩ := h
  have HR := hid (root_any p d e w hd he)
  have HM := hid (Modf_any e i dd w hi hdd)
  generalize copyW dd e = c at *
  have h1 := fun w => run_float_arith (P := Try.prog) w .mul 73 .f64 c 4751297606875873280 m hm
  have h2 := fun w => run_convert_float_int (P := Try.prog) w 73 37 .f64 .u32 m r (by kernel_rfl) Try.underlying37 hr
  clear hd he hi hdd hm hr
  go_enter Try.func42, Try.ntmps42
  go_wp2_with fail
  refine (HR.out).mono ?_
  rintro e' w' ⟨rfl, rfl⟩
  go_wp2_with fail
  refine (HM.out).mono ?_
  rintro e' w' ⟨rfl, rfl⟩
  go_wp2_with fail
  go_ret
  exact ⟨rfl, rfl⟩

def TimesRel (whole f : Int) (z : List Int) (g : Nat) (wp : World) (below carry i : Value) (wr : World) : Prop :=
  ∃ n : Nat, i = .int .i64 n ∧ n ≤ 4 ∧ below = .int .u64 (if n = 0 then 0 else z.getD (n - 1) 0) ∧ carry = .int .u64 (timesTo whole f z n).2 ∧
    wr.heap[g]? = some (.cells (wordsOf .u64 ((timesTo whole f z n).1 ++ z.drop n)) 78 (0, 0)) ∧ Keeps (· = g) wp wr
theorem timesTo_len (whole f : Int) (z : List Int) : ∀ n, (timesTo whole f z n).1.length = n
  | 0 => rfl
  | n + 1 => by simp [timesTo, timesTo_len whole f z n]
theorem timesTo_nonneg (whole f : Int) (z : List Int) : ∀ n, 0 ≤ (timesTo whole f z n).2
  | 0 => by simp [timesTo]
  | n + 1 => by simp only [timesTo, timesStep]; exact wrap_u64_nonneg _
theorem set_append_drop (L z : List Int) (n : Nat) (x : Int) (h : L.length = n) (hn : n < z.length) : (L ++ z.drop n).set n x = (L ++ [x]) ++ z.drop (n + 1) := by
  subst h
  rw [List.set_append_right _ _ (Nat.le_refl _), Nat.sub_self, List.drop_eq_getElem_cons hn]
  simp only [List.set_cons_zero, List.append_assoc, List.singleton_append]

set_option maxHeartbeats 2000000 in
set_option maxRecDepth 100000 in
theorem times_any (whole f : Int) (z0 z1 z2 z3 : Int) (w : World) :
    Calls Try.prog 68 #[.agg #[.int .u64 z0, .int .u64 z1, .int .u64 z2, .int .u64 z3], .int .u64 whole, .int .u64 f] w fun e w' =>
      e = .returned (.agg (wordsOf .u64 (timesL whole f [z0, z1, z2, z3]))) ∧ Keeps (fun _ => False) w w' := by
  have hA := Add64_run
  obtain ⟨z, hz⟩ : ∃ z : List Int, z = [z0, z1, z2, z3] := ⟨_, rfl⟩
  have hix := fun (i : Nat) (hi : i < z.length) W => run_index_words (P := Try.prog) 78 31 .u64 z (by rw [hz]; exact Try.underlying78) (fun w => by kernel_rfl) (by kernel_rfl) i hi W
  have HIX := hid hix
  have HL := hid (show z.length = 4 by rw [hz]; rfl)
  have HZ := hid (show wordsOf .u64 z = #[.int .u64 z0, .int .u64 z1, .int .u64 z2, .int .u64 z3] by rw [hz]; rfl)
  have HT := hid (show timesL whole f [z0, z1, z2, z3] = (timesTo whole f z 4).1 by rw [hz]; rfl)
  clear hz hix
  go_enter Try.func68, Try.ntmps68
  go_wp2
  rw [← HZ.out]
  obtain ⟨Z, hZ⟩ : ∃ Z, Z = wordsOf .u64 z := ⟨_, rfl⟩
  rw [← hZ] at HIX ⊢
  have HZW := hid hZ
  clear hZ HZ
  obtain ⟨w2, hw2⟩ : ∃ w2, w2 = (w.alloc (Obj.cells Z 78)).alloc (Obj.cells #[.int .u64 0, .int .u64 0, .int .u64 0, .int .u64 0] 78) := ⟨_, rfl⟩
  rw [← hw2]
  have hgz : w2.heap[w.heap.size]? = some (.cells (wordsOf .u64 ((timesTo whole f z 0).1 ++ z.drop 0)) 78 (0, 0)) := by
    rw [hw2, heap_alloc2_old, HZW.out]; rfl
  have hgr : w2.heap[w.heap.size + 1]? = some (.cells #[.int .u64 0, .int .u64 0, .int .u64 0, .int .u64 0] 78 (0, 0)) := by
    rw [hw2]; exact heap_alloc2_new w _ _
  have kp2 : Keeps (fun _ => False) w w2 := by rw [hw2]; exact ((Keeps.refl _ w).alloc _).alloc _
  have hs2 : w2.heap.size = w.heap.size + 2 := by rw [hw2]; simp
  obtain ⟨g, hg⟩ : ∃ g, g = w.heap.size := ⟨_, rfl⟩
  rw [← hg] at hgz hgr hs2 ⊢
  have HG := hid hg
  have HGR := hid hgr
  have HS2 := hid hs2
  clear hw2 hg hgr hs2
  go_loopw [7, 8, 19] (fun b c i wr => TimesRel whole f z g w2 b c i wr) (fun _ _ i _ => 4 - (intOf i).toNat)
  case atStart => exact ⟨0, rfl, by omega, rfl, rfl, hgz, Keeps.refl _ _⟩
  case round =>
    clear hgz
    obtain ⟨n, rfl, hn, rfl, rfl, hgz, hkr⟩ := hrel
    by_cases hlt : n < 4
    · have hlt' : (n : Int) < 4 := by omega
      have hix := HIX.out n (by have := HL.out; omega)
      obtain ⟨x, hx⟩ : ∃ x, x = z.getD n 0 := ⟨_, rfl⟩
      rw [← hx] at hix
      have HX := hid hx
      obtain ⟨b, hb⟩ : ∃ b : Int, b = if n = 0 then 0 else z.getD (n - 1) 0 := ⟨_, rfl⟩
      rw [← hb]
      have HB := hid hb
      have hc0 := timesTo_nonneg whole f z n
      obtain ⟨c, hc⟩ : ∃ c : Int, c = (timesTo whole f z n).2 := ⟨_, rfl⟩
      rw [← hc] at hc0 ⊢
      have HC := hid hc
      clear hx hb hc
      go_wp2_with fail
      refine (Mul64_any x f wr).mono ?_
      rintro e w' ⟨rfl, rfl⟩
      obtain ⟨h1, q1⟩ : ∃ v, v = mulHi x f := ⟨_, rfl⟩
      obtain ⟨l1, q2⟩ : ∃ v, v = mulLo x f := ⟨_, rfl⟩
      rw [← q1, ← q2]
      have N1 : 0 ≤ l1 := by rw [q2]; exact mulLo_nonneg _ _
      have Q1 := hid q1; have Q2 := hid q2
      clear q1 q2
      go_wp2_with fail
      refine (Mul64_any b whole wr).mono ?_
      rintro e w' ⟨rfl, rfl⟩
      obtain ⟨h2, q1⟩ : ∃ v, v = mulHi b whole := ⟨_, rfl⟩
      obtain ⟨l2, q2⟩ : ∃ v, v = mulLo b whole := ⟨_, rfl⟩
      rw [← q1, ← q2]
      have N2 : 0 ≤ l2 := by rw [q2]; exact mulLo_nonneg _ _
      have Q3 := hid q1; have Q4 := hid q2
      clear q1 q2
      go_upto_region 8 with (fail)
      obtain ⟨s1, q1⟩ : ∃ v : Int, v = (l1 + l2) % 18446744073709551616 := ⟨_, rfl⟩
      obtain ⟨c1, q2⟩ : ∃ v : Int, v = (l1 + l2) / 18446744073709551616 := ⟨_, rfl⟩
      rw [← q1, ← q2]
      have N3 : 0 ≤ s1 := by rw [q1]; omega
      have Q5 := hid q1; have Q6 := hid q2
      clear q1 q2
      go_upto_region 9 with (fail)
      obtain ⟨s2, q1⟩ : ∃ v : Int, v = (s1 + c) % 18446744073709551616 := ⟨_, rfl⟩
      obtain ⟨c2, q2⟩ : ∃ v : Int, v = (s1 + c) / 18446744073709551616 := ⟨_, rfl⟩
      rw [← q1, ← q2]
      have Q7 := hid q1; have Q8 := hid q2
      clear q1 q2
      have hlen : ((timesTo whole f z n).1 ++ z.drop n).length = 4 := by simp [timesTo_len, HL.out]; omega
      have cw : wr.cell? ⟨g, n, none⟩ = some (.int .u64 (((timesTo whole f z n).1 ++ z.drop n).getD n 0)) := by
        rw [cell_of_row wr g n _ _ _ hgz, wordsOf_get _ _ _ (by omega)]
      generalize ((timesTo whole f z n).1 ++ z.drop n).getD n 0 = y at cw
      have fw : wr.frozen? ⟨g, n, none⟩ = false := frozen_of_row wr g n _ _ hgz
      clear hlen
      go_wp2_with fail
      go_roundw
      case rel =>
        have hst : timesStep whole f b c x = (s2, IntKind.u64.wrap (IntKind.u64.wrap (IntKind.u64.wrap (h1 + h2) + c1) + c2)) := by
          simp only [timesStep, ← Q1.out, ← Q2.out, ← Q3.out, ← Q4.out, ← Q5.out, ← Q6.out, ← Q7.out, ← Q8.out]
        have hto : timesTo whole f z (n + 1) = ((timesTo whole f z n).1 ++ [s2], IntKind.u64.wrap (IntKind.u64.wrap (IntKind.u64.wrap (h1 + h2) + c1) + c2)) := by
          simp only [timesTo, ← HB.out, ← HC.out, ← HX.out, hst]
        refine ⟨n + 1, rfl, by omega, ?_, by rw [hto], ?_, Keeps.setCell hkr _ _ (fun _ => rfl)⟩
        · rw [HX.out]; simp
        · rw [heap_setCell_same wr g n _ _ _ hgz, wordsOf_set, set_append_drop _ _ _ _ (timesTo_len whole f z n) (by have := HL.out; omega), hto]
      case measure => simp [intOf]; omega
    · have h4 : n = 4 := by omega
      subst h4
      have hgr : wr.heap[g + 1]? = some (.cells #[.int .u64 0, .int .u64 0, .int .u64 0, .int .u64 0] 78 (0, 0)) := by
        rw [hkr.block (g + 1) (by have := HS2.out; omega) (by omega)]; exact HGR.out
      have hd : (timesTo whole f z 4).1 ++ z.drop 4 = (timesTo whole f z 4).1 := by
        rw [List.drop_eq_nil_of_le (by have := HL.out; omega), List.append_nil]
      rw [hd] at hgz
      have hlen := timesTo_len whole f z 4
      have HTL := hid HT.out
      generalize (timesTo whole f z 4).1 = R at *
      obtain ⟨r0, r1, r2, r3, hR⟩ : ∃ r0 r1 r2 r3, R = [r0, r1, r2, r3] := by
        rcases R with _ | ⟨r0, _ | ⟨r1, _ | ⟨r2, _ | ⟨r3, _ | ⟨_, _⟩⟩⟩⟩⟩ <;> simp at hlen
        exact ⟨r0, r1, r2, r3, rfl⟩
      subst hR
      have kf : Keeps (fun _ => False) w wr := kp2.step hkr (fun i hi e => by have := HG.out; omega)
      have hle : w.heap.size ≤ g + 1 := by have := HG.out; omega
      clear hd hlen
      go_wp2_with (first
        | (refine wpList_load_row rfl _ _ rfl g rfl _ _ (0, 0) _ hgz Try.underlying78 rfl (by kernel_rfl) ?_)
        | (refine wpList_store_row rfl _ _ _ rfl (g + 1) _ rfl rfl _ _ hgr (by kernel_rfl) (by kernel_rfl) (by kernel_rfl) ?_))
      refine bodyPost_ret (v := .agg (wordsOf .u64 [r0, r1, r2, r3])) (results_cell_row rfl _ _ (g + 1) 78 (wordsOf .u64 [r0, r1, r2, r3]) (0, 0) _ rfl (setRow_heap _ _ _ _ _ _ hgr) Try.underlying78 rfl (by kernel_rfl)) rfl ?_
      exact ⟨by rw [HTL.out], Keeps.setRow kf _ _ (fun hi => absurd hi (by omega))⟩
end Go.Proofs.Ytoahgjhomnmmbaa
