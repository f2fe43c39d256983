/-
  The program's two kinds, walked.
-/
import Derived.Test.YtomeeeakaejokaaPrgKind2
namespace Go.Proofs.Ytomeeeakaejokaa
open Go.RowKit

def kind32_z : Array Value := #[.int .i64 0, .int .i64 0] ++ wordsOf .u32 (List.replicate 8 0) ++ wordsOf .u32 (List.replicate 80 0) ++ #[.nilFunc, .nilFunc, .nilFunc, .nilFunc]
theorem zeroKind32 : (Try.prog.info? 56).map (fun i => (i.zero, i.size)) = some (some (.agg kind32_z), 94) := by kernel_rfl

set_option maxHeartbeats 2000000 in
set_option maxRecDepth 100000 in
theorem kind256_any (w : World) :
    Calls Try.prog 34 #[] w fun e w' => e = .returned (.agg kind32) ∧ Keeps (fun _ => False) w w' := by
  obtain ⟨hz, hs⟩ := zero_of_info zeroKind32
  have HZZ := hid (show kind32_z.size = 94 by kernel_rfl)
  have H0Z := hid (show kind32_0.size = 94 by kernel_rfl)
  have H0O := hid (show kind32_0.all (·.oneCell') = true by kernel_rfl)
  have HKO := hid (show kind32.all (·.oneCell') = true by kernel_rfl)
  have HKZ := hid kind32_size
  have HSZ := hid (show (Try.prog.info? 56).map (·.size) = some 94 by kernel_rfl)
  generalize hZ : kind32_z = Z at hz HZZ
  clear hZ hs
  go_enter Try.func34, Try.ntmps34
  go_wp2_with (first
    | (refine wpList_build_to rfl _ _ rfl kind32_0 (by kernel_rfl) ?_)
    | (refine wpList_store_row rfl _ _ _ rfl (w.heap.size + 1) kind32_0 rfl rfl _ Z (heap_alloc2_new _ _ _) (by rw [HSZ.out, H0Z.out]) (by rw [HZZ.out, H0Z.out]) H0O.out ?_))
  obtain ⟨g, hg⟩ : ∃ g, g = w.heap.size + 1 := ⟨_, rfl⟩
  obtain ⟨w2, hw2⟩ : ∃ w2, w2 = ((w.alloc (Obj.cells Z 56)).alloc (Obj.cells Z 56)).setRow g kind32_0 := ⟨_, rfl⟩
  rw [← hg, ← hw2]
  have hg2 : w2.heap[g]? = some (.cells kind32_0 56 (0, 0)) := by rw [hw2, hg]; exact setRow_heap _ _ _ _ _ _ (heap_alloc2_new w _ _)
  have hr2 : w2.heap[w.heap.size]? = some (.cells Z 56 (0, 0)) := by
    rw [hw2, (Keeps.setRow (S := (· = g)) (Keeps.refl _ ((w.alloc (Obj.cells Z 56)).alloc (Obj.cells Z 56))) g kind32_0 (fun _ => rfl)).block w.heap.size (by rw [World.size_alloc, World.size_alloc]; omega) (by omega)]
    exact heap_alloc2_old w _ _
  have kp2 : Keeps (fun _ => False) w w2 := by rw [hw2]; exact Keeps.setRow (((Keeps.refl _ w).alloc _).alloc _) _ _ (fun hi => absurd hi (by omega))
  have hgl : g < w2.heap.size := (Array.getElem?_eq_some_iff.1 hg2).1
  have hrl : w.heap.size < w2.heap.size := (Array.getElem?_eq_some_iff.1 hr2).1
  have hne : w.heap.size ≠ g := by omega
  have hle : w.heap.size ≤ g := by omega
  clear hw2 hg
  refine (roots32_start g 8 w2 hg2).mono ?_
  rintro e w3 ⟨rfl, hg3, hk3⟩
  have c1 : w3.cell? ⟨g, 1, none⟩ = some (.int .i64 64) := by rw [cell_of_row w3 g 1 _ _ _ hg3]; kernel_rfl
  have hr3 := (hk3.block w.heap.size hrl hne).trans hr2
  have hk3' := kp2.step hk3 (fun i hi e => by omega)
  clear hg2 hr2 hk3
  go_wp2_with fail
  refine (roots32_keys g 80 w3 hg3).mono ?_
  rintro e w4 ⟨rfl, hg4, hk4⟩
  have hr4 := (hk4.block w.heap.size (by have := hk3'.size; have := (Array.getElem?_eq_some_iff.1 hr3).1; omega) hne).trans hr3
  have hk4' := hk3'.step hk4 (fun i hi e => by omega)
  clear hg3 hr3 hk4 c1
  obtain ⟨C, hC⟩ : ∃ C, C = kind32 := ⟨_, rfl⟩
  rw [← hC] at hg4 HKO HKZ
  have HC := hid hC
  clear hC
  go_wp2_with (first
    | (refine wpList_load_row rfl _ _ rfl g rfl _ _ (0, 0) _ hg4 Try.underlying56 rfl (by rw [HSZ.out, HKZ.out]) ?_)
    | (refine wpList_store_row rfl _ _ _ rfl w.heap.size C rfl rfl _ Z hr4 (by rw [HSZ.out, HKZ.out]) (by rw [HZZ.out, HKZ.out]) HKO.out ?_))
  refine bodyPost_ret (v := .agg C) (results_cell_row rfl _ _ w.heap.size 56 _ (0, 0) _ rfl (setRow_heap _ _ _ _ _ _ hr4) Try.underlying56 rfl (by rw [HSZ.out, HKZ.out])) rfl ?_
  exact ⟨by rw [HC.out], Keeps.setRow hk4' _ _ (fun hi => absurd hi (by omega))⟩

def kind64_z : Array Value := #[.int .i64 0, .int .i64 0] ++ wordsOf .u64 (List.replicate 8 0) ++ wordsOf .u64 (List.replicate 80 0) ++ #[.nilFunc, .nilFunc, .nilFunc, .nilFunc]
end Go.Proofs.Ytomeeeakaejokaa
