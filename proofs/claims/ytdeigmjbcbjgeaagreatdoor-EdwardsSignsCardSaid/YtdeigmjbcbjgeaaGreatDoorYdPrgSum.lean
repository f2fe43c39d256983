/-
  The program's SHA-256 and SHA-512, walked.
-/
import Derived.Deep.RegionHeld3
import Derived.Test.YtdeigmjbcbjgeaaGreatDoorYdPrgConst
import Derived.Test.YtdeigmjbcbjgeaaGreatDoorYdPrgTail2
namespace Go.Proofs.YtdeigmjbcbjgeaaGreatDoor
open Go.RowKit

theorem heap_set8 (w : World) (g : Nat) (t : TypeId) (a0 a1 a2 a3 a4 a5 a6 a7 v0 v1 v2 v3 v4 v5 v6 v7 : Value) (h : w.heap[g]? = some (.cells #[a0, a1, a2, a3, a4, a5, a6, a7] t (0, 0))) :
    ((((((((w.setCell ⟨g, 0, none⟩ v0).setCell ⟨g, 1, none⟩ v1).setCell ⟨g, 2, none⟩ v2).setCell ⟨g, 3, none⟩ v3).setCell ⟨g, 4, none⟩ v4).setCell ⟨g, 5, none⟩ v5).setCell ⟨g, 6, none⟩ v6).setCell ⟨g, 7, none⟩ v7).heap[g]? = some (.cells #[v0, v1, v2, v3, v4, v5, v6, v7] t (0, 0)) := by
  have h0 := heap_setCell_same w g 0 _ _ v0 h
  rw [show (#[a0, a1, a2, a3, a4, a5, a6, a7] : Array Value).setIfInBounds 0 v0 = #[v0, a1, a2, a3, a4, a5, a6, a7] from rfl] at h0
  have h1 := heap_setCell_same _ g 1 _ _ v1 h0
  rw [show (#[v0, a1, a2, a3, a4, a5, a6, a7] : Array Value).setIfInBounds 1 v1 = #[v0, v1, a2, a3, a4, a5, a6, a7] from rfl] at h1
  have h2 := heap_setCell_same _ g 2 _ _ v2 h1
  rw [show (#[v0, v1, a2, a3, a4, a5, a6, a7] : Array Value).setIfInBounds 2 v2 = #[v0, v1, v2, a3, a4, a5, a6, a7] from rfl] at h2
  have h3 := heap_setCell_same _ g 3 _ _ v3 h2
  rw [show (#[v0, v1, v2, a3, a4, a5, a6, a7] : Array Value).setIfInBounds 3 v3 = #[v0, v1, v2, v3, a4, a5, a6, a7] from rfl] at h3
  have h4 := heap_setCell_same _ g 4 _ _ v4 h3
  rw [show (#[v0, v1, v2, v3, a4, a5, a6, a7] : Array Value).setIfInBounds 4 v4 = #[v0, v1, v2, v3, v4, a5, a6, a7] from rfl] at h4
  have h5 := heap_setCell_same _ g 5 _ _ v5 h4
  rw [show (#[v0, v1, v2, v3, v4, a5, a6, a7] : Array Value).setIfInBounds 5 v5 = #[v0, v1, v2, v3, v4, v5, a6, a7] from rfl] at h5
  have h6 := heap_setCell_same _ g 6 _ _ v6 h5
  rw [show (#[v0, v1, v2, v3, v4, v5, a6, a7] : Array Value).setIfInBounds 6 v6 = #[v0, v1, v2, v3, v4, v5, v6, a7] from rfl] at h6
  have h7 := heap_setCell_same _ g 7 _ _ v7 h6
  rw [show (#[v0, v1, v2, v3, v4, v5, v6, a7] : Array Value).setIfInBounds 7 v7 = #[v0, v1, v2, v3, v4, v5, v6, v7] from rfl] at h7
  exact h7

def init64 : Wd8 := chain64 [] 0
theorem kind64_s0 : kind64[2]? = some (.int .u64 init64.a) := by kernel_rfl
theorem kind64_s1 : kind64[3]? = some (.int .u64 init64.b) := by kernel_rfl
theorem kind64_s2 : kind64[4]? = some (.int .u64 init64.c) := by kernel_rfl
theorem kind64_s3 : kind64[5]? = some (.int .u64 init64.d) := by kernel_rfl
theorem kind64_s4 : kind64[6]? = some (.int .u64 init64.e) := by kernel_rfl
theorem kind64_s5 : kind64[7]? = some (.int .u64 init64.f) := by kernel_rfl
theorem kind64_s6 : kind64[8]? = some (.int .u64 init64.g) := by kernel_rfl
theorem kind64_s7 : kind64[9]? = some (.int .u64 init64.h) := by kernel_rfl
theorem chain64_p (p : List Int) : ∀ n, chain64 p n = pchain64 init64 p n
  | 0 => rfl
  | n + 1 => by rw [chain64, pchain64, chain64_p p n]
theorem pchain64_add (h : Wd8) (p : List Int) (n : Nat) : ∀ k, pchain64 h p (n + k) = pchain64 (pchain64 h p n) (p.drop (128 * n)) k
  | 0 => rfl
  | k + 1 => by
    rw [← Nat.add_assoc, pchain64, pchain64_add h p n k, pchain64, List.drop_drop, show 128 * (n + k) = 128 * n + 128 * k by omega]
theorem pchain64_pre (h : Wd8) (b r : List Int) : ∀ n, 128 * n ≤ b.length → pchain64 h (b ++ r) n = pchain64 h b n
  | 0, _ => rfl
  | n + 1, hn => by
    rw [pchain64, pchain64, pchain64_pre h b r n (by omega), List.drop_append_of_le_length (by omega), List.take_append_of_le_length (by rw [List.length_drop]; omega)]
theorem padded512_pre (b : List Int) : ∃ r, padded512 b = b ++ r := ⟨_, by rw [padded512, padL, padA, List.append_assoc]⟩
theorem whole64 (b : List Int) : pchain64 (pchain64 init64 b (b.length / 128)) (ptail128 b) ((ptail128 b).length / 128) = chain64 (padded512 b) ((padded512 b).length / 128) := by
  obtain ⟨r, hr⟩ := padded512_pre b
  have hl : (padded512 b).length / 128 = b.length / 128 + (ptail128 b).length / 128 := by
    rw [ptail128, List.length_drop, hr, List.length_append]
    omega
  rw [chain64_p, hl, pchain64_add, ← ptail128, hr, pchain64_pre _ _ _ _ (by omega)]

def POuts64 (l : List Int) (base : Nat) (wp : World) (v i : Value) (wr : World) : Prop :=
  ∃ n : Nat, i = .int .i64 n ∧ n ≤ 8 ∧ OwnI .u8 5 base wr v (outs64 l n) ∧ Keeps (base ≤ ·) wp wr
def PWord64 (l : List Int) (n : Nat) (x : Int) (base : Nat) (wp : World) (v i : Value) (wr : World) : Prop :=
  ∃ k : Nat, i = .int .i64 k ∧ k ≤ 8 ∧ OwnI .u8 5 base wr v (outs64 l n ++ (outWord64 x 8).take k) ∧ Keeps (base ≤ ·) wp wr
theorem outw64_take (x : Int) (k : Nat) (hk : k < 8) : (outWord64 x 8).take k ++ [byteAt x (7 - k)] = (outWord64 x 8).take (k + 1) := by
  rcases k with _ | _ | _ | _ | _ | _ | _ | _ | k <;> first | rfl | omega | (simp [outWord64, byteAt]; done)
set_option maxHeartbeats 4000000 in
set_option maxRecDepth 100000 in
theorem sum64_any (a : Option Addr) (c : Nat) (b : List Int) (w : World) (hb : b.length ≤ 1000000) (hc : CapOk a c b.length) (hr : RowAt (fun _ => True) .u8 w a b) :
    Calls Tryz.prog 117 #[.agg kind64, .slice a b.length c] w (Sum512Post b w) := by
  obtain ⟨i0, hi, hz0, hz1, hz2⟩ := info_parts info_u8p
  have HKZ := hid kind64_size
  obtain ⟨C, hC⟩ : ∃ C, C = kind64 := ⟨_, rfl⟩
  rw [← hC] at HKZ ⊢
  have HC := hid hC
  clear hC
  obtain ⟨S0, hS0⟩ : ∃ S0, S0 = init64 := ⟨_, rfl⟩
  have HSS := hid hS0
  clear hS0
  have HCAP := hid hc
  obtain ⟨m, hm⟩ : ∃ m, m = b.length := ⟨_, rfl⟩
  have HM := hid hm
  rw [← hm] at hb ⊢
  have HR := hid hr
  clear hr hc hm
  obtain ⟨gv, hgv⟩ : ∃ gv, gv = w.heap.size := ⟨_, rfl⟩
  obtain ⟨w1, hw1⟩ : ∃ w1, w1 = w.alloc (Obj.cells C 128) := ⟨_, rfl⟩
  have hv1 : w1.heap[gv]? = some (.cells C 128 (0, 0)) := by rw [hw1, hgv]; exact heap_alloc_last _ _
  have kp1 : Keeps (fun _ => False) w w1 := by rw [hw1]; exact (Keeps.refl _ _).alloc _
  have c0 : w1.cell? ⟨gv, 2, none⟩ = some (.int .u64 S0.a) := by rw [cell_of_row w1 gv 2 _ _ _ hv1, HSS.out, HC.out]; exact kind64_s0
  have c1 : w1.cell? ⟨gv, 3, none⟩ = some (.int .u64 S0.b) := by rw [cell_of_row w1 gv 3 _ _ _ hv1, HSS.out, HC.out]; exact kind64_s1
  have c2 : w1.cell? ⟨gv, 4, none⟩ = some (.int .u64 S0.c) := by rw [cell_of_row w1 gv 4 _ _ _ hv1, HSS.out, HC.out]; exact kind64_s2
  have c3 : w1.cell? ⟨gv, 5, none⟩ = some (.int .u64 S0.d) := by rw [cell_of_row w1 gv 5 _ _ _ hv1, HSS.out, HC.out]; exact kind64_s3
  have c4 : w1.cell? ⟨gv, 6, none⟩ = some (.int .u64 S0.e) := by rw [cell_of_row w1 gv 6 _ _ _ hv1, HSS.out, HC.out]; exact kind64_s4
  have c5 : w1.cell? ⟨gv, 7, none⟩ = some (.int .u64 S0.f) := by rw [cell_of_row w1 gv 7 _ _ _ hv1, HSS.out, HC.out]; exact kind64_s5
  have c6 : w1.cell? ⟨gv, 8, none⟩ = some (.int .u64 S0.g) := by rw [cell_of_row w1 gv 8 _ _ _ hv1, HSS.out, HC.out]; exact kind64_s6
  have c7 : w1.cell? ⟨gv, 9, none⟩ = some (.int .u64 S0.h) := by rw [cell_of_row w1 gv 9 _ _ _ hv1, HSS.out, HC.out]; exact kind64_s7
  have cv0 : w1.cell? ⟨gv, 0, none⟩ = some (.int .i64 8) := by rw [cell_of_row w1 gv 0 _ _ _ hv1, HC.out]; exact kind64_c0
  have HGV := hid hgv
  have HW1 := hid hw1
  have HV1 := hid hv1
  clear hgv hw1 hv1
  go_enter Tryz.func117, Tryz.ntmps117
  go_upto_region 1 with (fail)
  rw [← HGV.out, ← HW1.out]
  go_wp2_with fail
  have hA := after64_any gv S0 b a c w1 (by rw [← HC.out]; exact HV1.out) HCAP.out.2 (HR.out.keeps kp1 (fun _ _ h => h))
  rw [Wd8.cells_def .u64 S0, ← HM.out] at hA
  refine hA.mono ?_
  rintro e w2 ⟨rfl, hk2⟩
  obtain ⟨s1, hs1⟩ : ∃ s1, s1 = pchain64 S0 b (m / 128) := ⟨_, rfl⟩
  rw [← hs1]
  have HS1 := hid hs1
  clear hA hs1 c0 c1 c2 c3 c4 c5 c6 c7
  go_wp2_with (refine wpList_store_row rfl _ _ _ rfl w2.heap.size (s1.cells .u64) rfl rfl _ #[.int .u64 0, .int .u64 0, .int .u64 0, .int .u64 0, .int .u64 0, .int .u64 0, .int .u64 0, .int .u64 0] (heap_alloc_last _ _) (by kernel_rfl) (by kernel_rfl) (by kernel_rfl) ?_)
  rw [World.setRow_alloc_new]
  obtain ⟨g5, hg5n⟩ : ∃ g5, g5 = w2.heap.size := ⟨_, rfl⟩
  obtain ⟨w3, hw3⟩ : ∃ w3, w3 = w2.alloc (Obj.cells (s1.cells .u64) 86) := ⟨_, rfl⟩
  rw [← hg5n, ← hw3]
  have hg5 : w3.heap[g5]? = some (.cells (s1.cells .u64) 86 (0, 0)) := by rw [hw3, hg5n]; exact heap_alloc_last _ _
  have kp3 : Keeps (fun _ => False) w1 w3 := by rw [hw3]; exact hk2.alloc _
  have hgvl : gv < w1.heap.size := (Array.getElem?_eq_some_iff.1 HV1.out).1
  have hgv5 : gv ≠ g5 := by have := hk2.size; omega
  have hv3 : w3.heap[gv]? = some (.cells C 128 (0, 0)) := by rw [kp3.block gv hgvl (fun h => h)]; exact HV1.out
  have hg5w : w.heap.size ≤ g5 := by have := hk2.size; have := kp1.size; omega
  have kw3 : Keeps (fun _ => False) w w3 := kp1.trans kp3
  have d0 : w3.cell? ⟨g5, 0, none⟩ = some (.int .u64 s1.a) := by rw [cell_of_row w3 g5 0 _ _ _ hg5]; rfl
  have d1 : w3.cell? ⟨g5, 1, none⟩ = some (.int .u64 s1.b) := by rw [cell_of_row w3 g5 1 _ _ _ hg5]; rfl
  have d2 : w3.cell? ⟨g5, 2, none⟩ = some (.int .u64 s1.c) := by rw [cell_of_row w3 g5 2 _ _ _ hg5]; rfl
  have d3 : w3.cell? ⟨g5, 3, none⟩ = some (.int .u64 s1.d) := by rw [cell_of_row w3 g5 3 _ _ _ hg5]; rfl
  have d4 : w3.cell? ⟨g5, 4, none⟩ = some (.int .u64 s1.e) := by rw [cell_of_row w3 g5 4 _ _ _ hg5]; rfl
  have d5 : w3.cell? ⟨g5, 5, none⟩ = some (.int .u64 s1.f) := by rw [cell_of_row w3 g5 5 _ _ _ hg5]; rfl
  have d6 : w3.cell? ⟨g5, 6, none⟩ = some (.int .u64 s1.g) := by rw [cell_of_row w3 g5 6 _ _ _ hg5]; rfl
  have d7 : w3.cell? ⟨g5, 7, none⟩ = some (.int .u64 s1.h) := by rw [cell_of_row w3 g5 7 _ _ _ hg5]; rfl
  have cv3 : w3.cell? ⟨gv, 0, none⟩ = some (.int .i64 8) := by rw [cell_of_row w3 gv 0 _ _ _ hv3, HC.out]; exact kind64_c0
  have HG5 := hid hg5
  clear hw3 hg5n hg5 hk2 cv0
  simp only [Act.put]
  have HTAIL := hid (fun W (k : Keeps (fun _ => False) w1 W) => tail128_any a c b W (by rw [← HM.out]; exact hb) HCAP.out (HR.out.keeps (kp1.trans k) (fun _ _ h => h)))
  rw [← HM.out] at HTAIL
  obtain ⟨p, hp⟩ : ∃ p, p = ptail128 b := ⟨_, rfl⟩
  rw [← hp] at HTAIL
  have HP := hid hp
  clear hp
  have HAFT := hid (fun W (k : Keeps (fun _ => False) w1 W) g (h : RowAt (fun _ => True) .u8 W (some ⟨g, 0, none⟩) p) => after64_any gv s1 p (some ⟨g, 0, none⟩) p.length W (by rw [k.block gv hgvl (fun h => h), ← HC.out]; exact HV1.out) (Nat.le_refl _) h)
  simp only [Wd8.cells_def] at HAFT
  obtain ⟨s2, hs2⟩ : ∃ s2, s2 = pchain64 s1 p (p.length / 128) := ⟨_, rfl⟩
  rw [← hs2] at HAFT
  have HS2 := hid hs2
  clear hs2
  have hk3 : Keeps (fun _ => False) w1 w3.drew := kp3.drew
  have hl3 : gv < w3.heap.size ∧ g5 < w3.heap.size := ⟨(Array.getElem?_eq_some_iff.1 hv3).1, (Array.getElem?_eq_some_iff.1 HG5.out).1⟩
  obtain ⟨hl3, hl5⟩ := hl3
  go_region_with (first
    | (go_at_call 123
       refine (HTAIL.out _ (by assumption)).mono ?_
       rintro e w4 ⟨g, rfl, hrow, hk4⟩
       have hk34 := hk3.trans hk4
       have cv4 : w4.cell? ⟨gv, 0, none⟩ = some (.int .i64 8) := by rw [hk4.cell (p := ⟨gv, 0, none⟩) hl3 (fun h => h)]; exact cv3
       have e0 : w4.cell? ⟨g5, 0, none⟩ = some (.int .u64 s1.a) := by rw [hk4.cell (p := ⟨g5, 0, none⟩) hl5 (fun h => h)]; exact d0
       have e1 : w4.cell? ⟨g5, 1, none⟩ = some (.int .u64 s1.b) := by rw [hk4.cell (p := ⟨g5, 1, none⟩) hl5 (fun h => h)]; exact d1
       have e2 : w4.cell? ⟨g5, 2, none⟩ = some (.int .u64 s1.c) := by rw [hk4.cell (p := ⟨g5, 2, none⟩) hl5 (fun h => h)]; exact d2
       have e3 : w4.cell? ⟨g5, 3, none⟩ = some (.int .u64 s1.d) := by rw [hk4.cell (p := ⟨g5, 3, none⟩) hl5 (fun h => h)]; exact d3
       have e4 : w4.cell? ⟨g5, 4, none⟩ = some (.int .u64 s1.e) := by rw [hk4.cell (p := ⟨g5, 4, none⟩) hl5 (fun h => h)]; exact d4
       have e5 : w4.cell? ⟨g5, 5, none⟩ = some (.int .u64 s1.f) := by rw [hk4.cell (p := ⟨g5, 5, none⟩) hl5 (fun h => h)]; exact d5
       have e6 : w4.cell? ⟨g5, 6, none⟩ = some (.int .u64 s1.g) := by rw [hk4.cell (p := ⟨g5, 6, none⟩) hl5 (fun h => h)]; exact d6
       have e7 : w4.cell? ⟨g5, 7, none⟩ = some (.int .u64 s1.h) := by rw [hk4.cell (p := ⟨g5, 7, none⟩) hl5 (fun h => h)]; exact d7)
    | (go_at_call 122
       refine (HAFT.out _ (by assumption) _ (by assumption)).mono ?_
       rintro e w5 ⟨rfl, hk5⟩
       have hh5 : w5.heap[g5]? = some (.cells (s1.cells .u64) 86 (0, 0)) := by
         rw [hk5.block g5 (Nat.lt_of_lt_of_le hl5 hk4.size) (fun h => h), hk4.block g5 hl5 (fun h => h)]; exact HG5.out
       have f0 : w5.cell? ⟨g5, 0, none⟩ = some (.int .u64 s1.a) := by rw [cell_of_row w5 g5 0 _ _ _ hh5]; rfl
       have f1 : w5.cell? ⟨g5, 1, none⟩ = some (.int .u64 s1.b) := by rw [cell_of_row w5 g5 1 _ _ _ hh5]; rfl
       have f2 : w5.cell? ⟨g5, 2, none⟩ = some (.int .u64 s1.c) := by rw [cell_of_row w5 g5 2 _ _ _ hh5]; rfl
       have f3 : w5.cell? ⟨g5, 3, none⟩ = some (.int .u64 s1.d) := by rw [cell_of_row w5 g5 3 _ _ _ hh5]; rfl
       have f4 : w5.cell? ⟨g5, 4, none⟩ = some (.int .u64 s1.e) := by rw [cell_of_row w5 g5 4 _ _ _ hh5]; rfl
       have f5 : w5.cell? ⟨g5, 5, none⟩ = some (.int .u64 s1.f) := by rw [cell_of_row w5 g5 5 _ _ _ hh5]; rfl
       have f6 : w5.cell? ⟨g5, 6, none⟩ = some (.int .u64 s1.g) := by rw [cell_of_row w5 g5 6 _ _ _ hh5]; rfl
       have f7 : w5.cell? ⟨g5, 7, none⟩ = some (.int .u64 s1.h) := by rw [cell_of_row w5 g5 7 _ _ _ hh5]; rfl
       have z0 : w5.frozen? ⟨g5, 0, none⟩ = false := frozen_of_row w5 g5 0 _ _ hh5
       have z1 : w5.frozen? ⟨g5, 1, none⟩ = false := frozen_of_row w5 g5 1 _ _ hh5
       have z2 : w5.frozen? ⟨g5, 2, none⟩ = false := frozen_of_row w5 g5 2 _ _ hh5
       have z3 : w5.frozen? ⟨g5, 3, none⟩ = false := frozen_of_row w5 g5 3 _ _ hh5
       have z4 : w5.frozen? ⟨g5, 4, none⟩ = false := frozen_of_row w5 g5 4 _ _ hh5
       have z5 : w5.frozen? ⟨g5, 5, none⟩ = false := frozen_of_row w5 g5 5 _ _ hh5
       have z6 : w5.frozen? ⟨g5, 6, none⟩ = false := frozen_of_row w5 g5 6 _ _ hh5
       have z7 : w5.frozen? ⟨g5, 7, none⟩ = false := frozen_of_row w5 g5 7 _ _ hh5))
  all_goals
    obtain ⟨w6, hw6⟩ : ∃ w6, w6 = ((((((((w5).setCell ⟨g5, 0, none⟩ (.int .u64 s2.a)).setCell ⟨g5, 1, none⟩ (.int .u64 s2.b)).setCell ⟨g5, 2, none⟩ (.int .u64 s2.c)).setCell ⟨g5, 3, none⟩ (.int .u64 s2.d)).setCell ⟨g5, 4, none⟩ (.int .u64 s2.e)).setCell ⟨g5, 5, none⟩ (.int .u64 s2.f)).setCell ⟨g5, 6, none⟩ (.int .u64 s2.g)).setCell ⟨g5, 7, none⟩ (.int .u64 s2.h) := ⟨_, rfl⟩
    have h6 : w6.heap[g5]? = some (.cells (s2.cells .u64) 86 (0, 0)) := by rw [hw6]; exact heap_set8 w5 g5 86 _ _ _ _ _ _ _ _ _ _ _ _ _ _ _ _ hh5
    have kw5 : Keeps (fun _ => False) w w5 := (kw3.drew.trans hk4).trans hk5
    have hno : g5 < w.heap.size → False := fun h => by omega
    have kw6 : Keeps (fun _ => False) w w6 := by rw [hw6]; exact Keeps.setCell (Keeps.setCell (Keeps.setCell (Keeps.setCell (Keeps.setCell (Keeps.setCell (Keeps.setCell (Keeps.setCell (kw5) _ _ hno) _ _ hno) _ _ hno) _ _ hno) _ _ hno) _ _ hno) _ _ hno) _ _ hno
    have hlv5 : gv < w5.heap.size := Nat.lt_of_lt_of_le (Nat.lt_of_lt_of_le hl3 hk4.size) hk5.size
    have cv5 : w5.cell? ⟨gv, 0, none⟩ = some (.int .i64 8) := by rw [hk5.cell (p := ⟨gv, 0, none⟩) (Nat.lt_of_lt_of_le hl3 hk4.size) (fun h => h)]; exact cv4
    have hyes : g5 < w5.heap.size → g5 = g5 := fun _ => rfl
    have k56 : Keeps (· = g5) w5 w6 := by rw [hw6]; exact Keeps.setCell (Keeps.setCell (Keeps.setCell (Keeps.setCell (Keeps.setCell (Keeps.setCell (Keeps.setCell (Keeps.setCell (Keeps.refl _ w5) _ _ hyes) _ _ hyes) _ _ hyes) _ _ hyes) _ _ hyes) _ _ hyes) _ _ hyes) _ _ hyes
    have cv6 : w6.cell? ⟨gv, 0, none⟩ = some (.int .i64 8) := by rw [k56.cell (p := ⟨gv, 0, none⟩) hlv5 hgv5]; exact cv5
    have hlv6 : gv < w6.heap.size := Nat.lt_of_lt_of_le hlv5 k56.size
    have hl56 : g5 < w6.heap.size := (Array.getElem?_eq_some_iff.1 h6).1
    rw [← hw6]
    clear hw6 k56 cv5 hno hyes d0 d1 d2 d3 d4 d5 d6 d7 e0 e1 e2 e3 e4 e5 e6 e7 f0 f1 f2 f3 f4 f5 f6 f7 z0 z1 z2 z3 z4 z5 z6 z7 cv3 cv4 hrow
    try clear hh5 hv3 hk3 hk34
    go_wp2_with (at_make; (refine wpList_make_own _ rfl _ _ 33 rfl w6.heap.size 5 i0 (.int .u8 0) 1 Tryz.underlying33 hi hz0 hz1 .i64 .i64 _ 64 rfl rfl rfl (by rw [hz2]; omega) (by unfold maxLen; omega) (Nat.le_refl _) ?_))
    intro w7 hown7 hg7
    have k67 : Keeps (fun _ => False) w6 w7 := (Keeps.refl _ w6).grown hg7 (fun k h => by cases h)
    have hO7 : OwnI .u8 5 w6.heap.size w7 (.slice (some ⟨w6.heap.size, 0, none⟩) 0 64) [] := ⟨by simpa using hown7, by simp, by simp⟩
    have h7 : w7.heap[g5]? = some (.cells (s2.cells .u64) 86 (0, 0)) := by rw [k67.block g5 hl56 (fun h => h)]; exact h6
    have cv7 : w7.cell? ⟨gv, 0, none⟩ = some (.int .i64 8) := by rw [k67.cell (p := ⟨gv, 0, none⟩) hlv6 (fun h => h)]; exact cv6
    have kw7 : Keeps (fun _ => False) w w7 := kw6.trans k67
    obtain ⟨base, hbase⟩ : ∃ base, base = w6.heap.size := ⟨_, rfl⟩
    rw [← hbase] at hO7 hlv6 hl56 ⊢
    have hb7 : base ≤ w7.heap.size := by have := k67.size; omega
    have hbw : w.heap.size ≤ base := by have := kw6.size; omega
    have hvb : ¬ base ≤ gv := by omega
    clear hown7 hg7 k67 h6 cv6 kw6 hbase
    obtain ⟨C2, hC2⟩ : ∃ C2, C2 = s2.cells .u64 := ⟨_, rfl⟩
    have HIX := hid (fun (i : Nat) (hi : i < 8) => run_index_words (P := Tryz.prog) 86 52 .u64 s2.list Tryz.underlying86 (fun w => by kernel_rfl) (by kernel_rfl) i hi)
    rw [← Wd8.cells_list, ← hC2] at HIX
    rw [← hC2] at h7
    have HCS := hid (show (Tryz.prog.info? 86).map (·.size) = some C2.size by rw [hC2]; kernel_rfl)
    clear hC2
    go_wp2_with (refine wpList_load_row rfl _ _ rfl g5 rfl _ C2 (0, 0) _ h7 Tryz.underlying86 rfl HCS.out ?_)
    go_loopw [6, 26] (fun v i wr => POuts64 s2.list base w7 v i wr) (fun _ i _ => 8 - (intOf i).toNat)
    case atStart => exact ⟨0, rfl, by omega, hO7, Keeps.refl _ _⟩
    case round =>
      clear hO7 h7
      obtain ⟨n, rfl, hn, hown, hkr⟩ := hrel
      have cvr : wr.cell? ⟨gv, 0, none⟩ = some (.int .i64 8) := by rw [hkr.cell (p := ⟨gv, 0, none⟩) (Nat.lt_of_lt_of_le hlv6 hb7) hvb]; exact cv7
      by_cases hlt : n < 8
      · have hlt' : (n : Int) < 8 := by omega
        have hix := HIX.out n hlt
        obtain ⟨x, hx⟩ : ∃ x, x = s2.list.getD n 0 := ⟨_, rfl⟩
        rw [← hx] at hix
        have HX := hid hx
        clear hx
        obtain ⟨wo, rfl⟩ : ∃ wo : World, wo = wr := ⟨_, rfl⟩
        go_wp2_with fail
        go_loopw [6, 31] (fun v i wr => PWord64 s2.list n x base wo v i wr) (fun _ i _ => 8 - (intOf i).toNat)
        case atStart => exact ⟨0, rfl, by omega, by rw [List.take_zero, List.append_nil]; exact hown, Keeps.refl _ _⟩
        case round =>
          clear hown
          obtain ⟨k, rfl, hk, hown, hki⟩ := hrel
          have cvi : wr.cell? ⟨gv, 0, none⟩ = some (.int .i64 8) := by rw [hki.cell (p := ⟨gv, 0, none⟩) (Nat.lt_of_lt_of_le hlv6 (Nat.le_trans hb7 hkr.size)) hvb]; exact cvr
          by_cases hlk : k < 8
          · have hlk' : (k : Int) < 8 := by omega
            obtain ⟨q, hq⟩ : ∃ q, q = 7 - k := ⟨_, rfl⟩
            have hqi : 7 - (k : Int) = (q : Int) := by omega
            have hq7 : q ≤ 7 := by omega
            have HQ := hid hq
            have hlew : base ≤ wr.heap.size := by have := hki.size; have := hkr.size; omega
            have HLEN := hid (show (outs64 s2.list n ++ (outWord64 x 8).take k).length + 1 ≤ 17592186044416 by rw [List.length_append, outs64_len, List.length_take]; omega)
            clear hq
            go_wp2_with (at_builtin; (refine wpList_push rfl _ _ 33 rfl .u8 base 5 i0 1 Tryz.underlying33 hi hz0 hz1 hz2 u6 _ (byteAt x q) rfl hown rfl (byteAt_wf _ _) HLEN.out (by omega) hlew ?_))
            intro v' w8 hown8 hk8 _
            go_wp2
            go_roundw
            case rel =>
              refine ⟨k + 1, rfl, by omega, ?_, hki.step hk8 (fun i _ hb => (hown.base i hb).1)⟩
              rw [HQ.out, outw64_take x k hlk] at hown8
              exact hown8
            case measure => simp [intOf]; omega
          · have hS : k = 8 := by omega
            subst hS
            go_wp2_with fail
            go_roundw
            case rel =>
              refine ⟨n + 1, rfl, by omega, ?_, hkr.trans hki⟩
              rw [outs64, ← HX.out]
              exact hown
            case measure => simp [intOf]; omega
      · have h8 : n = 8 := by omega
        subst h8
        go_wp2_with fail
        go_ret
        refine ⟨_, rfl, ?_, kw7.step hkr (fun i hi e => by omega)⟩
        rw [sha512, ← whole64 b, ← HP.out, ← HM.out, ← HSS.out, ← HS1.out, ← HS2.out]
        exact hown.lower hbw
end Go.Proofs.YtdeigmjbcbjgeaaGreatDoor
/-
  The program's functions of layer 4 keep their promises.
-/
namespace Go.Proofs.YtdeigmjbcbjgeaaGreatDoor
open Go.RowKit

set_option maxHeartbeats 1000000 in
set_option maxRecDepth 100000 in
theorem prgSum512 : PSum512 := by
  intro a c b w hb hc hr
  obtain ⟨C, hC⟩ : ∃ C, C = kind64 := ⟨_, rfl⟩
  have HK := hid (fun W => kind512_any W)
  have HS := hid (fun (W : World) (h : RowAt (fun _ => True) .u8 W a b) => sum64_any a c b W hb hc h)
  rw [← hC] at HK HS
  clear hC
  go_enter Tryz.func91, Tryz.ntmps91
  go_wp2_with fail
  refine (HK.out w).mono ?_
  rintro e w1 ⟨rfl, hk1⟩
  go_wp2_with fail
  refine (HS.out w1 (hr.keeps hk1 (fun _ _ h => h))).mono ?_
  rintro e w2 ⟨v, rfl, hown, hk2⟩
  go_wp2_with fail
  go_ret
  exact ⟨v, rfl, hown.lower hk1.size, hk1.trans hk2⟩
end Go.Proofs.YtdeigmjbcbjgeaaGreatDoor
