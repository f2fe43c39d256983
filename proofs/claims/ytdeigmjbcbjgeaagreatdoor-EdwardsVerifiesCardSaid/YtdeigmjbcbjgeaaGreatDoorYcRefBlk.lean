import Derived.BigRegion
import Derived.StillTailTactics
import Derived.Test.YtdeigmjbcbjgeaaGreatDoorYcRefSha
import Derived.Test.YtdeigmjbcbjgeaaGreatDoorYcTail
namespace Go.Proofs.YtdeigmjbcbjgeaaGreatDoor
open Go.RowKit
theorem neg_mask64 : ∀ n : Fin 64, 1 ≤ n.val → bits .and .u64 (IntKind.u64.wrap (-(n.val : Int))) 63 = ((64 - n.val : Nat) : Int) := by decide +kernel
def ror64 (x : Int) (n : Nat) : Int := rot64 x (64 - n)
set_option maxHeartbeats 400000 in
theorem refR64_any (x : Int) (n : Nat) (w : World) (h1 : 1 ≤ n) (h2 : n < 64) :
  Calls Tryz.prog 104 #[.int .u64 x, .int .i64 n] w fun e w' => e = .returned (.int .u64 (ror64 x n)) ∧ w = w' := by
 have HC := hid (Rot64_any x (-(n : Int)) (64 - n) w (neg_mask64 ⟨n, h2⟩ h1) (by omega))
 have h2' : (n : Int) < 64 := by omega
 go_enter Tryz.func104, Tryz.ntmps104
 go_wp2_with fail
 refine (HC.out).mono ?_
 rintro e w1 ⟨rfl, rfl⟩
 go_wp2
 go_ret
 exact ⟨rfl, rfl⟩
theorem refR64_z (x z : Int) (w : World) (h1 : 1 ≤ z) (h2 : z < 64) : Calls Tryz.prog 104 #[.int .u64 x, .int .i64 z] w fun e w' => e = .returned (.int .u64 (ror64 x z.toNat)) ∧ w' = w := by
 obtain ⟨n, rfl⟩ := Int.eq_ofNat_of_zero_le (show 0 ≤ z by omega)
 exact (refR64_any x n w (by omega) (by omega)).mono fun _ _ h => ⟨h.1, h.2.symm⟩
end Go.Proofs.YtdeigmjbcbjgeaaGreatDoor
namespace Go.Proofs.YtdeigmjbcbjgeaaGreatDoor
open Go.RowKit
structure Wd8 where
 (a b c d e f g h : Int)
def Wd8.cells (k : IntKind) (s : Wd8) : Array Value := #[.int k s.a, .int k s.b, .int k s.c, .int k s.d, .int k s.e, .int k s.f, .int k s.g, .int k s.h]
theorem Wd8.cells_def (k : IntKind) (s : Wd8) : s.cells k = #[.int k s.a, .int k s.b, .int k s.c, .int k s.d, .int k s.e, .int k s.f, .int k s.g, .int k s.h] := rfl
theorem size80 : (Tryz.prog.info? 112).map (·.size) = some (wordsOf .u64 refKs).size := by kernel_rfl
theorem set_pad (L : List Int) (n : Nat) (x : Int) (h : L.length < n) : (L ++ List.replicate (n - L.length) 0).set L.length x = (L ++ [x]) ++ List.replicate (n - (L.length + 1)) 0 := by
 rw [show n - L.length = (n - (L.length + 1)) + 1 by omega, List.replicate_succ, List.set_append_right _ _ (Nat.le_refl _)]
 simp
def Wd8.list (s : Wd8) : List Int := [s.a, s.b, s.c, s.d, s.e, s.f, s.g, s.h]
theorem Wd8.cells_list (k : IntKind) (s : Wd8) : s.cells k = wordsOf k s.list := rfl
def add8 (m : Int) (h s : Wd8) : Wd8 := ⟨(h.a + s.a) % m, (h.b + s.b) % m, (h.c + s.c) % m, (h.d + s.d) % m, (h.e + s.e) % m, (h.f + s.f) % m, (h.g + s.g) % m, (h.h + s.h) % m⟩
def sumTo (m : Int) (h s : Wd8) (i : Nat) : List Int := (add8 m h s).list.take i ++ h.list.drop i
theorem sumTo_set (m : Int) (h s : Wd8) : ∀ i, i < 8 → (sumTo m h s i).set i ((h.list.getD i 0 + s.list.getD i 0) % m) = sumTo m h s (i + 1)
 | 0, _ => rfl | 1, _ => rfl | 2, _ => rfl | 3, _ => rfl | 4, _ => rfl | 5, _ => rfl | 6, _ => rfl | 7, _ => rfl
 | n + 8, h => absurd h (by omega)
theorem sumTo_get (m : Int) (h s : Wd8) : ∀ i, i < 8 → (sumTo m h s i).getD i 0 = h.list.getD i 0
 | 0, _ => rfl | 1, _ => rfl | 2, _ => rfl | 3, _ => rfl | 4, _ => rfl | 5, _ => rfl | 6, _ => rfl | 7, _ => rfl
 | n + 8, h => absurd h (by omega)
theorem sumTo_len (m : Int) (h s : Wd8) (i : Nat) (hi : i ≤ 8) : (sumTo m h s i).length = 8 := by simp [sumTo, Wd8.list]; omega
end Go.Proofs.YtdeigmjbcbjgeaaGreatDoor
namespace Go.Proofs.YtdeigmjbcbjgeaaGreatDoor
open Go.RowKit
def part64 (b : List Int) (t : Nat) : Nat → Int
 | 0 => 0
 | i + 1 => bits .or .u64 (part64 b t i * 256 % 18446744073709551616) (b.getD (8 * t + i) 0)
def word64 (b : List Int) (t : Nat) : Int := part64 b t 8
def next64 (l : List Int) (t : Nat) : Int :=
 (bits .xor .u64 (bits .xor .u64 (ror64 (l.getD (t - 2) 0) 19) (ror64 (l.getD (t - 2) 0) 61)) (l.getD (t - 2) 0 / 64) + l.getD (t - 7) 0 +
  bits .xor .u64 (bits .xor .u64 (ror64 (l.getD (t - 15) 0) 1) (ror64 (l.getD (t - 15) 0) 8)) (l.getD (t - 15) 0 / 128) + l.getD (t - 16) 0) % 18446744073709551616
def sched64 (b : List Int) : Nat → List Int
 | 0 => []
 | t + 1 => sched64 b t ++ [if t < 16 then word64 b t else next64 (sched64 b t) t]
theorem sched64_len (b : List Int) : ∀ t, (sched64 b t).length = t
 | 0 => rfl
 | t + 1 => by simp [sched64, sched64_len b t]
def schedCells64 (b : List Int) (t : Nat) : List Int := sched64 b t ++ List.replicate (80 - t) 0
theorem schedCells64_set (b : List Int) (t : Nat) (x : Int) (h : t < 80) (hx : x = if t < 16 then word64 b t else next64 (sched64 b t) t) : (schedCells64 b t).set t x = schedCells64 b (t + 1) := by
 have h1 := set_pad (sched64 b t) 80 x (by rw [sched64_len]; exact h)
 rw [sched64_len] at h1
 rw [schedCells64, h1, schedCells64, sched64, hx]
theorem schedCells64_len (b : List Int) (t : Nat) (h : t ≤ 80) : (schedCells64 b t).length = 80 := by simp [schedCells64, sched64_len]; omega
theorem schedCells64_old (b : List Int) (t i : Nat) (h : i < t) : (schedCells64 b t).getD i 0 = (sched64 b t).getD i 0 := by
 simp [schedCells64, List.getD_eq_getElem?_getD, List.getElem?_append, sched64_len, h]
theorem schedCells64_new (b : List Int) (t i : Nat) (h : t ≤ i) : (schedCells64 b t).getD i 0 = 0 := by
 rw [schedCells64, List.getD_eq_getElem?_getD, List.getElem?_append_right (by rw [sched64_len]; exact h), List.getElem?_replicate]
 split <;> rfl
def Sched512 (b : List Int) (gw : Nat) (w2 : World) (i : Value) (wr : World) : Prop :=
 ∃ t : Nat, i = .int .i64 t ∧ t ≤ 80 ∧ wr.heap[gw]? = some (.cells (wordsOf .u64 (schedCells64 b t)) 112 (0, 0)) ∧ Keeps (· = gw) w2 wr
def sumE64 (s : Wd8) (k w : Int) : Int :=
 s.h + bits .xor .u64 (bits .xor .u64 (ror64 s.e 14) (ror64 s.e 18)) (ror64 s.e 41) +
  bits .xor .u64 (bits .and .u64 s.e s.f) (bits .and .u64 (bits .xor .u64 IntKind.u64.max s.e) s.g) + k + w
def sumA64 (s : Wd8) : Int :=
 bits .xor .u64 (bits .xor .u64 (ror64 s.a 28) (ror64 s.a 34)) (ror64 s.a 39) +
  bits .xor .u64 (bits .xor .u64 (bits .and .u64 s.a s.b) (bits .and .u64 s.a s.c)) (bits .and .u64 s.b s.c)
def schedPart (b : List Int) (t i : Nat) : List Int := (sched64 b t ++ [part64 b t i]) ++ List.replicate (80 - (t + 1)) 0
theorem schedPart_zero (b : List Int) (t : Nat) (h : t < 80) : schedPart b t 0 = schedCells64 b t := by
 rw [schedPart, schedCells64, show 80 - t = (80 - (t + 1)) + 1 by omega, List.replicate_succ, List.append_assoc]; rfl
theorem schedPart_full (b : List Int) (t : Nat) (h : t < 16) : schedPart b t 8 = schedCells64 b (t + 1) := by
 rw [schedPart, schedCells64, sched64, if_pos h]; rfl
theorem schedPart_len (b : List Int) (t i : Nat) (h : t < 80) : (schedPart b t i).length = 80 := by simp [schedPart, sched64_len]; omega
theorem schedPart_get (b : List Int) (t i : Nat) : (schedPart b t i).getD t 0 = part64 b t i := by
 rw [schedPart, List.append_assoc, List.getD_eq_getElem?_getD, List.getElem?_append_right (by rw [sched64_len]; exact Nat.le_refl _), sched64_len]; simp
theorem schedPart_set (b : List Int) (t i : Nat) (x : Int) (hx : x = part64 b t (i + 1)) : (schedPart b t i).set t x = schedPart b t (i + 1) := by
 subst hx
 rw [schedPart, schedPart, List.append_assoc, List.set_append_right _ _ (by rw [sched64_len]; exact Nat.le_refl _), sched64_len]; simp
def Bytes512 (b : List Int) (t gw : Nat) (wo : World) (i : Value) (wr : World) : Prop :=
 ∃ k : Nat, i = .int .i64 k ∧ k ≤ 8 ∧ wr.heap[gw]? = some (.cells (wordsOf .u64 (schedPart b t k)) 112 (0, 0)) ∧ Keeps (· = gw) wo wr
def step64 (s : Wd8) (k w : Int) : Wd8 := ⟨(sumE64 s k w + sumA64 s) % 18446744073709551616, s.a, s.b, s.c, (s.d + sumE64 s k w) % 18446744073709551616, s.e, s.f, s.g⟩
def state64 (h : Wd8) (b : List Int) : Nat → Wd8
 | 0 => h
 | t + 1 => step64 (state64 h b t) (refKs.getD t 0) ((sched64 b 80).getD t 0)
def Rounds512 (h : Wd8) (b : List Int) (gs : Nat) (w3 : World) (i : Value) (wr : World) : Prop :=
 ∃ t : Nat, i = .int .i64 t ∧ t ≤ 80 ∧ wr.heap[gs]? = some (.cells ((state64 h b t).cells .u64) 86 (0, 0)) ∧ Keeps (· = gs) w3 wr
def block64 (h : Wd8) (b : List Int) : Wd8 := add8 18446744073709551616 h (state64 h b 80)
def Adds512 (h s : Wd8) (gh : Nat) (w4 : World) (i : Value) (wr : World) : Prop :=
 ∃ t : Nat, i = .int .i64 t ∧ t ≤ 8 ∧ wr.heap[gh]? = some (.cells (wordsOf .u64 (sumTo 18446744073709551616 h s t)) 86 (0, 0)) ∧ Keeps (· = gh) w4 wr
def Blk512Post (h : Wd8) (b : List Int) (w : World) (e : Ending) (w' : World) : Prop :=
 e = .returned (.agg ((block64 h b).cells .u64)) ∧ Keeps (fun _ => False) w w'
set_option maxHeartbeats 4000000 in
set_option maxRecDepth 100000 in
theorem refBlock512_any (h : Wd8) (b : List Int) (a : Option Addr) (c : Nat) (w : World) (hb : b.length = 128) (hr : RowAt (fun _ => True) .u8 w a b) :
  Calls Tryz.prog 70 #[.agg (h.cells .u64), .slice a 128 c] w (Blk512Post h b w) := by
 rw [Wd8.cells_def]
 obtain ⟨hz80, _⟩ := zero_of_info zero80
 have HZ64 := hid (show Array.replicate 80 (Value.int .u64 0) = wordsOf .u64 (schedCells64 b 0) from rfl)
 have HZ80 := hid (show (Array.replicate 80 (Value.int .u64 0)).size = (wordsOf .u64 refKs).size by kernel_rfl)
 have HK1 := hid (show (wordsOf .u64 refKs).all (·.oneCell') = true by kernel_rfl)
 have HS80 := hid size80
 have HKG := hid (show ∀ t, t < 80 → (wordsOf .u64 refKs)[t]? = some (.int .u64 (refKs.getD t 0)) from fun t h => wordsOf_get _ _ t h)
 generalize Array.replicate 80 (Value.int .u64 0) = Z80 at hz80 HZ80 HZ64
 go_enter Tryz.func70, Tryz.ntmps70
 go_wp2_with fail
 refine (refConstants_any _).mono ?_
 rintro e w1 ⟨rfl, hk1⟩
 have hgh1 := (hk1.block w.heap.size (by rw [World.size_alloc, World.size_alloc]; omega) (fun h => h)).trans (heap_alloc2_old w _ _)
 have hgr1 := (hk1.block (w.heap.size + 1) (by rw [World.size_alloc, World.size_alloc]; omega) (fun h => h)).trans (heap_alloc2_new w _ _)
 have hw1s : w.heap.size + 2 ≤ w1.heap.size := by have := hk1.size; simpa using this
 have kp1 : Keeps (fun _ => False) w w1 := Keeps.trans (Keeps.alloc (Keeps.alloc (Keeps.refl _ w) _) _) hk1
 have HGH1 := hid hgh1
 have HGR1 := hid hgr1
 clear hk1 hgh1 hgr1
 generalize wordsOf .u64 refKs = K at *
 go_wp2_with (refine wpList_store_row rfl _ _ _ rfl w1.heap.size K rfl rfl _ Z80 (heap_alloc_last _ _) HS80.out HZ80.out HK1.out ?_)
 rw [World.setRow_alloc_new]
 obtain ⟨g, off, rfl, hg, hbc⟩ : ∃ g off, a = some ⟨g, off, none⟩ ∧ g < w.heap.size ∧ ∀ j, j < b.length → w.cell? ⟨g, off + j, none⟩ = some (.int .u8 (b.getD j 0)) := by
  rcases hr.2.2 with h0 | ⟨g, off, h1, _, h2, h3⟩
  ·rw [h0] at hb; simp at hb
  ·exact ⟨g, off, h1, h2, h3⟩
 obtain ⟨w2, hw2⟩ : ∃ w2, w2 = (w1.alloc (Obj.cells K 112)).alloc (Obj.cells Z80 112) := ⟨_, rfl⟩
 have HW2 := hid hw2
 rw [← hw2]
 clear hw2
 have kp2 : Keeps (fun _ => False) w w2 := by
  rw [HW2.out]
  exact Keeps.alloc (Keeps.alloc kp1 _) _
 have hgw : w2.heap[w1.heap.size + 1]? = some (.cells (wordsOf .u64 (schedCells64 b 0)) 112 (0, 0)) := by
  rw [HW2.out, HZ64.out]; exact heap_alloc2_new w1 _ _
 have hgk : w2.heap[w1.heap.size]? = some (.cells K 112 (0, 0)) := by
  rw [HW2.out]; exact heap_alloc2_old w1 _ _
 have hs2 : w2.heap.size = w1.heap.size + 2 := by rw [HW2.out]; simp
 have hgr2 : w2.heap[w.heap.size + 1]? = some (.cells #[.int .u64 0, .int .u64 0, .int .u64 0, .int .u64 0, .int .u64 0, .int .u64 0, .int .u64 0, .int .u64 0] 86 (0, 0)) := by
  rw [HW2.out, Below.heap_alloc _ _ _ (by rw [World.size_alloc]; omega), Below.heap_alloc _ _ _ (by omega)]
  exact HGR1.out
 have HGR2 := hid hgr2
 clear hgr2
 obtain ⟨gk, hgkn⟩ : ∃ gk, gk = w1.heap.size := ⟨_, rfl⟩
 obtain ⟨gw, hgwn⟩ : ∃ gw, gw = w1.heap.size + 1 := ⟨_, rfl⟩
 rw [← hgwn] at hgw ⊢
 rw [← hgkn] at hgk ⊢
 have hgwb : w.heap.size + 2 < gw := by omega
 have HGW := hid hgwn
 have HGK := hid hgkn
 clear hgwn hgkn
 have HB := hid hbc
 have HGKc := hid hgk
 have HS2 := hid hs2
 clear hbc hgk hs2
 go_loopw [19] (fun i wr => Sched512 b gw w2 i wr) (fun i _ => 80 - (intOf i).toNat)
 case atStart => exact ⟨0, rfl, by omega, hgw, Keeps.refl _ _⟩
 case round =>
  obtain ⟨t, rfl, ht, hws, hkr⟩ := hrel
  by_cases h16 : t < 16
  ·have h16' : (t : Int) < 16 := by omega
   have h64' : (t : Int) < 80 := by omega
   obtain ⟨wo, rfl⟩ : ∃ wo : World, wo = wr := ⟨_, rfl⟩
   go_wp2_with fail
   go_loopw [24] (fun i wr => Bytes512 b t gw wo i wr) (fun i _ => 8 - (intOf i).toNat)
   case atStart => exact ⟨0, rfl, by omega, by rw [schedPart_zero b t (by omega)]; exact hws, Keeps.refl _ _⟩
   case round =>
    obtain ⟨i, rfl, hi8, hwi, hki⟩ := hrel
    by_cases hlt : i < 8
    ·have hlt' : (i : Int) < 8 := by omega
     have hgwo : g < wo.heap.size := by have := hkr.size; have := kp2.size; omega
     have c1 : wr.cell? ⟨g, off + (8 * t + i), none⟩ = some (.int .u8 (b.getD (8 * t + i) 0)) := by
      rw [hki.cell (p := ⟨g, _, none⟩) hgwo (by show ¬ g = gw; omega), hkr.cell (p := ⟨g, _, none⟩) (by have := kp2.size; show g < _; omega) (by show ¬ g = gw; omega), kp2.cell (p := ⟨g, _, none⟩) hg (fun h => h)]
      exact HB.out _ (by omega)
     obtain ⟨l0, u0⟩ := wf_u8 (hr.mem (j := 8 * t + i) (by omega))
     have c2 : wr.cell? ⟨gw, t, none⟩ = some (.int .u64 (part64 b t i)) := by
      rw [cell_of_row wr gw t _ _ _ hwi, wordsOf_get _ _ _ (by rw [schedPart_len b t i (by omega)]; omega), schedPart_get]
     have f2 : wr.frozen? ⟨gw, t, none⟩ = false := frozen_of_row wr gw t _ _ hwi
     have hx := (show part64 b t (i + 1) = bits .or .u64 (part64 b t i * 256 % 18446744073709551616) (b.getD (8 * t + i) 0) from rfl)
     have HX := hid hx
     clear hx
     generalize b.getD (8 * t + i) 0 = y at c1 HX l0 u0
     generalize part64 b t i = x at c2 HX
     clear hgwo
     go_wp2_with fail
     refine wp_region_tail 15 (by kernel_rfl) (by kernel_rfl) _ _ rfl rfl ?_
     simp only [List.take_succ_cons, List.take_zero, List.drop_succ_cons, List.drop_zero]
     repeat (first | go_big_quiet_skip | (go_big_quiet_want; go_big_quiet_op; first | go_big_quiet_on | (apply Exists.intro; refine ⟨?_, ?_⟩; (fail); go_big_quiet_on)))
     refine wpQuiet_nil ?_
     go_wp2
     go_roundw
     case rel =>
      refine ⟨i + 1, rfl, by omega, ?_, Keeps.drew (Keeps.setCell hki _ _ (fun _ => rfl))⟩
      rw [heap_drew, heap_setCell_same wr gw t _ _ _ hwi, wordsOf_set, IntKind.wrap_u64, schedPart_set b t i _ HX.out.symm]
     case measure => simp [intOf]; omega
    ·have h8 : i = 8 := by omega
     subst h8
     go_wp2_with fail
     go_roundw
     case rel =>
      refine ⟨t + 1, rfl, by omega, ?_, hkr.trans hki⟩
      rw [hwi, schedPart_full b t h16]
     case measure => simp [intOf]; omega
  ·have h16' : ¬ (t : Int) < 16 := by omega
   by_cases hlt : t < 80
   ·have h64' : (t : Int) < 80 := by omega
    have hold : ∀ j, j < t → wr.cell? ⟨gw, j, none⟩ = some (.int .u64 ((sched64 b t).getD j 0)) := fun j hj => by
     rw [cell_of_row wr gw j _ _ _ hws, wordsOf_get _ _ _ (by rw [schedCells64_len b t ht]; omega), schedCells64_old b t j hj]
    have c2 := hold (t - 2) (by omega)
    have c7 := hold (t - 7) (by omega)
    have c15 := hold (t - 15) (by omega)
    have c16 := hold (t - 16) (by omega)
    clear hold
    have cw : wr.cell? ⟨gw, t, none⟩ = some (.int .u64 0) := by
     rw [cell_of_row wr gw t _ _ _ hws, wordsOf_get _ _ _ (by rw [schedCells64_len b t ht]; omega), schedCells64_new b t t (Nat.le_refl _)]
    have fw : wr.frozen? ⟨gw, t, none⟩ = false := frozen_of_row wr gw t _ _ hws
    obtain ⟨y, hy⟩ : ∃ y, y = next64 (sched64 b t) t := ⟨_, rfl⟩
    have HW := hid hy
    have HY := hid hy
    clear hy
    unfold next64 at HW
    generalize (sched64 b t).getD (t - 2) 0 = x2 at c2 HW
    generalize (sched64 b t).getD (t - 7) 0 = x7 at c7 HW
    generalize (sched64 b t).getD (t - 15) 0 = x15 at c15 HW
    generalize (sched64 b t).getD (t - 16) 0 = x16 at c16 HW
    go_wp2_with fail
    go_quiet (fail)
    go_wp2_with fail
    refine wp_region_tail 29 (by kernel_rfl) (by kernel_rfl) _ _ rfl rfl ?_
    simp only [List.take_succ_cons, List.take_zero, List.drop_succ_cons, List.drop_zero]
    repeat (first | go_big_quiet_skip | (go_big_quiet_want; go_big_quiet_op; first | go_big_quiet_on | (apply Exists.intro; refine ⟨?_, ?_⟩; (exact refR64_z _ _ _ (by decide) (by decide)); go_big_quiet_on)))
    refine wpQuiet_nil ?_
    go_wp2
    go_roundw
    case rel =>
     refine ⟨t + 1, rfl, by omega, ?_, Keeps.setCell (Keeps.drewN hkr _) _ _ (fun _ => rfl)⟩
     rw [heap_setCell_same (wr.drewN (nq + 1)) gw t _ _ _ hws, wordsOf_set, schedCells64_set b t _ (by omega) (by rw [if_neg h16, ← HY.out, HW.out]; simp only [IntKind.wrap_u64, Int.emod_add_emod])]
    case measure => simp [intOf]; omega
   ·have h64' : (t : Int) = 80 := by omega
    have h64n : t = 80 := by omega
    have hgh : wr.heap[w.heap.size]? = some (.cells #[.int .u64 h.a, .int .u64 h.b, .int .u64 h.c, .int .u64 h.d, .int .u64 h.e, .int .u64 h.f, .int .u64 h.g, .int .u64 h.h] 86 (0, 0)) := by
     rw [hkr.block w.heap.size (by have := kp2.size; have := HS2.out; omega) (by omega), HW2.out]
     rw [Below.heap_alloc _ _ _ (by rw [World.size_alloc]; omega), Below.heap_alloc _ _ _ (by omega)]
     exact HGH1.out
    subst h64n
    go_wp2_with (refine wpList_load_row rfl _ _ rfl w.heap.size rfl _ _ (0, 0) _ hgh Tryz.underlying86 rfl (by kernel_rfl) ?_)
    obtain ⟨gs, hgs⟩ : ∃ gs, gs = wr.heap.size := ⟨_, rfl⟩
    obtain ⟨w3, hw3⟩ : ∃ w3, w3 = wr.alloc (Obj.cells #[.int .u64 h.a, .int .u64 h.b, .int .u64 h.c, .int .u64 h.d, .int .u64 h.e, .int .u64 h.f, .int .u64 h.g, .int .u64 h.h] 86) := ⟨_, rfl⟩
    rw [← hw3, ← hgs]
    have HW3 := hid hw3
    have HGS := hid hgs
    have hsz := hkr.size
    have hs2' := HS2.out
    have hgk' := HGK.out
    have hgw' := HGW.out
    have g1 : w3.heap[gw]? = some (.cells (wordsOf .u64 (schedCells64 b 80)) 112 (0, 0)) := by
     rw [HW3.out, Below.heap_alloc _ _ _ (by omega)]; exact hws
    have g2 : w3.heap[gk]? = some (.cells K 112 (0, 0)) := by
     rw [HW3.out, Below.heap_alloc _ _ _ (by omega), hkr.block gk (by omega) (by omega)]; exact HGKc.out
    have g3 : w3.heap[gs]? = some (.cells (h.cells .u64) 86 (0, 0)) := by
     rw [HW3.out, HGS.out]; exact heap_alloc_last _ _
    have g4 : w3.heap[w.heap.size]? = some (.cells (h.cells .u64) 86 (0, 0)) := by
     rw [HW3.out, Below.heap_alloc _ _ _ (by omega)]; exact hgh
    have g6 : w3.heap[w.heap.size + 1]? = some (.cells #[.int .u64 0, .int .u64 0, .int .u64 0, .int .u64 0, .int .u64 0, .int .u64 0, .int .u64 0, .int .u64 0] 86 (0, 0)) := by
     rw [HW3.out, Below.heap_alloc _ _ _ (by omega), hkr.block _ (by omega) (by omega)]; exact HGR2.out
    have HG6 := hid g6
    clear g6
    have g5 : gk < gs ∧ gw < gs ∧ gk ≠ gw ∧ w.heap.size + 1 < gk ∧ gk < w3.heap.size ∧ gw < w3.heap.size ∧ gs < w3.heap.size := by
     have : w3.heap.size = wr.heap.size + 1 := by rw [HW3.out, World.size_alloc]
     omega
    have HG1 := hid g1; have HG2 := hid g2; have HG4 := hid g4; have HG5 := hid g5
    have kp3 : Keeps (· = gw) w2 w3 := by rw [HW3.out]; exact Keeps.alloc hkr _
    clear hw3 hgs g1 g2 g4 g5 hgk' hgw' hs2' hsz hws hgh hkr
    go_loopw [82] (fun i wr => Rounds512 h b gs w3 i wr) (fun i _ => 80 - (intOf i).toNat)
    case atStart => exact ⟨0, rfl, by omega, g3, Keeps.refl _ _⟩
    case round =>
     rename_i wq
     clear g3
     obtain ⟨t, rfl, ht, hst, hkr⟩ := hrel
     by_cases hlt : t < 80
     ·have hlt' : (t : Int) < 80 := by omega
      obtain ⟨s, hs⟩ : ∃ s, s = state64 h b t := ⟨_, rfl⟩
      have HS := hid hs
      rw [← hs] at hst
      clear hs
      have c0 : wr.cell? ⟨gs, 0, none⟩ = some (.int .u64 s.a) := by rw [cell_of_row wr gs 0 _ _ _ hst]; rfl
      have c1 : wr.cell? ⟨gs, 1, none⟩ = some (.int .u64 s.b) := by rw [cell_of_row wr gs 1 _ _ _ hst]; rfl
      have c2 : wr.cell? ⟨gs, 2, none⟩ = some (.int .u64 s.c) := by rw [cell_of_row wr gs 2 _ _ _ hst]; rfl
      have c3 : wr.cell? ⟨gs, 3, none⟩ = some (.int .u64 s.d) := by rw [cell_of_row wr gs 3 _ _ _ hst]; rfl
      have c4 : wr.cell? ⟨gs, 4, none⟩ = some (.int .u64 s.e) := by rw [cell_of_row wr gs 4 _ _ _ hst]; rfl
      have c5 : wr.cell? ⟨gs, 5, none⟩ = some (.int .u64 s.f) := by rw [cell_of_row wr gs 5 _ _ _ hst]; rfl
      have c6 : wr.cell? ⟨gs, 6, none⟩ = some (.int .u64 s.g) := by rw [cell_of_row wr gs 6 _ _ _ hst]; rfl
      have c7 : wr.cell? ⟨gs, 7, none⟩ = some (.int .u64 s.h) := by rw [cell_of_row wr gs 7 _ _ _ hst]; rfl
      obtain ⟨o1, o2, o3, o4, o5, o6, o7⟩ := HG5.out
      have ck : wr.cell? ⟨gk, t, none⟩ = some (.int .u64 (refKs.getD t 0)) := by
       rw [cell_of_row wr gk t _ _ _ ((hkr.block gk o5 (by omega)).trans HG2.out)]; exact HKG.out t (by omega)
      have cw : wr.cell? ⟨gw, t, none⟩ = some (.int .u64 ((sched64 b 80).getD t 0)) := by
       rw [cell_of_row wr gw t _ _ _ ((hkr.block gw o6 (by omega)).trans HG1.out), wordsOf_get _ _ _ (by rw [schedCells64_len b 80 (by omega)]; omega), schedCells64_old b 80 t hlt]
      obtain ⟨kt, hkt⟩ : ∃ kt, kt = refKs.getD t 0 := ⟨_, rfl⟩
      obtain ⟨wt, hwt⟩ : ∃ wt, wt = (sched64 b 80).getD t 0 := ⟨_, rfl⟩
      have HKT := hid hkt; have HWT := hid hwt
      rw [← hkt] at ck; rw [← hwt] at cw
      clear hkt hwt o1 o2 o3 o4 o5 o6 o7
      go_wp2_with fail
      refine wp_region_tail 5 (by kernel_rfl) (by kernel_rfl) _ _ rfl rfl ?_
      simp only [List.take_succ_cons, List.take_zero, List.drop_succ_cons, List.drop_zero]
      repeat (first | go_big_quiet_skip | (go_big_quiet_want; go_big_quiet_op; first | go_big_quiet_on | (apply Exists.intro; refine ⟨?_, ?_⟩; (fail); go_big_quiet_on)))
      refine wpQuiet_nil ?_
      go_wp2
      refine wp_region_tail 30 (by kernel_rfl) (by kernel_rfl) _ _ rfl rfl ?_
      simp only [List.take_succ_cons, List.take_zero, List.drop_succ_cons, List.drop_zero]
      repeat (first | go_big_quiet_skip | (go_big_quiet_want; go_big_quiet_op; first | go_big_quiet_on | (apply Exists.intro; refine ⟨?_, ?_⟩; (exact refR64_z _ _ _ (by decide) (by decide)); go_big_quiet_on)))
      refine wpQuiet_nil ?_
      go_wp2
      refine wp_region_tail 24 (by kernel_rfl) (by kernel_rfl) _ _ rfl rfl ?_
      simp only [List.take_succ_cons, List.take_zero, List.drop_succ_cons, List.drop_zero]
      repeat (first | go_big_quiet_skip | (go_big_quiet_want; go_big_quiet_op; first | go_big_quiet_on | (apply Exists.intro; refine ⟨?_, ?_⟩; (exact refR64_z _ _ _ (by decide) (by decide)); go_big_quiet_on)))
      refine wpQuiet_nil ?_
      go_wp2_with (refine wpList_store_row rfl _ _ _ rfl gs _ rfl rfl _ (s.cells .u64) hst (by kernel_rfl) (by kernel_rfl) (by kernel_rfl) ?_)
      go_roundw
      case rel =>
       refine ⟨t + 1, rfl, by omega, ?_, ?_⟩
       ·rw [setRow_heap wr.drew.drew.drew gs _ _ _ _ hst, state64, ← HS.out, ← HKT.out, ← HWT.out]
        refine congrArg (fun x => some (Obj.cells x 86 (0, 0))) ?_
        unfold step64 Wd8.cells sumE64 sumA64
        simp only [IntKind.wrap_u64, Int.emod_add_emod, Int.add_emod_emod]
       ·exact Keeps.setRow (Keeps.drew (Keeps.drew (Keeps.drew hkr))) _ _ (fun _ => rfl)
      case measure => simp [intOf]; omega
     ·have h64 : t = 80 := by omega
      subst h64
      obtain ⟨s, hs⟩ : ∃ s, s = state64 h b 80 := ⟨_, rfl⟩
      have HS := hid hs
      rw [← hs] at hst
      clear hs
      obtain ⟨gh, hgh⟩ : ∃ gh, gh = w.heap.size := ⟨_, rfl⟩
      rw [← hgh]
      have HGH := hid hgh
      obtain ⟨o1, o2, o3, o4, o5, o6, o7⟩ := HG5.out
      have g4 : wr.heap[gh]? = some (.cells (wordsOf .u64 (sumTo 18446744073709551616 h s 0)) 86 (0, 0)) := by
       rw [HGH.out, hkr.block _ (by omega) (by omega)]; exact HG4.out
      have o8 : gh ≠ gs := by omega
      clear o1 o2 o3 o4 o5 o6 o7 hgh
      obtain ⟨wo, rfl⟩ : ∃ wo : World, wo = wr := ⟨_, rfl⟩
      go_wp2_with fail
      go_loopw [162] (fun i w => Adds512 h s gh wo i w) (fun i _ => 8 - (intOf i).toNat)
      case atStart => exact ⟨0, rfl, by omega, g4, Keeps.refl _ _⟩
      case round =>
       clear g4
       obtain ⟨t, rfl, ht, hah, hka⟩ := hrel
       by_cases hlt : t < 8
       ·have hlt' : (t : Int) < 8 := by omega
        have hL := hst
        rw [Wd8.cells_list] at hL
        have c1 : wr.cell? ⟨gh, t, none⟩ = some (.int .u64 (h.list.getD t 0)) := by
         rw [cell_of_row wr gh t _ _ _ hah, wordsOf_get _ _ _ (by rw [sumTo_len _ _ _ _ ht]; omega), sumTo_get _ _ _ t hlt]
        have f1 : wr.frozen? ⟨gh, t, none⟩ = false := frozen_of_row wr gh t _ _ hah
        obtain ⟨o1, o2, o3, o4, o5, o6, o7⟩ := HG5.out
        have c2 : wr.cell? ⟨gs, t, none⟩ = some (.int .u64 (s.list.getD t 0)) := by
         rw [cell_of_row wr gs t _ _ _ ((hka.block gs (by have := hkr.size; omega) (fun e => o8 e.symm)).trans hL), wordsOf_get _ _ _ (by simp [Wd8.list]; omega)]
        obtain ⟨x, hx⟩ : ∃ x, x = h.list.getD t 0 := ⟨_, rfl⟩
        obtain ⟨y, hy⟩ : ∃ y, y = s.list.getD t 0 := ⟨_, rfl⟩
        have HX := hid hx; have HY := hid hy
        rw [← hx] at c1; rw [← hy] at c2
        clear hx hy o1 o2 o3 o4 o5 o6 o7 hL
        go_wp2_with fail
        refine wp_region_tail 8 (by kernel_rfl) (by kernel_rfl) _ _ rfl rfl ?_
        simp only [List.take_succ_cons, List.take_zero, List.drop_succ_cons, List.drop_zero]
        repeat (first | go_big_quiet_skip | (go_big_quiet_want; go_big_quiet_op; first | go_big_quiet_on | (apply Exists.intro; refine ⟨?_, ?_⟩; (fail); go_big_quiet_on)))
        refine wpQuiet_nil ?_
        go_wp2
        go_roundw
        case rel =>
         refine ⟨t + 1, rfl, by omega, ?_, Keeps.drew (Keeps.setCell hka _ _ (fun _ => rfl))⟩
         rw [heap_drew, heap_setCell_same wr gh t _ _ _ hah, wordsOf_set, IntKind.wrap_u64, HX.out, HY.out, sumTo_set _ _ _ t hlt]
        case measure => simp [intOf]; omega
       ·have h8 : t = 8 := by omega
        subst h8
        obtain ⟨o1, o2, o3, o4, o5, o6, o7⟩ := HG5.out
        have hgh' := HGH.out
        have hgr : wr.heap[gh + 1]? = some (.cells #[.int .u64 0, .int .u64 0, .int .u64 0, .int .u64 0, .int .u64 0, .int .u64 0, .int .u64 0, .int .u64 0] 86 (0, 0)) := by
         rw [hka.block _ (by have := hkr.size; omega) (by omega), hkr.block _ (by omega) (by omega), hgh']; exact HG6.out
        have hfin : (block64 h b).list = sumTo 18446744073709551616 h s 8 := by rw [block64, ← HS.out]; rfl
        have HF := hid hfin
        have kf : Keeps (fun _ => False) w wr := by
         refine (((kp2.step kp3 (fun i hi e => ?_)).step hkr (fun i hi e => ?_)).step hka (fun i hi e => ?_)) <;> omega
        have hle : w.heap.size ≤ gh + 1 := by omega
        clear hfin o1 o2 o3 o4 o5 o6 o7 hgh'
        go_wp2_with (first
         | (refine wpList_load_row rfl _ _ rfl gh rfl _ _ (0, 0) _ hah Tryz.underlying86 rfl (by kernel_rfl) ?_)
         | (refine wpList_store_row rfl _ _ _ rfl (gh + 1) _ rfl rfl _ _ hgr (by kernel_rfl) (by kernel_rfl) (by kernel_rfl) ?_))
        refine bodyPost_ret (v := .agg (wordsOf .u64 (sumTo 18446744073709551616 h s 8))) (results_cell_row rfl _ _ (gh + 1) 86 (wordsOf .u64 (sumTo 18446744073709551616 h s 8)) (0, 0) _ rfl (setRow_heap _ _ _ _ _ _ hgr) Tryz.underlying86 rfl (by kernel_rfl)) rfl ?_
        exact ⟨by rw [Wd8.cells_list, HF.out], Keeps.setRow kf _ _ (fun hi => absurd hi (by omega))⟩
end Go.Proofs.YtdeigmjbcbjgeaaGreatDoor
namespace Go.Proofs.YtdeigmjbcbjgeaaGreatDoor
open Go.RowKit
def chain64 (p : List Int) : Nat → Wd8
 | 0 => ⟨7640891576956012808, 13503953896175478587, 4354685564936845355, 11912009170470909681, 5840696475078001361, 11170449401992604703, 2270897969802886507, 6620516959819538809⟩
 | n + 1 => block64 (chain64 p n) ((p.drop (128 * n)).take 128)
def outWord64 (x : Int) (j : Nat) : List Int := (List.range j).map fun i => byteAt x (7 - i)
theorem outWord64_len (x : Int) (j : Nat) : (outWord64 x j).length = j := by simp [outWord64]
theorem outWord64_succ (x : Int) (q : Nat) (hq : q < 8) : outWord64 x (7 - q) ++ [byteAt x q] = outWord64 x (8 - q) := by
 rw [show 8 - q = (7 - q) + 1 by omega, outWord64, outWord64, List.range_succ, List.map_append, show 7 - q = 7 - q from rfl]
 simp [show 7 - (7 - q) = q by omega]
def outs64 (l : List Int) : Nat → List Int
 | 0 => []
 | i + 1 => outs64 l i ++ outWord64 (l.getD i 0) 8
theorem outs64_len (l : List Int) : ∀ i, (outs64 l i).length = 8 * i
 | 0 => rfl
 | i + 1 => by rw [outs64, List.length_append, outs64_len l i, outWord64_len]; omega
def padded512 (b : List Int) : List Int := padL b ((239 - b.length % 128) % 128 + 8) 8
def sha512 (b : List Int) : List Int := outs64 (chain64 (padded512 b) ((padded512 b).length / 128)).list 8
def Sum512Post (b : List Int) (w : World) (e : Ending) (w' : World) : Prop :=
 ∃ v, e = .returned v ∧ OwnI .u8 5 w.heap.size w' v (sha512 b) ∧ Keeps (fun _ => False) w w'
def Chain512 (p : List Int) (g3 : Nat) (wp : World) (i : Value) (wr : World) : Prop :=
 ∃ n : Nat, i = .int .i64 ((128 * n : Nat) : Int) ∧ 128 * n ≤ p.length ∧ wr.heap[g3]? = some (.cells ((chain64 p n).cells .u64) 86 (0, 0)) ∧ Keeps (· = g3) wp wr
def Word512 (l : List Int) (n : Nat) (x : Int) (base : Nat) (wp : World) (v i : Value) (wr : World) : Prop :=
 ∃ k : Nat, k ≤ 8 ∧ i = .int .i64 ((k : Int) - 1) ∧ OwnI .u8 5 base wr v (outs64 l n ++ outWord64 x (8 - k)) ∧ Keeps (fun g => base ≤ g) wp wr
def Outs512 (l : List Int) (base : Nat) (wp : World) (v i : Value) (wr : World) : Prop :=
 ∃ n : Nat, i = .int .i64 n ∧ n ≤ 8 ∧ OwnI .u8 5 base wr v (outs64 l n) ∧ Keeps (fun g => base ≤ g) wp wr
set_option maxHeartbeats 4000000 in
set_option maxRecDepth 100000 in
theorem refSum512_any (a : Option Addr) (c : Nat) (b : List Int) (w : World) (hb : b.length ≤ 1000000000) (hc : a = none → c = 0) (hr : RowAt (fun _ => True) .u8 w a b) :
  Calls Tryz.prog 32 #[.slice a b.length c] w (Sum512Post b w) := by
 obtain ⟨i0, hi, hz0, hz1, hz2⟩ := info_parts info_u8p
 have HI := hid (show (chain64 (padded512 b) 0).cells .u64 = wordsOf .u64 refIs from rfl)
 go_enter Tryz.func32, Tryz.ntmps32
 go_wp2_with fail
 refine (refInitial_any _).mono ?_
 rintro e w1 ⟨rfl, hk1⟩
 rw [← HI.out]
 obtain ⟨S0, hS0⟩ : ∃ S0, S0 = chain64 (padded512 b) 0 := ⟨_, rfl⟩
 rw [← hS0]
 have HS0 := hid hS0
 clear hS0
 go_wp2_with (refine wpList_store_row rfl _ _ _ rfl w1.heap.size (S0.cells .u64) rfl rfl _ _ (heap_alloc_last _ _) (by kernel_rfl) (by kernel_rfl) (by kernel_rfl) ?_)
 rw [World.setRow_alloc_new]
 obtain ⟨w2, hw2⟩ : ∃ w2, w2 = w1.alloc (Obj.cells (S0.cells .u64) 86) := ⟨_, rfl⟩
 obtain ⟨g3, hg3⟩ : ∃ g3, g3 = w1.heap.size := ⟨_, rfl⟩
 rw [← hw2, ← hg3]
 have hst0 : w2.heap[g3]? = some (.cells (S0.cells .u64) 86 (0, 0)) := by rw [hw2, hg3]; exact heap_alloc_last _ _
 have kp2 : Keeps (fun _ => False) w w2 := by rw [hw2]; exact Keeps.alloc hk1 _
 have hg3s : w.heap.size ≤ g3 ∧ g3 < w2.heap.size := by
  have h1 := hk1.size
  have h2 : w2.heap.size = w1.heap.size + 1 := by rw [hw2, World.size_alloc]
  omega
 clear hw2 hg3 hk1
 refine (refPad128 a c b w2 hb hc (hr.keeps kp2 (fun _ _ h => h))).mono ?_
 rintro e w3 ⟨v, rfl, hown, hk3⟩
 have hp : padL b ((239 - b.length % 128) % 128 + 8) 8 = padded512 b := rfl
 rw [hp] at hown
 clear hp
 obtain ⟨p, hpp⟩ : ∃ p, p = padded512 b := ⟨_, rfl⟩
 have HP := hid hpp
 have hplen : ∃ q, p.length = 128 * q ∧ 1 ≤ q ∧ q ≤ 20000000 := by
  rw [hpp, padded512, padL_len]
  exact ⟨(b.length + 1 + ((239 - b.length % 128) % 128 + 8) + 8) / 128, by omega, by omega, by omega⟩
 obtain ⟨q, hpl, hq1, hq2⟩ := hplen
 rw [← hpp] at hown
 clear hpp
 obtain ⟨gp, cp, rfl, hgb, hgl, hcap, hcm, hcell⟩ := hown.look (by omega)
 have hwf := hown.2.1
 rw [hpl] at hcap ⊢
 have HCELL := hid hcell
 have HWF := hid hwf
 have HPL := hid hpl
 have hst3 : w3.heap[g3]? = some (.cells ((chain64 p 0).cells .u64) 86 (0, 0)) := by
  rw [hk3.block g3 hg3s.2 (fun h => h), hst0, HS0.out]; rfl
 have hg3' : g3 < w3.heap.size := by have := hk3.size; omega
 have hne : gp ≠ g3 := by omega
 obtain ⟨hg3a, hg3b⟩ := hg3s
 clear hcell hwf hst0 hown
 go_wp2_with fail
 go_loopw [5] (fun i wr => Chain512 p g3 w3 i wr) (fun i _ => 128 * q - (intOf i).toNat)
 case atStart => exact ⟨0, rfl, by omega, hst3, Keeps.refl _ _⟩
 case round =>
  obtain ⟨n, rfl, hn, hst, hkr⟩ := hrel
  by_cases hlt : n < q
  ·have hlt' : ((128 * n : Nat) : Int) < 128 * (q : Int) := by omega
   obtain ⟨s, hs⟩ : ∃ s, s = chain64 p n := ⟨_, rfl⟩
   have HS := hid hs
   rw [← hs] at hst
   clear hs
   have c0 : wr.cell? ⟨g3, 0, none⟩ = some (.int .u64 s.a) := by rw [cell_of_row wr g3 0 _ _ _ hst]; rfl
   have c1 : wr.cell? ⟨g3, 1, none⟩ = some (.int .u64 s.b) := by rw [cell_of_row wr g3 1 _ _ _ hst]; rfl
   have c2 : wr.cell? ⟨g3, 2, none⟩ = some (.int .u64 s.c) := by rw [cell_of_row wr g3 2 _ _ _ hst]; rfl
   have c3 : wr.cell? ⟨g3, 3, none⟩ = some (.int .u64 s.d) := by rw [cell_of_row wr g3 3 _ _ _ hst]; rfl
   have c4 : wr.cell? ⟨g3, 4, none⟩ = some (.int .u64 s.e) := by rw [cell_of_row wr g3 4 _ _ _ hst]; rfl
   have c5 : wr.cell? ⟨g3, 5, none⟩ = some (.int .u64 s.f) := by rw [cell_of_row wr g3 5 _ _ _ hst]; rfl
   have c6 : wr.cell? ⟨g3, 6, none⟩ = some (.int .u64 s.g) := by rw [cell_of_row wr g3 6 _ _ _ hst]; rfl
   have c7 : wr.cell? ⟨g3, 7, none⟩ = some (.int .u64 s.h) := by rw [cell_of_row wr g3 7 _ _ _ hst]; rfl
   have hcapn : ¬ cp = 128 * n := by omega
   go_wp2_with fail
   refine wp_region_tail 6 (by kernel_rfl) (by kernel_rfl) _ _ rfl rfl ?_
   simp only [List.take_succ_cons, List.take_zero, List.drop_succ_cons, List.drop_zero]
   repeat (first | go_big_quiet_skip | (go_big_quiet_want; go_big_quiet_op; first | go_big_quiet_on | (apply Exists.intro; refine ⟨?_, ?_⟩; (fail); go_big_quiet_on)))
   refine wpQuiet_nil ?_
   have e128 : 128 * n + 128 - 128 * n = 128 := by omega
   rw [e128]
   have hrow : RowAt (fun _ => True) .u8 wr.drew (some ⟨gp, 128 * n, none⟩) ((p.drop (128 * n)).take 128) := by
    have h0 := RowAt.cut (F := fun _ => True) (k := .u8) (w := wr.drew) (g := gp) (off := 0) (l := p) HWF.out (by have := hkr.size; show gp < wr.heap.size; omega) trivial (fun j hj => by
     rw [Nat.zero_add]
     exact ((hkr.drew).cell (p := ⟨gp, j, none⟩) hgl hne).trans (HCELL.out j hj)) (128 * n) 128 (by have := HPL.out; omega) (by omega)
    rwa [Nat.zero_add] at h0
   have hbl : ((p.drop (128 * n)).take 128).length = 128 := by simp; have := HPL.out; omega
   have HC := hid (refBlock512_any s _ (some ⟨gp, 128 * n, none⟩) (cp - 128 * n) wr.drew hbl hrow)
   clear e128 c0 c1 c2 c3 c4 c5 c6 c7 hrow hbl
   go_wp2_with fail
   refine (HC.out).mono ?_
   rintro e w4 ⟨rfl, hk4⟩
   have hst4 : w4.heap[g3]? = some (.cells (s.cells .u64) 86 (0, 0)) := by
    rw [hk4.block g3 (by have := hkr.size; show g3 < wr.heap.size; omega) (fun h => h)]; exact hst
   have hk5 : Keeps (· = g3) w3 w4 := (hkr.drew).trans (hk4.mono (fun _ _ h => h.elim))
   obtain ⟨S', hS'⟩ : ∃ S', S' = block64 s ((p.drop (128 * n)).take 128) := ⟨_, rfl⟩
   rw [← hS']
   have HS' := hid hS'
   clear hS' HC hst hkr hk4
   go_wp2_with (refine wpList_store_row rfl _ _ _ rfl g3 (S'.cells .u64) rfl rfl _ (s.cells .u64) hst4 (by kernel_rfl) (by kernel_rfl) (by kernel_rfl) ?_)
   go_roundw
   case rel =>
    refine ⟨n + 1, ?_, by have := HPL.out; omega, ?_, Keeps.setRow hk5 _ _ (fun _ => rfl)⟩
    ·congr 1
    ·rw [setRow_heap _ _ _ _ _ _ hst4, chain64, ← HS.out, ← HS'.out]
   case measure => simp [intOf]; omega
  ·have hnq : n = q := by have := HPL.out; omega
   subst hnq
   obtain ⟨s, hs⟩ : ∃ s, s = chain64 p n := ⟨_, rfl⟩
   have HS := hid hs
   rw [← hs] at hst
   clear hs hst3
   obtain ⟨C, hC⟩ : ∃ C, C = s.cells .u64 := ⟨_, rfl⟩
   have HIX := hid (fun (i : Nat) (hi : i < 8) => run_index_words (P := Tryz.prog) 86 52 .u64 s.list Tryz.underlying86 (fun w => by kernel_rfl) (by kernel_rfl) i hi)
   rw [← Wd8.cells_list, ← hC] at HIX
   rw [← hC] at hst
   have HCS := hid (show (Tryz.prog.info? 86).map (·.size) = some C.size by rw [hC]; kernel_rfl)
   clear hC
   obtain ⟨wo, rfl⟩ : ∃ wo : World, wo = wr := ⟨_, rfl⟩
   have hle : w.heap.size ≤ wo.heap.size := by have := hkr.size; omega
   go_wp2_with (refine wpList_load_row rfl _ _ rfl g3 rfl _ C (0, 0) _ hst Tryz.underlying86 rfl HCS.out ?_)
   go_loopw [6, 27] (fun v i wr => Outs512 s.list w.heap.size wo v i wr) (fun _ i _ => 8 - (intOf i).toNat)
   case atStart => exact ⟨0, rfl, by omega, OwnI.nil _ _ _ _, Keeps.refl _ _⟩
   case round =>
    obtain ⟨i, rfl, hi8, hown, hkw⟩ := hrel
    by_cases hlt8 : i < 8
    ·have hlt8' : (i : Int) < 8 := by omega
     have hix := HIX.out i hlt8
     obtain ⟨x, hx⟩ : ∃ x, x = s.list.getD i 0 := ⟨_, rfl⟩
     rw [← hx] at hix
     have HX := hid hx
     clear hx
     go_wp2_with fail
     obtain ⟨wi, rfl⟩ : ∃ wi : World, wi = wr := ⟨_, rfl⟩
     go_loopw [6, 9] (fun v j wr => Word512 s.list i x w.heap.size wi v j wr) (fun _ j _ => (intOf j + 1).toNat)
     case atStart => exact ⟨8, by omega, rfl, by rw [show outWord64 x (8 - 8) = [] from rfl, List.append_nil]; exact hown, Keeps.refl _ _⟩
     case round =>
      clear hown
      obtain ⟨k, hk8, rfl, hown, hkr2⟩ := hrel
      have hlew : w.heap.size ≤ wr.heap.size := by have := hkw.size; have := hkr2.size; omega
      rcases k with _ | q
      ·go_wp2_with fail
       go_roundw
       case rel =>
        refine ⟨i + 1, rfl, by omega, ?_, hkw.trans hkr2⟩
        rw [outs64, ← HX.out]; exact hown
       case measure => simp [intOf]; omega
      ·have hq : (((q + 1 : Nat) : Int) - 1) = q := by omega
       rw [hq]
       clear hq
       go_wp2_with (at_builtin; (refine wpList_push rfl _ _ 33 rfl .u8 w.heap.size 5 i0 1 Tryz.underlying33 hi hz0 hz1 hz2 u6 (outs64 s.list i ++ outWord64 x (8 - (q + 1))) (byteAt x q) rfl hown rfl (byteAt_wf _ _) (by simp only [List.length_append, outs64_len, outWord64_len]; omega) (by omega) hlew ?_))
       intro v' w7 hown7 hk7 _
       go_wp2
       go_roundw
       case rel =>
        refine ⟨q, by omega, rfl, ?_, hkr2.step hk7 (fun i _ hb => (hown.base i hb).1)⟩
        rw [← outWord64_succ x q (by omega)]
        exact hown7
       case measure => simp [intOf]
    ·have h8 : i = 8 := by omega
     subst h8
     go_wp2_with fail
     go_ret
     have hps : p.length / 128 = n := by have := HPL.out; omega
     refine ⟨_, rfl, ?_, ?_⟩
     ·rw [sha512, ← HP.out, hps, ← HS.out]; exact hown
     ·refine (((kp2.trans hk3).step hkr (fun i hi e => ?_)).step hkw (fun i hi e => ?_)) <;> omega
end Go.Proofs.YtdeigmjbcbjgeaaGreatDoor
namespace Go.Proofs.YtdeigmjbcbjgeaaGreatDoor
open Go.RowKit
set_option maxHeartbeats 400000 in
theorem right64_any (x : Int) (n : Nat) (w : World) (h1 : 1 ≤ n) (h2 : n < 64) :
  Calls Tryz.prog 125 #[.int .u64 x, .int .i64 n] w fun e w' => e = .returned (.int .u64 (ror64 x n)) ∧ w = w' := by
 have HC := hid (Rot64_any x (-(n : Int)) (64 - n) w (neg_mask64 ⟨n, h2⟩ h1) (by omega))
 have h2' : (n : Int) < 64 := by omega
 go_enter Tryz.func125, Tryz.ntmps125
 go_wp2_with fail
 refine (HC.out).mono ?_
 rintro e w1 ⟨rfl, rfl⟩
 go_wp2
 go_ret
 exact ⟨rfl, rfl⟩
set_option maxHeartbeats 400000 in
theorem kind512f1_any (x : Int) (w : World) :
  Calls Tryz.prog 124 #[.int .u64 x] w fun e w' => e = .returned (.int .u64 (bits .xor .u64 (bits .xor .u64 (ror64 x 19) (ror64 x 61)) (x / 64))) ∧ w' = w := by
 go_enter Tryz.func124, Tryz.ntmps124
 go_wp2_with fail
 refine (right64_any x 19 w (by decide) (by decide)).mono ?_
 rintro e w' ⟨rfl, rfl⟩
 go_wp2_with fail
 refine (right64_any x 61 w (by decide) (by decide)).mono ?_
 rintro e w' ⟨rfl, rfl⟩
 go_wp2_with fail
 go_ret
 exact ⟨rfl, rfl⟩
set_option maxHeartbeats 400000 in
theorem kind512f2_any (x : Int) (w : World) :
  Calls Tryz.prog 126 #[.int .u64 x] w fun e w' => e = .returned (.int .u64 (bits .xor .u64 (bits .xor .u64 (ror64 x 1) (ror64 x 8)) (x / 128))) ∧ w' = w := by
 go_enter Tryz.func126, Tryz.ntmps126
 go_wp2_with fail
 refine (right64_any x 1 w (by decide) (by decide)).mono ?_
 rintro e w' ⟨rfl, rfl⟩
 go_wp2_with fail
 refine (right64_any x 8 w (by decide) (by decide)).mono ?_
 rintro e w' ⟨rfl, rfl⟩
 go_wp2_with fail
 go_ret
 exact ⟨rfl, rfl⟩
set_option maxHeartbeats 400000 in
theorem kind512f3_any (x : Int) (w : World) :
  Calls Tryz.prog 127 #[.int .u64 x] w fun e w' => e = .returned (.int .u64 (bits .xor .u64 (bits .xor .u64 (ror64 x 14) (ror64 x 18)) (ror64 x 41))) ∧ w' = w := by
 go_enter Tryz.func127, Tryz.ntmps127
 go_wp2_with fail
 refine (right64_any x 14 w (by decide) (by decide)).mono ?_
 rintro e w' ⟨rfl, rfl⟩
 go_wp2_with fail
 refine (right64_any x 18 w (by decide) (by decide)).mono ?_
 rintro e w' ⟨rfl, rfl⟩
 go_wp2_with fail
 refine (right64_any x 41 w (by decide) (by decide)).mono ?_
 rintro e w' ⟨rfl, rfl⟩
 go_wp2_with fail
 go_ret
 exact ⟨rfl, rfl⟩
set_option maxHeartbeats 400000 in
theorem kind512f4_any (x : Int) (w : World) :
  Calls Tryz.prog 128 #[.int .u64 x] w fun e w' => e = .returned (.int .u64 (bits .xor .u64 (bits .xor .u64 (ror64 x 28) (ror64 x 34)) (ror64 x 39))) ∧ w' = w := by
 go_enter Tryz.func128, Tryz.ntmps128
 go_wp2_with fail
 refine (right64_any x 28 w (by decide) (by decide)).mono ?_
 rintro e w' ⟨rfl, rfl⟩
 go_wp2_with fail
 refine (right64_any x 34 w (by decide) (by decide)).mono ?_
 rintro e w' ⟨rfl, rfl⟩
 go_wp2_with fail
 refine (right64_any x 39 w (by decide) (by decide)).mono ?_
 rintro e w' ⟨rfl, rfl⟩
 go_wp2_with fail
 go_ret
 exact ⟨rfl, rfl⟩
end Go.Proofs.YtdeigmjbcbjgeaaGreatDoor
