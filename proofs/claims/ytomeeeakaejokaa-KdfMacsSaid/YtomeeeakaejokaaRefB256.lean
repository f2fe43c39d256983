/-
  The answer of layer 4: one block of SHA-256.
-/
import Derived.Test.YtomeeeakaejokaaRefBlk
import Derived.Test.YtomeeeakaejokaaTail
namespace Go.Proofs.Ytomeeeakaejokaa
open Go.RowKit

/-- The word of a block that begins at byte 4 t. -/
def word32 (b : List Int) (t : Nat) : Int :=
  bits .or .u32 (bits .or .u32 (bits .or .u32 (b.getD (4 * t) 0 * 16777216) (b.getD (4 * t + 1) 0 * 65536)) (b.getD (4 * t + 2) 0 * 256)) (b.getD (4 * t + 3) 0)
def next32 (l : List Int) (t : Nat) : Int :=
  (bits .xor .u32 (bits .xor .u32 (ror32 (l.getD (t - 2) 0) 17) (ror32 (l.getD (t - 2) 0) 19)) (l.getD (t - 2) 0 / 1024) + l.getD (t - 7) 0 +
    bits .xor .u32 (bits .xor .u32 (ror32 (l.getD (t - 15) 0) 7) (ror32 (l.getD (t - 15) 0) 18)) (l.getD (t - 15) 0 / 8) + l.getD (t - 16) 0) % 4294967296
/-- The first t words of the schedule. -/
def sched32 (b : List Int) : Nat → List Int
  | 0 => []
  | t + 1 => sched32 b t ++ [if t < 16 then word32 b t else next32 (sched32 b t) t]
theorem sched32_len (b : List Int) : ∀ t, (sched32 b t).length = t
  | 0 => rfl
  | t + 1 => by simp [sched32, sched32_len b t]

/-- The cells of the schedule's array, t words of it made. -/
def schedCells (b : List Int) (t : Nat) : List Int := sched32 b t ++ List.replicate (64 - t) 0

/-- Eight words. -/
structure W8 where
  (a b c d e f g h : Int)
def W8.cells (k : IntKind) (s : W8) : Array Value := #[.int k s.a, .int k s.b, .int k s.c, .int k s.d, .int k s.e, .int k s.f, .int k s.g, .int k s.h]
theorem W8.cells_def (k : IntKind) (s : W8) : s.cells k = #[.int k s.a, .int k s.b, .int k s.c, .int k s.d, .int k s.e, .int k s.f, .int k s.g, .int k s.h] := rfl

theorem zero64w : (Try.prog.info? 68).map (fun i => (i.zero, i.size)) = some (some (.agg (Array.replicate 64 (.int .u32 0))), 64) := by kernel_rfl
theorem size80 : (Try.prog.info? 66).map (·.size) = some (wordsOf .u64 refKs).size := by kernel_rfl

theorem set_pad (L : List Int) (n : Nat) (x : Int) (h : L.length < n) : (L ++ List.replicate (n - L.length) 0).set L.length x = (L ++ [x]) ++ List.replicate (n - (L.length + 1)) 0 := by
  rw [show n - L.length = (n - (L.length + 1)) + 1 by omega, List.replicate_succ, List.set_append_right _ _ (Nat.le_refl _)]
  simp
theorem schedCells_set (b : List Int) (t : Nat) (x : Int) (h : t < 64) (hx : x = if t < 16 then word32 b t else next32 (sched32 b t) t) : (schedCells b t).set t x = schedCells b (t + 1) := by
  have h1 := set_pad (sched32 b t) 64 x (by rw [sched32_len]; exact h)
  rw [sched32_len] at h1
  rw [schedCells, h1, schedCells, sched32, hx]
theorem schedCells_len (b : List Int) (t : Nat) (h : t ≤ 64) : (schedCells b t).length = 64 := by simp [schedCells, sched32_len]; omega
theorem schedCells_old (b : List Int) (t i : Nat) (h : i < t) : (schedCells b t).getD i 0 = (sched32 b t).getD i 0 := by
  simp [schedCells, List.getD_eq_getElem?_getD, List.getElem?_append, sched32_len, h]
theorem schedCells_new (b : List Int) (t i : Nat) (h : t ≤ i) : (schedCells b t).getD i 0 = 0 := by
  rw [schedCells, List.getD_eq_getElem?_getD, List.getElem?_append_right (by rw [sched32_len]; exact h), List.getElem?_replicate]
  split <;> rfl

def Sched256 (b : List Int) (gw : Nat) (w2 : World) (i : Value) (wr : World) : Prop :=
  ∃ t : Nat, i = .int .i64 t ∧ t ≤ 64 ∧ wr.heap[gw]? = some (.cells (wordsOf .u32 (schedCells b t)) 68 (0, 0)) ∧ Keeps (· = gw) w2 wr

def sumE32 (s : W8) (k w : Int) : Int :=
  s.h + bits .xor .u32 (bits .xor .u32 (ror32 s.e 6) (ror32 s.e 11)) (ror32 s.e 25) +
    bits .xor .u32 (bits .and .u32 s.e s.f) (bits .and .u32 (bits .xor .u32 IntKind.u32.max s.e) s.g) + k / 4294967296 + w
def sumA32 (s : W8) : Int :=
  bits .xor .u32 (bits .xor .u32 (ror32 s.a 2) (ror32 s.a 13)) (ror32 s.a 22) +
    bits .xor .u32 (bits .xor .u32 (bits .and .u32 s.a s.b) (bits .and .u32 s.a s.c)) (bits .and .u32 s.b s.c)
/-- One round. -/
def step32 (s : W8) (k w : Int) : W8 := ⟨(sumE32 s k w + sumA32 s) % 4294967296, s.a, s.b, s.c, (s.d + sumE32 s k w) % 4294967296, s.e, s.f, s.g⟩
def state32 (h : W8) (b : List Int) : Nat → W8
  | 0 => h
  | t + 1 => step32 (state32 h b t) (refKs.getD t 0) ((sched32 b 64).getD t 0)
def Rounds256 (h : W8) (b : List Int) (gs : Nat) (w3 : World) (i : Value) (wr : World) : Prop :=
  ∃ t : Nat, i = .int .i64 t ∧ t ≤ 64 ∧ wr.heap[gs]? = some (.cells ((state32 h b t).cells .u32) 52 (0, 0)) ∧ Keeps (· = gs) w3 wr

def W8.list (s : W8) : List Int := [s.a, s.b, s.c, s.d, s.e, s.f, s.g, s.h]
theorem W8.cells_list (k : IntKind) (s : W8) : s.cells k = wordsOf k s.list := rfl
def add8 (m : Int) (h s : W8) : W8 := ⟨(h.a + s.a) % m, (h.b + s.b) % m, (h.c + s.c) % m, (h.d + s.d) % m, (h.e + s.e) % m, (h.f + s.f) % m, (h.g + s.g) % m, (h.h + s.h) % m⟩
/-- What a block makes of the eight words. -/
def block32 (h : W8) (b : List Int) : W8 := add8 4294967296 h (state32 h b 64)
/-- The first i of the eight words are the sums, the others still h. -/
def sumTo (m : Int) (h s : W8) (i : Nat) : List Int := (add8 m h s).list.take i ++ h.list.drop i
theorem sumTo_set (m : Int) (h s : W8) : ∀ i, i < 8 → (sumTo m h s i).set i ((h.list.getD i 0 + s.list.getD i 0) % m) = sumTo m h s (i + 1)
  | 0, _ => rfl | 1, _ => rfl | 2, _ => rfl | 3, _ => rfl | 4, _ => rfl | 5, _ => rfl | 6, _ => rfl | 7, _ => rfl
  | n + 8, h => absurd h (by omega)
theorem sumTo_get (m : Int) (h s : W8) : ∀ i, i < 8 → (sumTo m h s i).getD i 0 = h.list.getD i 0
  | 0, _ => rfl | 1, _ => rfl | 2, _ => rfl | 3, _ => rfl | 4, _ => rfl | 5, _ => rfl | 6, _ => rfl | 7, _ => rfl
  | n + 8, h => absurd h (by omega)
theorem sumTo_len (m : Int) (h s : W8) (i : Nat) (hi : i ≤ 8) : (sumTo m h s i).length = 8 := by simp [sumTo, W8.list]; omega
def Adds256 (h s : W8) (gh : Nat) (w4 : World) (i : Value) (wr : World) : Prop :=
  ∃ t : Nat, i = .int .i64 t ∧ t ≤ 8 ∧ wr.heap[gh]? = some (.cells (wordsOf .u32 (sumTo 4294967296 h s t)) 52 (0, 0)) ∧ Keeps (· = gh) w4 wr
def Blk256Post (h : W8) (b : List Int) (w : World) (e : Ending) (w' : World) : Prop :=
  e = .returned (.agg ((block32 h b).cells .u32)) ∧ Keeps (fun _ => False) w w'

def BlkIs (w : World) (g : Nat) (t : TypeId) (cs : Array Value) : Prop := w.heap[g]? = some (.cells cs t (0, 0))

set_option maxHeartbeats 4000000 in
set_option maxRecDepth 100000 in
theorem refBlock256_any (h : W8) (b : List Int) (a : Option Addr) (c : Nat) (w : World) (hb : b.length = 64) (hr : RowAt (fun _ => True) .u8 w a b) :
    Calls Try.prog 38 #[.agg (h.cells .u32), .slice a 64 c] w (Blk256Post h b w) := by
  rw [W8.cells_def]
  obtain ⟨hz80, _⟩ := zero_of_info zero80
  obtain ⟨hz64, _⟩ := zero_of_info zero64w
  have HZ64 := hid (show Array.replicate 64 (Value.int .u32 0) = wordsOf .u32 (schedCells b 0) from rfl)
  have HZ80 := hid (show (Array.replicate 80 (Value.int .u64 0)).size = (wordsOf .u64 refKs).size by kernel_rfl)
  have HK1 := hid (show (wordsOf .u64 refKs).all (·.oneCell') = true by kernel_rfl)
  have HS80 := hid size80
  have HKG := hid (show ∀ t, t < 80 → (wordsOf .u64 refKs)[t]? = some (.int .u64 (refKs.getD t 0)) from fun t h => wordsOf_get _ _ t h)
  generalize Array.replicate 80 (Value.int .u64 0) = Z80 at hz80 HZ80
  generalize Array.replicate 64 (Value.int .u32 0) = Z64 at hz64 HZ64
  go_enter Try.func38, Try.ntmps38
  go_wp2_with fail
  refine (refConstants_any _).mono ?_
  rintro e w1 ⟨rfl, hk1⟩
  have hgh1 := (hk1.block w.heap.size (by rw [World.size_alloc, World.size_alloc]; omega) (fun h => h)).trans (heap_alloc2_old w _ _)
  have hgr1 := (hk1.block (w.heap.size + 1) (by rw [World.size_alloc, World.size_alloc]; omega) (fun h => h)).trans (heap_alloc2_new w _ _)
  have hw1s : w.heap.size + 2 ≤ w1.heap.size := by have := hk1.size; simpa using this
  have kp1 : Keeps (fun _ => False) w w1 := Keeps.trans (Keeps.alloc (Keeps.alloc (Keeps.refl _ w) _) _) hk1
  have HGH1 := hid hgh1
  have HGR1 := hid hgr1
  clear hk1 hgh1 hgr1
  generalize wordsOf .u64 refKs = K at *
  go_wp2_with (refine wpList_store_row rfl _ _ _ rfl w1.heap.size K rfl rfl _ Z80 (heap_alloc_last _ _) HS80.out HZ80.out HK1.out ?_)
  rw [World.setRow_alloc_new]
  obtain ⟨g, off, rfl, hg, hbc⟩ : ∃ g off, a = some ⟨g, off, none⟩ ∧ g < w.heap.size ∧ ∀ j, j < b.length → w.cell? ⟨g, off + j, none⟩ = some (.int .u8 (b.getD j 0)) := by
    rcases hr.2.2 with h0 | ⟨g, off, h1, _, h2, h3⟩
    · rw [h0] at hb; simp at hb
    · exact ⟨g, off, h1, h2, h3⟩
  obtain ⟨w2, hw2⟩ : ∃ w2, w2 = (w1.alloc (Obj.cells K 66)).alloc (Obj.cells Z64 68) := ⟨_, rfl⟩
  have HW2 := hid hw2
  rw [← hw2]
  clear hw2
  have kp2 : Keeps (fun _ => False) w w2 := by
    rw [HW2.out]
    exact Keeps.alloc (Keeps.alloc kp1 _) _
  have hgw : w2.heap[w1.heap.size + 1]? = some (.cells (wordsOf .u32 (schedCells b 0)) 68 (0, 0)) := by
    rw [HW2.out, HZ64.out]; exact heap_alloc2_new w1 _ _
  have hgk : w2.heap[w1.heap.size]? = some (.cells K 66 (0, 0)) := by
    rw [HW2.out]; exact heap_alloc2_old w1 _ _
  have hs2 : w2.heap.size = w1.heap.size + 2 := by rw [HW2.out]; simp
  have hgr2 : w2.heap[w.heap.size + 1]? = some (.cells #[.int .u32 0, .int .u32 0, .int .u32 0, .int .u32 0, .int .u32 0, .int .u32 0, .int .u32 0, .int .u32 0] 52 (0, 0)) := by
    rw [HW2.out, Below.heap_alloc _ _ _ (by rw [World.size_alloc]; omega), Below.heap_alloc _ _ _ (by omega)]
    exact HGR1.out
  have HGR2 := hid hgr2
  clear hgr2
  obtain ⟨gk, hgkn⟩ : ∃ gk, gk = w1.heap.size := ⟨_, rfl⟩
  obtain ⟨gw, hgwn⟩ : ∃ gw, gw = w1.heap.size + 1 := ⟨_, rfl⟩
  rw [← hgwn] at hgw ⊢
  rw [← hgkn] at hgk ⊢
  have hgwb : w.heap.size + 2 < gw := by omega
  have HGW := hid hgwn
  have HGK := hid hgkn
  clear hgwn hgkn
  have HB := hid hbc
  have HGKc := hid hgk
  have HS2 := hid hs2
  clear hbc hgk hs2
  go_loopw [18] (fun i wr => Sched256 b gw w2 i wr) (fun i _ => 64 - (intOf i).toNat)
  case atStart => exact ⟨0, rfl, by omega, hgw, Keeps.refl _ _⟩
  case round =>
    obtain ⟨t, rfl, ht, hws, hkr⟩ := hrel
    by_cases h16 : t < 16
    · have h16' : (t : Int) < 16 := by omega
      have h64' : (t : Int) < 64 := by omega
      have hc : ∀ j, j < 64 → wr.cell? ⟨g, off + j, none⟩ = some (.int .u8 (b.getD j 0)) := fun j hj => by
        rw [hkr.cell (p := ⟨g, off + j, none⟩) (by have := kp2.size; show g < _; omega) (by show ¬ g = gw; omega), kp2.cell (p := ⟨g, off + j, none⟩) hg (fun h => h)]
        exact HB.out j (by omega)
      have c0 := hc (4 * t) (by omega)
      have c1 := hc (4 * t + 1) (by omega)
      have c2 := hc (4 * t + 2) (by omega)
      have c3 := hc (4 * t + 3) (by omega)
      clear hc
      have HW := hid (show word32 b t = bits .or .u32 (bits .or .u32 (bits .or .u32 (b.getD (4 * t) 0 * 16777216) (b.getD (4 * t + 1) 0 * 65536)) (b.getD (4 * t + 2) 0 * 256)) (b.getD (4 * t + 3) 0) from rfl)
      obtain ⟨l0, u0⟩ := wf_u8 (hr.mem (j := 4 * t) (by omega))
      obtain ⟨l1, u1⟩ := wf_u8 (hr.mem (j := 4 * t + 1) (by omega))
      obtain ⟨l2, u2⟩ := wf_u8 (hr.mem (j := 4 * t + 2) (by omega))
      obtain ⟨l3, u3⟩ := wf_u8 (hr.mem (j := 4 * t + 3) (by omega))
      generalize b.getD (4 * t) 0 = b0 at c0 HW l0 u0
      generalize b.getD (4 * t + 1) 0 = b1 at c1 HW l1 u1
      generalize b.getD (4 * t + 2) 0 = b2 at c2 HW l2 u2
      generalize b.getD (4 * t + 3) 0 = b3 at c3 HW l3 u3
      have cw : wr.cell? ⟨gw, t, none⟩ = some (.int .u32 0) := by
        rw [cell_of_row wr gw t _ _ _ hws, wordsOf_get _ _ _ (by rw [schedCells_len b t ht]; omega), schedCells_new b t t (Nat.le_refl _)]
      have fw : wr.frozen? ⟨gw, t, none⟩ = false := frozen_of_row wr gw t _ _ hws
      go_wp2_with fail
      go_region
      go_wp2
      go_roundw
      case rel =>
        refine ⟨t + 1, rfl, by omega, ?_, Keeps.drew (Keeps.setCell hkr _ _ (fun _ => rfl))⟩
        rw [heap_drew, heap_setCell_same wr gw t _ _ _ hws, wordsOf_set, schedCells_set b t _ (by omega) (by rw [if_pos h16, HW.out])]
      case measure => simp [intOf]; omega
    · have h16' : ¬ (t : Int) < 16 := by omega
      by_cases hlt : t < 64
      · have h64' : (t : Int) < 64 := by omega
        have hold : ∀ j, j < t → wr.cell? ⟨gw, j, none⟩ = some (.int .u32 ((sched32 b t).getD j 0)) := fun j hj => by
          rw [cell_of_row wr gw j _ _ _ hws, wordsOf_get _ _ _ (by rw [schedCells_len b t ht]; omega), schedCells_old b t j hj]
        have c2 := hold (t - 2) (by omega)
        have c7 := hold (t - 7) (by omega)
        have c15 := hold (t - 15) (by omega)
        have c16 := hold (t - 16) (by omega)
        clear hold
        have cw : wr.cell? ⟨gw, t, none⟩ = some (.int .u32 0) := by
          rw [cell_of_row wr gw t _ _ _ hws, wordsOf_get _ _ _ (by rw [schedCells_len b t ht]; omega), schedCells_new b t t (Nat.le_refl _)]
        have fw : wr.frozen? ⟨gw, t, none⟩ = false := frozen_of_row wr gw t _ _ hws
        obtain ⟨y, hy⟩ : ∃ y, y = next32 (sched32 b t) t := ⟨_, rfl⟩
        have HW := hid hy
        have HY := hid hy
        clear hy
        unfold next32 at HW
        generalize (sched32 b t).getD (t - 2) 0 = x2 at c2 HW
        generalize (sched32 b t).getD (t - 7) 0 = x7 at c7 HW
        generalize (sched32 b t).getD (t - 15) 0 = x15 at c15 HW
        generalize (sched32 b t).getD (t - 16) 0 = x16 at c16 HW
        go_wp2_with fail
        go_quiet (fail)
        go_wp2_with fail
        refine wp_region_tail 29 (by kernel_rfl) (by kernel_rfl) _ _ rfl rfl ?_
        simp only [List.take_succ_cons, List.take_zero, List.drop_succ_cons, List.drop_zero]
        repeat (first | go_big_quiet_skip | (go_big_quiet_want; go_big_quiet_op; first | go_big_quiet_on | (apply Exists.intro; refine ⟨?_, ?_⟩; (exact refR32_z _ _ _ (by decide) (by decide)); go_big_quiet_on)))
        refine wpQuiet_nil ?_
        go_wp2
        go_roundw
        case rel =>
          refine ⟨t + 1, rfl, by omega, ?_, Keeps.setCell (Keeps.drewN hkr _) _ _ (fun _ => rfl)⟩
          rw [heap_setCell_same (wr.drewN (nq + 1)) gw t _ _ _ hws, wordsOf_set, schedCells_set b t _ (by omega) (by rw [if_neg h16, ← HY.out, HW.out])]
        case measure => simp [intOf]; omega
      · have h64' : (t : Int) = 64 := by omega
        have h64n : t = 64 := by omega
        have hgh : wr.heap[w.heap.size]? = some (.cells #[.int .u32 h.a, .int .u32 h.b, .int .u32 h.c, .int .u32 h.d, .int .u32 h.e, .int .u32 h.f, .int .u32 h.g, .int .u32 h.h] 52 (0, 0)) := by
          rw [hkr.block w.heap.size (by have := kp2.size; have := HS2.out; omega) (by omega), HW2.out]
          rw [Below.heap_alloc _ _ _ (by rw [World.size_alloc]; omega), Below.heap_alloc _ _ _ (by omega)]
          exact HGH1.out
        subst h64n
        go_wp2_with (refine wpList_load_row rfl _ _ rfl w.heap.size rfl _ _ (0, 0) _ hgh Try.underlying52 rfl (by kernel_rfl) ?_)
        obtain ⟨gs, hgs⟩ : ∃ gs, gs = wr.heap.size := ⟨_, rfl⟩
        obtain ⟨w3, hw3⟩ : ∃ w3, w3 = wr.alloc (Obj.cells #[.int .u32 h.a, .int .u32 h.b, .int .u32 h.c, .int .u32 h.d, .int .u32 h.e, .int .u32 h.f, .int .u32 h.g, .int .u32 h.h] 52) := ⟨_, rfl⟩
        rw [← hw3, ← hgs]
        have HW3 := hid hw3
        have HGS := hid hgs
        have hsz := hkr.size
        have hs2' := HS2.out
        have hgk' := HGK.out
        have hgw' := HGW.out
        have g1 : w3.heap[gw]? = some (.cells (wordsOf .u32 (schedCells b 64)) 68 (0, 0)) := by
          rw [HW3.out, Below.heap_alloc _ _ _ (by omega)]; exact hws
        have g2 : w3.heap[gk]? = some (.cells K 66 (0, 0)) := by
          rw [HW3.out, Below.heap_alloc _ _ _ (by omega), hkr.block gk (by omega) (by omega)]; exact HGKc.out
        have g3 : w3.heap[gs]? = some (.cells (h.cells .u32) 52 (0, 0)) := by
          rw [HW3.out, HGS.out]; exact heap_alloc_last _ _
        have g4 : w3.heap[w.heap.size]? = some (.cells (h.cells .u32) 52 (0, 0)) := by
          rw [HW3.out, Below.heap_alloc _ _ _ (by omega)]; exact hgh
        have g6 : w3.heap[w.heap.size + 1]? = some (.cells #[.int .u32 0, .int .u32 0, .int .u32 0, .int .u32 0, .int .u32 0, .int .u32 0, .int .u32 0, .int .u32 0] 52 (0, 0)) := by
          rw [HW3.out, Below.heap_alloc _ _ _ (by omega), hkr.block _ (by omega) (by omega)]; exact HGR2.out
        have HG6 := hid g6
        clear g6
        have g5 : gk < gs ∧ gw < gs ∧ gk ≠ gw ∧ w.heap.size + 1 < gk ∧ gk < w3.heap.size ∧ gw < w3.heap.size ∧ gs < w3.heap.size := by
          have : w3.heap.size = wr.heap.size + 1 := by rw [HW3.out, World.size_alloc]
          omega
        have HG1 := hid g1; have HG2 := hid g2; have HG4 := hid g4; have HG5 := hid g5
        have kp3 : Keeps (· = gw) w2 w3 := by rw [HW3.out]; exact Keeps.alloc hkr _
        clear hw3 hgs g1 g2 g4 g5 hgk' hgw' hs2' hsz hws hgh hkr
        go_loopw [97] (fun i wr => Rounds256 h b gs w3 i wr) (fun i _ => 64 - (intOf i).toNat)
        case atStart => exact ⟨0, rfl, by omega, g3, Keeps.refl _ _⟩
        case round =>
          rename_i wq
          clear g3
          obtain ⟨t, rfl, ht, hst, hkr⟩ := hrel
          by_cases hlt : t < 64
          · have hlt' : (t : Int) < 64 := by omega
            obtain ⟨s, hs⟩ : ∃ s, s = state32 h b t := ⟨_, rfl⟩
            have HS := hid hs
            rw [← hs] at hst
            clear hs
            have c0 : wr.cell? ⟨gs, 0, none⟩ = some (.int .u32 s.a) := by rw [cell_of_row wr gs 0 _ _ _ hst]; rfl
            have c1 : wr.cell? ⟨gs, 1, none⟩ = some (.int .u32 s.b) := by rw [cell_of_row wr gs 1 _ _ _ hst]; rfl
            have c2 : wr.cell? ⟨gs, 2, none⟩ = some (.int .u32 s.c) := by rw [cell_of_row wr gs 2 _ _ _ hst]; rfl
            have c3 : wr.cell? ⟨gs, 3, none⟩ = some (.int .u32 s.d) := by rw [cell_of_row wr gs 3 _ _ _ hst]; rfl
            have c4 : wr.cell? ⟨gs, 4, none⟩ = some (.int .u32 s.e) := by rw [cell_of_row wr gs 4 _ _ _ hst]; rfl
            have c5 : wr.cell? ⟨gs, 5, none⟩ = some (.int .u32 s.f) := by rw [cell_of_row wr gs 5 _ _ _ hst]; rfl
            have c6 : wr.cell? ⟨gs, 6, none⟩ = some (.int .u32 s.g) := by rw [cell_of_row wr gs 6 _ _ _ hst]; rfl
            have c7 : wr.cell? ⟨gs, 7, none⟩ = some (.int .u32 s.h) := by rw [cell_of_row wr gs 7 _ _ _ hst]; rfl
            obtain ⟨o1, o2, o3, o4, o5, o6, o7⟩ := HG5.out
            have ck : wr.cell? ⟨gk, t, none⟩ = some (.int .u64 (refKs.getD t 0)) := by
              rw [cell_of_row wr gk t _ _ _ ((hkr.block gk o5 (by omega)).trans HG2.out)]; exact HKG.out t (by omega)
            have cw : wr.cell? ⟨gw, t, none⟩ = some (.int .u32 ((sched32 b 64).getD t 0)) := by
              rw [cell_of_row wr gw t _ _ _ ((hkr.block gw o6 (by omega)).trans HG1.out), wordsOf_get _ _ _ (by rw [schedCells_len b 64 (by omega)]; omega), schedCells_old b 64 t hlt]
            obtain ⟨kt, hkt⟩ : ∃ kt, kt = refKs.getD t 0 := ⟨_, rfl⟩
            obtain ⟨wt, hwt⟩ : ∃ wt, wt = (sched32 b 64).getD t 0 := ⟨_, rfl⟩
            have HKT := hid hkt; have HWT := hid hwt
            rw [← hkt] at ck; rw [← hwt] at cw
            clear hkt hwt o1 o2 o3 o4 o5 o6 o7
            go_wp2_with fail
            refine wp_region_tail 5 (by kernel_rfl) (by kernel_rfl) _ _ rfl rfl ?_
            simp only [List.take_succ_cons, List.take_zero, List.drop_succ_cons, List.drop_zero]
            repeat (first | go_big_quiet_skip | (go_big_quiet_want; go_big_quiet_op; first | go_big_quiet_on | (apply Exists.intro; refine ⟨?_, ?_⟩; (fail); go_big_quiet_on)))
            refine wpQuiet_nil ?_
            go_wp2
            refine wp_region_tail 32 (by kernel_rfl) (by kernel_rfl) _ _ rfl rfl ?_
            simp only [List.take_succ_cons, List.take_zero, List.drop_succ_cons, List.drop_zero]
            repeat (first | go_big_quiet_skip | (go_big_quiet_want; go_big_quiet_op; first | go_big_quiet_on | (apply Exists.intro; refine ⟨?_, ?_⟩; (exact refR32_z _ _ _ (by decide) (by decide)); go_big_quiet_on)))
            refine wpQuiet_nil ?_
            go_wp2
            refine wp_region_tail 24 (by kernel_rfl) (by kernel_rfl) _ _ rfl rfl ?_
            simp only [List.take_succ_cons, List.take_zero, List.drop_succ_cons, List.drop_zero]
            repeat (first | go_big_quiet_skip | (go_big_quiet_want; go_big_quiet_op; first | go_big_quiet_on | (apply Exists.intro; refine ⟨?_, ?_⟩; (exact refR32_z _ _ _ (by decide) (by decide)); go_big_quiet_on)))
            refine wpQuiet_nil ?_
            go_wp2_with (refine wpList_store_row rfl _ _ _ rfl gs _ rfl rfl _ (s.cells .u32) hst (by kernel_rfl) (by kernel_rfl) (by kernel_rfl) ?_)
            go_roundw
            case rel =>
              refine ⟨t + 1, rfl, by omega, ?_, ?_⟩
              · rw [setRow_heap wr.drew.drew.drew gs _ _ _ _ hst, state32, ← HS.out, ← HKT.out, ← HWT.out]
                refine congrArg (fun x => some (Obj.cells x 52 (0, 0))) ?_
                rfl
              · exact Keeps.setRow (Keeps.drew (Keeps.drew (Keeps.drew hkr))) _ _ (fun _ => rfl)
            case measure => simp [intOf]; omega
          · have h64 : t = 64 := by omega
            subst h64
            obtain ⟨s, hs⟩ : ∃ s, s = state32 h b 64 := ⟨_, rfl⟩
            have HS := hid hs
            rw [← hs] at hst
            clear hs
            obtain ⟨gh, hgh⟩ : ∃ gh, gh = w.heap.size := ⟨_, rfl⟩
            rw [← hgh]
            have HGH := hid hgh
            obtain ⟨o1, o2, o3, o4, o5, o6, o7⟩ := HG5.out
            have g4 : wr.heap[gh]? = some (.cells (wordsOf .u32 (sumTo 4294967296 h s 0)) 52 (0, 0)) := by
              rw [HGH.out, hkr.block _ (by omega) (by omega)]; exact HG4.out
            have o8 : gh ≠ gs := by omega
            clear o1 o2 o3 o4 o5 o6 o7 hgh
            obtain ⟨wo, rfl⟩ : ∃ wo : World, wo = wr := ⟨_, rfl⟩
            go_wp2_with fail
            go_loopw [179] (fun i w => Adds256 h s gh wo i w) (fun i _ => 8 - (intOf i).toNat)
            case atStart => exact ⟨0, rfl, by omega, g4, Keeps.refl _ _⟩
            case round =>
              clear g4
              obtain ⟨t, rfl, ht, hah, hka⟩ := hrel
              by_cases hlt : t < 8
              · have hlt' : (t : Int) < 8 := by omega
                have hL := hst
                rw [W8.cells_list] at hL
                have c1 : wr.cell? ⟨gh, t, none⟩ = some (.int .u32 (h.list.getD t 0)) := by
                  rw [cell_of_row wr gh t _ _ _ hah, wordsOf_get _ _ _ (by rw [sumTo_len _ _ _ _ ht]; omega), sumTo_get _ _ _ t hlt]
                have f1 : wr.frozen? ⟨gh, t, none⟩ = false := frozen_of_row wr gh t _ _ hah
                obtain ⟨o1, o2, o3, o4, o5, o6, o7⟩ := HG5.out
                have c2 : wr.cell? ⟨gs, t, none⟩ = some (.int .u32 (s.list.getD t 0)) := by
                  rw [cell_of_row wr gs t _ _ _ ((hka.block gs (by have := hkr.size; omega) (fun e => o8 e.symm)).trans hL), wordsOf_get _ _ _ (by simp [W8.list]; omega)]
                obtain ⟨x, hx⟩ : ∃ x, x = h.list.getD t 0 := ⟨_, rfl⟩
                obtain ⟨y, hy⟩ : ∃ y, y = s.list.getD t 0 := ⟨_, rfl⟩
                have HX := hid hx; have HY := hid hy
                rw [← hx] at c1; rw [← hy] at c2
                clear hx hy o1 o2 o3 o4 o5 o6 o7 hL
                go_wp2_with fail
                refine wp_region_tail 8 (by kernel_rfl) (by kernel_rfl) _ _ rfl rfl ?_
                simp only [List.take_succ_cons, List.take_zero, List.drop_succ_cons, List.drop_zero]
                repeat (first | go_big_quiet_skip | (go_big_quiet_want; go_big_quiet_op; first | go_big_quiet_on | (apply Exists.intro; refine ⟨?_, ?_⟩; (fail); go_big_quiet_on)))
                refine wpQuiet_nil ?_
                go_wp2
                go_roundw
                case rel =>
                  refine ⟨t + 1, rfl, by omega, ?_, Keeps.drew (Keeps.setCell hka _ _ (fun _ => rfl))⟩
                  rw [heap_drew, heap_setCell_same wr gh t _ _ _ hah, wordsOf_set, HX.out, HY.out, sumTo_set _ _ _ t hlt]
                case measure => simp [intOf]; omega
              · have h8 : t = 8 := by omega
                subst h8
                obtain ⟨o1, o2, o3, o4, o5, o6, o7⟩ := HG5.out
                have hgh' := HGH.out
                have hgr : wr.heap[gh + 1]? = some (.cells #[.int .u32 0, .int .u32 0, .int .u32 0, .int .u32 0, .int .u32 0, .int .u32 0, .int .u32 0, .int .u32 0] 52 (0, 0)) := by
                  rw [hka.block _ (by have := hkr.size; omega) (by omega), hkr.block _ (by omega) (by omega), hgh']; exact HG6.out
                have hfin : (block32 h b).list = sumTo 4294967296 h s 8 := by rw [block32, ← HS.out]; rfl
                have HF := hid hfin
                have kf : Keeps (fun _ => False) w wr := by
                  refine (((kp2.step kp3 (fun i hi e => ?_)).step hkr (fun i hi e => ?_)).step hka (fun i hi e => ?_)) <;> omega
                have hle : w.heap.size ≤ gh + 1 := by omega
                clear hfin o1 o2 o3 o4 o5 o6 o7 hgh'
                go_wp2_with (first
                  | (refine wpList_load_row rfl _ _ rfl gh rfl _ _ (0, 0) _ hah Try.underlying52 rfl (by kernel_rfl) ?_)
                  | (refine wpList_store_row rfl _ _ _ rfl (gh + 1) _ rfl rfl _ _ hgr (by kernel_rfl) (by kernel_rfl) (by kernel_rfl) ?_))
                refine bodyPost_ret (v := .agg (wordsOf .u32 (sumTo 4294967296 h s 8))) (results_cell_row rfl _ _ (gh + 1) 52 (wordsOf .u32 (sumTo 4294967296 h s 8)) (0, 0) _ rfl (setRow_heap _ _ _ _ _ _ hgr) Try.underlying52 rfl (by kernel_rfl)) rfl ?_
                exact ⟨by rw [W8.cells_list, HF.out], Keeps.setRow kf _ _ (fun hi => absurd hi (by omega))⟩
end Go.Proofs.Ytomeeeakaejokaa
