/-
  The program's primes, and the constants of its two kinds: walked.
-/
import Derived.Test.YtomeeeakaejokaaPrgFrac
namespace Go.Proofs.Ytomeeeakaejokaa
open Go.RowKit

theorem zero80p : (Try.prog.info? 71).map (fun i => (i.zero, i.size)) = some (some (.agg (Array.replicate 80 (.int .u16 0))), 80) := by kernel_rfl

set_option maxHeartbeats 1000000 in
set_option maxRecDepth 100000 in
theorem primes_any (w : World) :
    Calls Try.prog 53 #[] w fun e w' => e = .returned (.agg (wordsOf .u16 primes80)) ∧ Keeps (fun _ => False) w w' := by
  obtain ⟨hz, hs⟩ := zero_of_info zero80p
  generalize hZ : Array.replicate 80 (Value.int .u16 0) = Z at hz
  have HZ := hid hZ.symm
  clear hZ
  go_enter Try.func53, Try.ntmps53
  go_wp2_with (first
    | (refine wpList_build_to rfl _ _ rfl (wordsOf .u16 primes80) (by kernel_rfl) ?_)
    | (refine wpList_store_row rfl _ _ _ rfl w.heap.size (wordsOf .u16 primes80) rfl rfl _ Z (heap_alloc_last _ _) (by kernel_rfl) (by rw [HZ.out]; kernel_rfl) (by kernel_rfl) ?_))
  rw [World.setRow_alloc_new]
  refine bodyPost_ret (v := .agg (wordsOf .u16 primes80)) (results_cell_row rfl _ _ w.heap.size 71 (wordsOf .u16 primes80) (0, 0) _ rfl (heap_alloc_last _ _) Try.underlying71 rfl (by kernel_rfl)) rfl ?_
  exact ⟨rfl, (Keeps.refl _ _).alloc _⟩

/-- The cells cs, the first i of vs laid over those from off on. -/
def overTo (k : IntKind) (cs : Array Value) (off : Nat) (vs : List Int) : Nat → Array Value
  | 0 => cs
  | i + 1 => (overTo k cs off vs i).setIfInBounds (off + i) (.int k (vs.getD i 0))
theorem overTo_size (k : IntKind) (cs : Array Value) (off : Nat) (vs : List Int) : ∀ i, (overTo k cs off vs i).size = cs.size
  | 0 => rfl
  | i + 1 => by rw [overTo, Array.size_setIfInBounds, overTo_size k cs off vs i]
def RootsRel (k : IntKind) (t : TypeId) (cs : Array Value) (off : Nat) (vs : List Int) (g : Nat) (wp : World) (i : Value) (wr : World) : Prop :=
  ∃ n : Nat, i = .int .i64 n ∧ n ≤ vs.length ∧ wr.heap[g]? = some (.cells (overTo k cs off vs n) t (0, 0)) ∧ Keeps (· = g) wp wr
def RootsPost (k : IntKind) (t : TypeId) (cs : Array Value) (off : Nat) (vs : List Int) (g : Nat) (w : World) (e : Ending) (w' : World) : Prop :=
  e = .returned (.tuple #[]) ∧ w'.heap[g]? = some (.cells (overTo k cs off vs vs.length) t (0, 0)) ∧ Keeps (· = g) w w'
theorem size80p : (Try.prog.info? 71).map (·.size) = some (wordsOf .u16 primes80).size := by kernel_rfl
theorem primes80_bound : ∀ i, i < 80 → 0 ≤ primes80.getD i 0 ∧ primes80.getD i 0 ≤ 409 := by decide +kernel

theorem overTo_at (k : IntKind) (cs : Array Value) (off : Nat) (vs : List Int) (i : Nat) : ∀ n, n ≤ i → (overTo k cs off vs n)[off + i]? = cs[off + i]?
  | 0, _ => rfl
  | n + 1, h => by
    rw [overTo, Array.getElem?_setIfInBounds_ne (by omega), overTo_at k cs off vs i n (by omega)]

set_option maxHeartbeats 2000000 in
set_option maxRecDepth 100000 in
theorem roots32_any (d : Nat) (hd : d = 2 ∨ d = 3) (vs : List Int) (hv : ∀ i, i < vs.length → frac32W (primes80.getD i 0) d = some (vs.getD i 0)) (hn : vs.length ≤ 80)
    (cs : Array Value) (t : TypeId) (g off c : Nat) (w : World) (hg : w.heap[g]? = some (.cells cs t (0, 0))) (hc : ∀ i, i < vs.length → ∃ x, cs[off + i]? = some (.int .u32 x)) :
    Calls Try.prog 47 #[.slice (some ⟨g, off, none⟩) vs.length c, .int .i64 d, .func (.func 48) #[] #[]] w (RootsPost .u32 t cs off vs g w) := by
  have HN := hid hn
  have HV := hid hv
  have HC := hid hc
  have HG := hid hg
  have hgl : g < w.heap.size := (Array.getElem?_eq_some_iff.1 hg).1
  clear hv hc hg
  obtain ⟨hz80, _⟩ := zero_of_info zero80p
  have HZ80 := hid (show (Array.replicate 80 (Value.int .u16 0)).size = (wordsOf .u16 primes80).size by kernel_rfl)
  have HK1 := hid (show (wordsOf .u16 primes80).all (·.oneCell') = true by kernel_rfl)
  have HS80 := hid size80p
  have HKG := hid (show ∀ t, t < 80 → (wordsOf .u16 primes80)[t]? = some (.int .u16 (primes80.getD t 0)) from fun t h => wordsOf_get _ _ t h)
  generalize Array.replicate 80 (Value.int .u16 0) = Z80 at hz80 HZ80
  obtain ⟨m, hm⟩ : ∃ m, m = vs.length := ⟨_, rfl⟩
  rw [← hm]
  have HM := hid hm
  have hm80 : m ≤ 80 := by omega
  clear hm hn
  go_enter Try.func47, Try.ntmps47
  go_wp2_with fail
  refine (primes_any w).mono ?_
  rintro e w1 ⟨rfl, hk1⟩
  generalize wordsOf .u16 primes80 = K at *
  go_wp2_with (refine wpList_store_row rfl _ _ _ rfl w1.heap.size K rfl rfl _ Z80 (heap_alloc_last _ _) HS80.out HZ80.out HK1.out ?_)
  rw [World.setRow_alloc_new]
  obtain ⟨w2, hw2⟩ : ∃ w2, w2 = w1.alloc (Obj.cells K 71) := ⟨_, rfl⟩
  rw [← hw2]
  obtain ⟨gp, hgp⟩ : ∃ gp, gp = w1.heap.size := ⟨_, rfl⟩
  rw [← hgp]
  have hgp2 : w2.heap[gp]? = some (.cells K 71 (0, 0)) := by rw [hw2, hgp]; exact heap_alloc_last _ _
  have hg2 : w2.heap[g]? = some (.cells (overTo .u32 cs off vs 0) t (0, 0)) := by
    rw [hw2, Below.heap_alloc _ _ _ (by have := hk1.size; omega), hk1.block g hgl (fun h => h)]; exact HG.out
  have kp2 : Keeps (fun _ => False) w w2 := by rw [hw2]; exact hk1.alloc _
  have hpl : gp < w2.heap.size := (Array.getElem?_eq_some_iff.1 hgp2).1
  have hne : gp ≠ g := by rw [hgp]; have := hk1.size; omega
  have HGP := hid hgp2
  clear hw2 hgp hgp2 hk1
  go_wp2_with fail
  go_loopw [11] (fun i wr => RootsRel .u32 t cs off vs g w2 i wr) (fun i _ => m - (intOf i).toNat)
  case atStart => exact ⟨0, rfl, by omega, hg2, Keeps.refl _ _⟩
  case round =>
    clear hg2
    obtain ⟨n, rfl, hn, hgr, hkr⟩ := hrel
    have hnm : n ≤ m := by have := HM.out; omega
    clear hn
    by_cases hlt : n < m
    · have hlt' : (n : Int) < m := by omega
      have hlt80 : (n : Int) < 80 := by omega
      obtain ⟨p, hp⟩ : ∃ p, p = primes80.getD n 0 := ⟨_, rfl⟩
      have hb := primes80_bound n (by omega)
      rw [← hp] at hb
      obtain ⟨hb0, hb1⟩ := hb
      obtain ⟨r, hr⟩ : ∃ r, r = vs.getD n 0 := ⟨_, rfl⟩
      have hfr := HV.out n (by have := HM.out; omega)
      rw [← hp, ← hr] at hfr
      have HF := hid (fun W => frac32_any p d r W hd hfr)
      have cp : wr.cell? ⟨gp, n, none⟩ = some (.int .u16 p) := by
        rw [cell_of_row wr gp n _ _ _ ((hkr.block gp hpl hne).trans HGP.out), HKG.out n (by omega), hp]
      obtain ⟨x, hx⟩ := HC.out n (by have := HM.out; omega)
      have cw : wr.cell? ⟨g, off + n, none⟩ = some (.int .u32 x) := by
        rw [cell_of_row wr g (off + n) _ _ _ hgr, overTo_at _ _ _ _ _ _ (Nat.le_refl _), hx]
      have fw : wr.frozen? ⟨g, off + n, none⟩ = false := frozen_of_row wr g (off + n) _ _ hgr
      have HP := hid hp; have HR := hid hr
      clear hp hr hfr hx
      go_wp2_with fail
      refine (HF.out wr).mono ?_
      rintro e w' ⟨rfl, rfl⟩
      go_wp2_with fail
      go_roundw
      case rel =>
        refine ⟨n + 1, rfl, by have := HM.out; omega, ?_, Keeps.setCell hkr _ _ (fun _ => rfl)⟩
        rw [heap_setCell_same wr g (off + n) _ _ _ hgr, overTo, HR.out]
      case measure => simp [intOf]; omega
    · have heq : n = m := by omega
      subst heq
      go_wp2_with fail
      refine bodyPost_ret (v := .tuple #[]) (by simp [results, Try.results47, go_sem]) rfl ?_
      exact ⟨rfl, by rw [← HM.out]; exact hgr, (kp2.mono (fun _ _ h => h.elim)).trans hkr⟩
end Go.Proofs.Ytomeeeakaejokaa
