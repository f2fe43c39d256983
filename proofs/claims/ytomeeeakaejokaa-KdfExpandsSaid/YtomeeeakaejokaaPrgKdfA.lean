/-
  The program's layer 5: byte strings joined (slices.Concat), masks.
-/
import Derived.Test.YtomeeeakaejokaaPrgTail2
import Derived.Test.YtomeeeakaejokaaRefExpand
import Derived.Lib.AppendZeros
namespace Go.Proofs.Ytomeeeakaejokaa
open Go.RowKit

def GrowPost (w : World) (e : Ending) (w' : World) : Prop :=
  ∃ v, e = .returned v ∧ OwnI .u8 5 w.heap.size w' v [] ∧ Keeps (fun _ => False) w w'

set_option maxHeartbeats 1000000 in
set_option maxRecDepth 100000 in
theorem grow_any (n : Nat) (w : World) (hn : n ≤ 10000000) :
    Calls Try.prog 39 #[.slice none 0 0, .int .i64 n] w (GrowPost w) := by
  obtain ⟨i0, hi, hz0, hz1, hz2⟩ := info_parts info_u8p
  have hn' : (n : Int) ≤ 10000000 := by omega
  by_cases h0 : n = 0
  · subst h0
    go_enter Try.func39, Try.ntmps39
    go_wp2_with fail
    go_ret
    exact ⟨_, rfl, OwnI.nil _ _ _ _, Keeps.refl _ _⟩
  · have hpos : 0 < n := by omega
    have hpos' : 0 < (n : Int) := by omega
    have hr := Lib.run_append_nil_zeros (P := Try.prog) w 22 3 22 5 i0 (.int .u8 0) .i64 .i64 Try.underlying22 Try.underlying3 hi hz0 n hpos (by omega) (by omega) (by rw [hz2]; omega)
    have hcap : grownCap w n 0 5 ≤ maxLen := grownCap_le_maxLen _ _ _ _ (by unfold maxLen; omega)
    have hge := grownCap_ge w n 0 5
    obtain ⟨C, hC⟩ : ∃ C, C = grownCap w n 0 5 := ⟨_, rfl⟩
    obtain ⟨cs, hcs⟩ : ∃ cs, cs = Builtin.zeroCells (Value.int .u8 0).cells n ++ Builtin.zeroCells (Value.int .u8 0).cells (C - n) := ⟨_, rfl⟩
    rw [← hC] at hr hcap hge
    rw [← hcs] at hr
    have hsz : cs.size = C := by rw [hcs]; simp [Builtin.zeroCells, Value.cells]; omega
    have HR := hid hr
    have HSZ := hid hsz
    unfold maxLen at hcap
    clear hr hC hcs hsz
    go_enter Try.func39, Try.ntmps39
    go_wp2_with (at_builtin; (refine Lib.wpList_append_run _ rfl _ _ _ _ rfl _ _ rfl rfl _ _ HR.out ?_))
    go_ret
    refine ⟨_, rfl, ⟨⟨rfl, .inr ⟨w.heap.size, C, cs, rfl, Nat.le_refl _, ?_, Nat.zero_le _, by unfold maxLen; omega, by rw [HSZ.out, Nat.mul_one], by simp⟩⟩, by simp, by simp⟩, ?_⟩
    · exact heap_alloc_last _ _
    · exact ((Keeps.refl _ w).drew).alloc _

def lenTo2 (ls : List (List Int)) (i : Nat) : Nat := (ls.take i).flatten.length
theorem lenTo2_succ (ls : List (List Int)) (i : Nat) (h : i < ls.length) : lenTo2 ls (i + 1) = lenTo2 ls i + (ls.getD i []).length := by
  rw [lenTo2, ← flatten_take ls i h, List.length_append]; rfl
def CatSum (ls : List (List Int)) (w : World) (s i : Value) (wr : World) : Prop :=
  ∃ n : Nat, i = .int .i64 n ∧ n ≤ ls.length ∧ s = .int .i64 (lenTo2 ls n) ∧ wr = w

set_option maxHeartbeats 2000000 in
set_option maxRecDepth 100000 in
theorem concat_any (g off c : Nat) (ls : List (List Int)) (w : World) (hl : ls.length ≤ 1000) (hb : ls.flatten.length ≤ 10000000) (hs : SlicesAt w g off ls) :
    Calls Try.prog 30 #[.slice (some ⟨g, off, none⟩) ls.length c] w (JoinPost ls w) := by
  obtain ⟨i0, hi, hz0, hz1, hz2⟩ := info_parts info_u8p
  obtain ⟨hg, hs⟩ := hs
  have HS := hid hs
  have hS : ∀ n, lenTo2 ls n ≤ 10000000 := fun n => Nat.le_trans (flatten_take_le ls n) hb
  have HSUM := hid hS
  have hlen : (ls.length : Int) ≤ 1000 := by omega
  clear hs hS
  go_enter Try.func30, Try.ntmps30
  go_wp2_with fail
  go_loopw [3, 11] (fun s i wr => CatSum ls w s i wr) (fun _ i _ => ls.length - (intOf i).toNat)
  case atStart => exact ⟨0, rfl, by omega, rfl, rfl⟩
  case round =>
    obtain ⟨n, rfl, hn, rfl, rfl⟩ := hrel
    have hs0 := HSUM.out n
    by_cases hlt : n < ls.length
    · have hlt' : (n : Int) < (ls.length : Int) := by omega
      obtain ⟨a, c', hcell, hc', hr⟩ := HS.out n hlt
      have HN := hid (lenTo2_succ ls n hlt)
      have hs1 := HSUM.out (n + 1)
      rw [HN.out] at hs1
      obtain ⟨L, hL⟩ : ∃ L, L = (ls.getD n []).length := ⟨_, rfl⟩
      rw [← hL] at hcell HN hs1
      obtain ⟨S, hS⟩ : ∃ S, S = lenTo2 ls n := ⟨_, rfl⟩
      rw [← hS] at hs0 HN hs1 ⊢
      clear hL hS hr hc'
      go_wp2_with fail
      go_roundw
      case rel => exact ⟨n + 1, rfl, by omega, by rw [HN.out]; rfl, rfl⟩
      case measure => simp [intOf]; omega
    · have hge : n = ls.length := by omega
      have hlt' : ¬ (n : Int) < (ls.length : Int) := by omega
      obtain ⟨S, hS⟩ : ∃ S, S = lenTo2 ls n := ⟨_, rfl⟩
      rw [← hS] at hs0 ⊢
      obtain ⟨wl, rfl⟩ : ∃ wl : World, wl = wr := ⟨_, rfl⟩
      clear hS
      go_wp2_with fail
      refine (grow_any S wl hs0).mono ?_
      rintro e w1 ⟨v1, rfl, hown1, hk1⟩
      have hk1s := hk1.size
      go_wp2_with fail
      go_loopw [6, 27] (fun v i wr' => JoinLoop ls wl v i wr') (fun _ i _ => ls.length - (intOf i).toNat)
      case atStart => exact ⟨0, rfl, by omega, by simpa using hown1, hk1⟩
      case round =>
        clear hown1 hk1 hk1s hlt hge
        obtain ⟨n, rfl, hn, hown, hkr⟩ := hrel
        by_cases hlt : n < ls.length
        · have hlt' : (n : Int) < (ls.length : Int) := by omega
          obtain ⟨a, c', hcell, hc', hr⟩ := HS.out n hlt
          have hcw : wr.cell? ⟨g, off + n, none⟩ = some (.slice a (ls.getD n []).length c') := (hkr.cell (p := ⟨g, off + n, none⟩) hg (fun h => h)).trans hcell
          have hrw := hr.keeps hkr (fun _ _ h => h)
          have HF := hid (flatten_take ls n hlt)
          have h1 := flatten_take_le ls n
          have h2 := flatten_take_le ls (n + 1)
          rw [← HF.out, List.length_append] at h2
          have hle := hkr.size
          obtain ⟨L, hL⟩ : ∃ L, L = ls.getD n [] := ⟨_, rfl⟩
          rw [← hL] at hcw hrw HF h2
          clear hL hcell hr
          go_wp2_with (at_builtin; (refine wpList_pour rfl _ _ 22 rfl .u8 wl.heap.size 5 i0 1 Try.underlying22 hi hz0 hz1 hz2 u6 (ls.take n).flatten rfl hown a c' L rfl hc' (fun _ => True) hrw (by omega) (by omega) hle ?_))
          intro v' w3 hown3 hk3
          rw [HF.out] at hown3
          go_wp2
          go_roundw
          case rel => exact ⟨n + 1, rfl, by omega, hown3, hkr.step hk3 (fun i hi hb => absurd (hown.base i hb).1 (by omega))⟩
          case measure => simp [intOf]; omega
        · have hge : n = ls.length := by omega
          have hlt' : ¬ (n : Int) < (ls.length : Int) := by omega
          go_wp2_with fail
          go_ret
          refine ⟨_, rfl, ?_, hkr⟩
          rw [hge, List.take_length] at hown
          exact hown

def maskTo (x : Int) (K : List Int) (n : Nat) : List Int := xorAll x (K.take n) ++ K.drop n
theorem maskTo_len (x : Int) (K : List Int) (n : Nat) : (maskTo x K n).length = K.length := by
  rw [maskTo, List.length_append, xorAll_len, ← List.length_append, List.take_append_drop]
theorem maskTo_at (x : Int) (K : List Int) (n : Nat) (h : n < K.length) : (maskTo x K n).getD n 0 = K.getD n 0 := by
  rw [maskTo, List.getD_eq_getElem?_getD, List.getElem?_append_right (by rw [xorAll_len, List.length_take]; omega), xorAll_len, List.length_take, Nat.min_eq_left (by omega), Nat.sub_self, List.getElem?_drop, Nat.add_zero, List.getD_eq_getElem?_getD]
theorem maskTo_set (x : Int) (K : List Int) (n : Nat) (h : n < K.length) : (maskTo x K n).set n (bits .xor .u8 (K.getD n 0) x) = maskTo x K (n + 1) := by
  rw [maskTo, List.set_append_right _ _ (by rw [xorAll_len, List.length_take]; omega), xorAll_len, List.length_take, Nat.min_eq_left (by omega), Nat.sub_self, List.drop_eq_getElem_cons h, List.set_cons_zero, maskTo, ← xorAll_take x K n h, List.append_assoc]
  rfl
theorem maskTo_full (x : Int) (K : List Int) (n : Nat) (h : K.length ≤ n) : maskTo x K n = xorAll x K := by
  rw [maskTo, List.take_of_length_le h, List.drop_eq_nil_of_le h, List.append_nil]
theorem xorAll_wf (x : Int) (K : List Int) : ∀ y, y ∈ xorAll x K → (Lit.int .u8 y).wf = true := by
  intro y hy
  obtain ⟨z, _, rfl⟩ := List.mem_map.1 hy
  exact wf_bits _ _ _ _

def MaskPost (x : Int) (K : List Int) (w : World) (e : Ending) (w' : World) : Prop :=
  ∃ g, e = .returned (.slice (some ⟨g, 0, none⟩) 64 64) ∧ RowAt (fun _ => True) .u8 w' (some ⟨g, 0, none⟩) (xorAll x K) ∧ Keeps (fun _ => False) w w'
def MaskRel (x : Int) (K : List Int) (g : Nat) (w : World) (i : Value) (wr : World) : Prop :=
  ∃ n : Nat, i = .int .i64 n ∧ n ≤ 64 ∧ wr.heap[g]? = some (.cells (wordsOf .u8 (maskTo x K n)) 44 (0, 0)) ∧ Keeps (· = g) w wr

set_option maxHeartbeats 2000000 in
set_option maxRecDepth 100000 in
theorem mask_any (x : Int) (K : List Int) (hK : K.length = 64) (w : World) :
    Calls Try.prog 28 #[.agg (wordsOf .u8 K), .int .u8 x] w (MaskPost x K w) := by
  have HK := hid hK
  obtain ⟨cs, hcs⟩ : ∃ cs, cs = wordsOf .u8 K := ⟨_, rfl⟩
  have HCS := hid hcs
  rw [← hcs]
  clear hK hcs
  go_enter Try.func28, Try.ntmps28
  go_wp2_with fail
  obtain ⟨g, hg⟩ : ∃ g, g = w.heap.size := ⟨_, rfl⟩
  have HG := hid hg
  have kp1 : Keeps (fun _ => False) w (w.alloc (.cells cs 44)) := (Keeps.refl _ w).alloc _
  have hrow : (w.alloc (.cells cs 44)).heap[g]? = some (.cells cs 44 (0, 0)) := by rw [hg]; exact heap_alloc_last _ _
  have hgl : g < (w.alloc (.cells cs 44)).heap.size := by rw [World.size_alloc]; omega
  generalize w.alloc (.cells cs 44) = w1 at *
  rw [← hg]
  clear hg
  go_loopw [6] (fun i wr => MaskRel x K g w1 i wr) (fun i _ => 64 - (intOf i).toNat)
  case atStart => exact ⟨0, rfl, by omega, by rw [hrow, HCS.out]; rfl, Keeps.refl _ _⟩
  case round =>
    clear hrow
    obtain ⟨n, rfl, hn, hrow, hkr⟩ := hrel
    by_cases hlt : n < 64
    · have hlt' : (n : Int) < 64 := by omega
      have HS := hid (maskTo_set x K n (by rw [HK.out]; omega))
      have cn : wr.cell? ⟨g, n, none⟩ = some (.int .u8 (K.getD n 0)) := by
        rw [cell_of_row wr g n _ _ _ hrow, wordsOf_get _ _ _ (by rw [maskTo_len, HK.out]; omega), maskTo_at _ _ _ (by rw [HK.out]; omega)]
      have fn' : wr.frozen? ⟨g, n, none⟩ = false := frozen_of_row wr g n _ _ hrow
      generalize K.getD n 0 = z at cn HS
      have HROW := hid hrow
      clear hrow
      go_wp2_with fail
      go_roundw
      case rel =>
        refine ⟨n + 1, rfl, by omega, ?_, Keeps.setCell hkr _ _ (fun _ => rfl)⟩
        rw [heap_setCell_same wr g n _ _ _ HROW.out, wordsOf_set, HS.out]
      case measure => simp [intOf]; omega
    · have h64 : n = 64 := by omega
      subst h64
      rw [maskTo_full x K 64 (by rw [HK.out]; omega)] at hrow
      go_wp2_with fail
      go_ret
      refine ⟨g, rfl, ⟨by rw [xorAll_len, HK.out]; omega, xorAll_wf x K, .inr ⟨g, 0, rfl, trivial, by have := hkr.size; omega, fun j hj => ?_⟩⟩, kp1.step hkr (fun i hi e => by have := HG.out; omega)⟩
      rw [Nat.zero_add, cell_of_row wr g j _ _ _ hrow, wordsOf_get _ _ _ hj]
end Go.Proofs.Ytomeeeakaejokaa
