/-
  KdfExpands, walked.
-/
import Derived.Test.YtomeeeakaejokaaKdfLaw
namespace Go.Proofs.Ytomeeeakaejokaa
open Go.RowKit

def ExpandsLoop (w0 : World) (i : Value) (wr : World) : Prop := ∃ n : Nat, i = .int .i64 n ∧ n ≤ 3 ∧ Keeps (fun _ => False) w0 wr

set_option maxHeartbeats 4000000 in
set_option maxRecDepth 100000 in
theorem KdfExpands_any (a : Option Addr) (c : Nat) (key : List Int) (a' : Option Addr) (c' : Nat) (b : List Int) (n : Int) (w : World)
    (hc : CapOk a c key.length) (hr : RowAt (fun _ => True) .u8 w a key) (hc' : CapOk a' c' b.length) (hr' : RowAt (fun _ => True) .u8 w a' b) :
    Calls Try.prog 4 #[.slice a key.length c, .slice a' b.length c', .int .i64 n] w fun e w' => e = .returned (.bool true) ∧ Keeps (fun _ => False) w w' := by
  have HA := hid awake5_any
  by_cases h1n : ¬ key.length ≤ 600
  · go_enter Try.func4, Try.ntmps4
    go_wp2_with fail
    refine (Short_no a c key.length w h1n).mono ?_
    rintro e w' ⟨rfl, rfl⟩
    go_wp2_with fail
    refine (HA.out w).mono ?_
    rintro e w' ⟨rfl, hk⟩
    go_wp2_with fail
    go_ret
    exact ⟨rfl, hk⟩
  have h1 : key.length ≤ 600 := by omega
  clear h1n
  by_cases h2n : ¬ b.length ≤ 600
  · go_enter Try.func4, Try.ntmps4
    go_wp2_with fail
    refine (Short_yes a c key.length w h1).mono ?_
    rintro e w' ⟨rfl, rfl⟩
    go_wp2_with fail
    refine (Short_no a' c' b.length w h2n).mono ?_
    rintro e w' ⟨rfl, rfl⟩
    go_wp2_with fail
    refine (HA.out w).mono ?_
    rintro e w' ⟨rfl, hk⟩
    go_wp2_with fail
    go_ret
    exact ⟨rfl, hk⟩
  have h2 : b.length ≤ 600 := by omega
  clear h2n
  obtain ⟨p, hp⟩ : ∃ p, p = n % 140 := ⟨_, rfl⟩
  obtain ⟨q, hq⟩ : ∃ q, q = n % 2 := ⟨_, rfl⟩
  have M1 := hid (Mod_any n 140 w (by omega) (by omega))
  have M2 := hid (Mod_any n 2 w (by omega) (by omega))
  rw [← hp] at M1
  rw [← hq] at M2
  have p1 : 0 ≤ p := by omega
  have p2 : p ≤ 139 := by omega
  have q1 : 0 ≤ q := by omega
  have q2 : q ≤ 1 := by omega
  clear hp hq
  go_enter Try.func4, Try.ntmps4
  go_wp2_with fail
  refine (Short_yes a c key.length w h1).mono ?_
  rintro e w' ⟨rfl, rfl⟩
  go_wp2_with fail
  refine (Short_yes a' c' b.length w h2).mono ?_
  rintro e w' ⟨rfl, rfl⟩
  go_wp2_with fail
  refine (M1.out).mono ?_
  rintro e w' ⟨rfl, rfl⟩
  go_wp2_with fail
  refine (M2.out).mono ?_
  rintro e w' ⟨rfl, rfl⟩
  go_wp2_with fail
  obtain ⟨g, hg⟩ : ∃ g, g = w.heap.size := ⟨_, rfl⟩
  have k1 : Keeps (fun _ => False) w (w.alloc (.cells (wordsOf .i64 [n, p - 2, 8161 + q]) 3)) := (Keeps.refl _ w).alloc _
  have hgl : g < (w.alloc (.cells (wordsOf .i64 [n, p - 2, 8161 + q]) 3)).heap.size := by rw [World.size_alloc]; omega
  have hcl : ∀ j, j < 3 → (w.alloc (.cells (wordsOf .i64 [n, p - 2, 8161 + q]) 3)).cell? ⟨g, j, none⟩ = some (.int .i64 ([n, p - 2, 8161 + q].getD j 0)) := fun j hj => by
    rw [hg, cell_of_row _ _ _ _ _ _ (heap_alloc_last _ _), wordsOf_get _ _ _ hj]
  rw [show wordsOf .i64 [n, p - 2, 8161 + q] = #[.int .i64 n, .int .i64 (p - 2), .int .i64 (8161 + q)] from rfl] at k1 hcl hgl
  have HC := hid hcl
  clear hcl
  have hr1 := hr.keeps k1 (fun _ _ h => h)
  have hr1' := hr'.keeps k1 (fun _ _ h => h)
  generalize w.alloc (.cells #[.int .i64 n, .int .i64 (p - 2), .int .i64 (8161 + q)] 3) = w1 at *
  rw [← hg]
  clear hg p1 p2 q1 q2
  go_loopw [31] (fun i wr => ExpandsLoop w1 i wr) (fun i _ => 3 - (intOf i).toNat)
  case atStart => exact ⟨0, rfl, by omega, Keeps.refl _ _⟩
  case round =>
    obtain ⟨i, rfl, hi, hkr⟩ := hrel
    by_cases hlt : i < 3
    · have hlt' : (i : Int) < 3 := by omega
      have ck : wr.cell? ⟨g, i, none⟩ = some (.int .i64 ([n, p - 2, 8161 + q].getD i 0)) := (hkr.cell (p := ⟨g, i, none⟩) hgl (fun h => h)).trans (HC.out i hlt)
      generalize [n, p - 2, 8161 + q].getD i 0 = k at ck
      have hr2 := hr1.keeps hkr (fun _ _ h => h)
      have hr2' := hr1'.keeps hkr (fun _ _ h => h)
      by_cases hv : 0 ≤ k ∧ k ≤ 8160
      · obtain ⟨N, rfl⟩ := Int.eq_ofNat_of_zero_le hv.1
        have hN : N ≤ 8160 := by omega
        clear hv
        have HP := hid (prgExpand_any a c key a' c' b N wr (by omega) (by omega) hN hc hr2 hc' hr2')
        go_wp2_with fail
        refine (HP.out).mono ?_
        rintro e w3 ⟨v, rfl, ⟨a3, c3, rfl, hc3, hr3⟩, k3⟩
        have HR4 := hid (refExpand_any a c key a' c' b N w3 (by omega) (by omega) hN hc.1 (hr2.keeps k3 (fun _ _ h => h)) hc'.1 (hr2'.keeps k3 (fun _ _ h => h)))
        obtain ⟨X, hX⟩ : ∃ X, X = (eout key b ((N + 31) / 32)).take N := ⟨_, rfl⟩
        have HX := hid hX
        rw [← hX] at hr3 hc3 ⊢
        clear hX HP
        go_wp2_with fail
        refine (HR4.out).mono ?_
        rintro e w4 ⟨v, rfl, hv, k4⟩
        rw [← HX.out] at hv
        obtain ⟨a4, c4, rfl, hc4, hr4⟩ := hv
        have hr34 := hr3.keeps k4 (fun _ _ h => h)
        have cv3 := conv_str (P := Try.prog) 22 5 9 Try.underlying22 Try.underlying5 Try.underlying9 (c := c3) hr34
        have cv4 := conv_str (P := Try.prog) 22 5 9 Try.underlying22 Try.underlying5 Try.underlying9 (c := c4) hr4
        generalize strOfNums X = s at cv3 cv4
        go_wp2_with fail
        clear cv3 cv4
        go_roundw
        case rel => exact ⟨i + 1, rfl, by omega, (hkr.trans k3).trans k4⟩
        case measure => simp [intOf]; omega
      · have hv' : k < 0 ∨ 8160 < k := by omega
        clear hv
        have HP := hid (prgExpand_err a c key a' c' b k wr hv')
        have HR := hid (refExpand_err a c key a' c' b k wr hv')
        have hz : RowAt (fun _ => True) .u8 wr none [] := ⟨by simp, by simp, .inl rfl⟩
        have cv := conv_str (P := Try.prog) 22 5 9 Try.underlying22 Try.underlying5 Try.underlying9 (c := 0) hz
        rw [show ([] : List Int).length = 0 from rfl] at cv
        generalize strOfNums [] = s at cv
        have CV := hid cv
        clear hv' hz cv
        go_wp2_with fail
        refine (HP.out).mono ?_
        rintro e w3 ⟨rfl, rfl⟩
        go_wp2_with fail
        refine (HR.out).mono ?_
        rintro e w3 ⟨rfl, rfl⟩
        have cv := CV.out
        go_wp2_with fail
        clear cv
        go_roundw
        case rel => exact ⟨i + 1, rfl, by omega, hkr⟩
        case measure => simp [intOf]; omega
    · have hge : i = 3 := by omega
      subst hge
      go_wp2_with fail
      refine (HA.out wr).mono ?_
      rintro e w' ⟨rfl, hk⟩
      go_wp2_with fail
      go_ret
      exact ⟨rfl, (k1.trans hkr).trans hk⟩

theorem KdfExpands_walk (a : Option Addr) (c : Nat) (key : List Int) {w : World} (h : CapOk a c key.length ∧ RowAt (fun _ => True) .u8 w a key) (a' : Option Addr) (c' : Nat) (b : List Int) (h' : CapOk a' c' b.length ∧ RowAt (fun _ => True) .u8 w a' b) (n : Int) (_ : (Lit.int .i64 n).wf = true) (w1 : World) (he : w1 = w := by rfl) :
    Calls Try.prog 4 #[.slice a key.length c, .slice a' b.length c', .int .i64 n] w1 fun e w' => e = .returned (.bool true) ∧ Keeps (fun _ => False) w1 w' := by
  subst he
  exact KdfExpands_any a c key a' c' b n w1 h.1 h.2 h'.1 h'.2
end Go.Proofs.Ytomeeeakaejokaa
