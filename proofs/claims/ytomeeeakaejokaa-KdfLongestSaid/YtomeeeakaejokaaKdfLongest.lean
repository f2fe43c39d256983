/-
  KdfLongest, walked.
-/
import Derived.Test.YtomeeeakaejokaaKdfLaw
namespace Go.Proofs.Ytomeeeakaejokaa
open Go.RowKit

set_option maxHeartbeats 2000000 in
set_option maxRecDepth 100000 in
theorem KdfLongest_any (n : Int) (w : World) :
    Calls Try.prog 5 #[.int .i64 n] w fun e w' => e = .returned (.bool true) ∧ Keeps (fun _ => False) w w' := by
  have HA := hid awake5_any
  obtain ⟨m, hm⟩ : ∃ m : Nat, n % 9 = (m : Int) := ⟨(n % 9).toNat, by omega⟩
  have hm9 : m < 9 := by omega
  have HM := hid (fun W => show Calls Try.prog 12 #[.int .i64 n, .int .i64 9] W fun e w' => e = .returned (.int .i64 m) ∧ W = w' from by rw [← hm]; exact Mod_any n 9 W (by omega) (by omega))
  have HS := hid (fun W => Some_any n 32 W (by omega))
  have HS2 := hid (fun W => Some_any n m W (by omega))
  clear hm
  go_enter Try.func5, Try.ntmps5
  go_wp2_with fail
  refine (HS.out w).mono ?_
  rintro e w1 ⟨v, rfl, hown, k1⟩
  obtain ⟨L, hL⟩ : ∃ L, L = someL n 32 := ⟨_, rfl⟩
  have hLl : L.length ≤ 66 := by rw [hL, someL_length]; omega
  rw [← hL] at hown
  obtain ⟨al, cl, rfl, hcl, hrl'⟩ := hown.opened
  have hrl : RowAt (fun _ => True) .u8 w1 al L := hrl'.mono (fun _ _ _ => trivial)
  clear hL hown hrl'
  go_wp2_with fail
  refine (HM.out w1).mono ?_
  rintro e w' ⟨rfl, rfl⟩
  go_wp2_with fail
  refine (HS2.out w1).mono ?_
  rintro e w2 ⟨v, rfl, hown, k2⟩
  obtain ⟨I, hI⟩ : ∃ I, I = someL n m := ⟨_, rfl⟩
  have hIl : I.length ≤ 66 := by rw [hI, someL_length]; omega
  rw [← hI] at hown
  obtain ⟨ai, ci, rfl, hci, hri'⟩ := hown.opened
  have hri : RowAt (fun _ => True) .u8 w2 ai I := hri'.mono (fun _ _ _ => trivial)
  have hrl2 := hrl.keeps k2 (fun _ _ h => h)
  clear hI hown hri' hrl
  go_wp2_with fail
  refine (prgExpand_any al cl L ai ci I 8160 w2 (by omega) (by omega) (by omega) hcl hrl2 hci hri).mono ?_
  rintro e w3 ⟨v, rfl, ⟨a3, c3, rfl, hc3, hr3⟩, k3⟩
  have hrl3 := hrl2.keeps k3 (fun _ _ h => h)
  have hri3 := hri.keeps k3 (fun _ _ h => h)
  have HR4 := hid (refExpand_any al cl L ai ci I 8160 w3 (by omega) (by omega) (by omega) hcl.1 hrl3 hci.1 hri3)
  obtain ⟨X, hX⟩ : ∃ X, X = (eout L I ((8160 + 31) / 32)).take 8160 := ⟨_, rfl⟩
  have HX := hid hX
  rw [← hX] at hr3 hc3 ⊢
  clear hX hrl2 hri
  go_wp2_with fail
  refine (HR4.out).mono ?_
  rintro e w4 ⟨v, rfl, hv, k4⟩
  rw [← HX.out] at hv
  obtain ⟨a4, c4, rfl, hc4, hr4⟩ := hv
  have hr34 := hr3.keeps k4 (fun _ _ h => h)
  have cv3 := conv_str (P := Try.prog) 22 5 9 Try.underlying22 Try.underlying5 Try.underlying9 (c := c3) hr34
  have cv4 := conv_str (P := Try.prog) 22 5 9 Try.underlying22 Try.underlying5 Try.underlying9 (c := c4) hr4
  generalize strOfNums X = s at cv3 cv4
  go_wp2_with fail
  refine (HA.out w4).mono ?_
  rintro e w5 ⟨rfl, k5⟩
  clear cv3 cv4
  go_wp2_with fail
  go_ret
  exact ⟨rfl, ((((k1.trans k2).trans k3).trans k4).trans k5)⟩

theorem KdfLongest_walk (n : Int) (_ : (Lit.int .i64 n).wf = true) (w : World) :
    Calls Try.prog 5 #[.int .i64 n] w fun e w' => e = .returned (.bool true) ∧ Keeps (fun _ => False) w w' :=
  KdfLongest_any n w
end Go.Proofs.Ytomeeeakaejokaa
