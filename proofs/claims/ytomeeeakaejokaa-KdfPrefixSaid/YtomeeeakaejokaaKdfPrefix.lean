/-
  KdfPrefix, walked.
-/
import Derived.Test.YtomeeeakaejokaaKdfLaw
import Derived.Test.YtomeeeakaejokaaRel2
namespace Go.Proofs.Ytomeeeakaejokaa
open Go.RowKit

theorem hkey_zeros (key : List Int) (z : Nat) (h : key.length + z ≤ 64) : hkey (key ++ List.replicate z 0) = hkey key := by
  have h1 : hkey0 (key ++ List.replicate z 0) = key ++ List.replicate z 0 := by rw [hkey0, if_neg (by simp; omega)]
  have h2 : hkey0 key = key := by rw [hkey0, if_neg (by omega)]
  rw [hkey, hkey, h1, h2, hfill, hfill, List.append_assoc, List.replicate_append_replicate]
  congr 2
  simp
  omega
theorem hmac_zeros (key : List Int) (z : Nat) (b : List Int) (h : key.length + z ≤ 64) : hmac (key ++ List.replicate z 0) b = hmac key b := by
  rw [hmac, hmac, hkey_zeros key z h]
theorem ekey_zeros (key : List Int) (z : Nat) (info : List Int) (h : key.length + z ≤ 64) : ∀ k, ekey (key ++ List.replicate z 0) info k = ekey key info k
  | 0 => rfl
  | k + 1 => by rw [ekey, ekey, ekey_zeros key z info h k, hmac_zeros key z _ h]
theorem eout_zeros (key : List Int) (z : Nat) (info : List Int) (h : key.length + z ≤ 64) : ∀ k, eout (key ++ List.replicate z 0) info k = eout key info k
  | 0 => rfl
  | k + 1 => by rw [eout, eout, eout_zeros key z info h k, ekey_zeros key z info h]
theorem eout_take (key info : List Int) (n : Nat) : ∀ j k, n ≤ 32 * j → (eout key info (j + k)).take n = (eout key info j).take n
  | _, 0, _ => rfl
  | j, k + 1, h => by
    rw [← Nat.add_assoc, eout, List.take_append_of_le_length (by rw [eout_len]; omega)]
    exact eout_take key info n j k h

namespace Rel2
set_option maxHeartbeats 4000000 in
set_option maxRecDepth 100000 in
theorem KdfPrefix_any (a : Option Addr) (c : Nat) (prk : List Int) (a' : Option Addr) (c' : Nat) (info : List Int) (n m : Int) (w : World)
    (hc : CapOk a c prk.length) (hr : RowAt (fun _ => True) .u8 w a prk) (hc' : CapOk a' c' info.length) (hr' : RowAt (fun _ => True) .u8 w a' info) :
    Calls Try.prog 8 #[.slice a prk.length c, .slice a' info.length c', .int .i64 n, .int .i64 m] w fun e w' => e = .returned (.bool true) ∧ Keeps (fun _ => False) w w' := by
  have HA := hid awake5_any
  have hml := hr.1
  by_cases h1n : prk.length > 60
  · have h1i : (prk.length : Int) > 60 := by omega
    go_enter Try.func8, Try.ntmps8
    go_wp2_with fail
    refine (HA.out w).mono ?_
    rintro e w' ⟨rfl, hk⟩
    go_wp2_with fail
    go_ret
    exact ⟨rfl, hk⟩
  have h1 : prk.length ≤ 60 := by omega
  have h1i : ¬ (prk.length : Int) > 60 := by omega
  clear h1n
  by_cases h2n : ¬ info.length ≤ 600
  · go_enter Try.func8, Try.ntmps8
    go_wp2_with fail
    refine (Short_no a' c' info.length w h2n).mono ?_
    rintro e w' ⟨rfl, rfl⟩
    go_wp2_with fail
    refine (HA.out w).mono ?_
    rintro e w' ⟨rfl, hk⟩
    go_wp2_with fail
    go_ret
    exact ⟨rfl, hk⟩
  have h2 : info.length ≤ 600 := by omega
  clear h2n
  obtain ⟨i0, hi, hz0, hz1, hz2⟩ := info_parts info_u8p
  have hz8 : i0.bytes ≤ 8 := by omega
  obtain ⟨N, hN⟩ : ∃ N : Nat, n % 150 = (N : Int) := ⟨(n % 150).toNat, by omega⟩
  obtain ⟨M, hM⟩ : ∃ M : Nat, m % 150 = (M : Int) := ⟨(m % 150).toNat, by omega⟩
  have hN1 : N ≤ 149 := by omega
  have hM1 : M ≤ 149 := by omega
  have HM1 := hid (show Calls Try.prog 12 #[.int .i64 n, .int .i64 150] w fun e w' => e = .returned (.int .i64 N) ∧ w = w' from by rw [← hN]; exact Mod_any n 150 w (by omega) (by omega))
  have HM2 := hid (show Calls Try.prog 12 #[.int .i64 m, .int .i64 150] w fun e w' => e = .returned (.int .i64 M) ∧ w = w' from by rw [← hM]; exact Mod_any m 150 w (by omega) (by omega))
  have HNM := hid (show IntKind.i64.wrap ((N : Int) + (M : Int)) = ((N + M : Nat) : Int) by rw [IntKind.wrap_i64]; omega)
  have hE1 := prgExpand_any a c prk a' c' info N w (by omega) (by omega) (by omega) hc hr hc' hr'
  have HE1 := hid hE1
  clear hN hM hE1
  go_enter Try.func8, Try.ntmps8
  go_wp2_with fail
  refine (Short_yes a' c' info.length w h2).mono ?_
  rintro e w' ⟨rfl, rfl⟩
  go_wp2_with fail
  refine (HM1.out).mono ?_
  rintro e w' ⟨rfl, rfl⟩
  go_wp2_with fail
  refine (HM2.out).mono ?_
  rintro e w' ⟨rfl, rfl⟩
  go_wp2_with fail
  refine (HE1.out).mono ?_
  rintro e w1 ⟨v, rfl, ⟨ab, cb, rfl, hcb, hrb⟩, k1⟩
  obtain ⟨X1, hX1⟩ : ∃ X1, X1 = (eout prk info ((N + 31) / 32)).take N := ⟨_, rfl⟩
  have hX1l : X1.length = N := by rw [hX1, List.length_take, eout_len]; omega
  have HX1 := hid hX1
  have HX1l := hid hX1l
  rw [← hX1] at hcb hrb ⊢
  rw [hX1l] at hcb ⊢
  have hr1 := hr.keeps k1 (fun _ _ h => h)
  clear hX1 hX1l
  go_wp2_with (at_builtin; (refine wpList_pour rfl _ _ 22 rfl .u8 w1.heap.size 5 i0 1 Try.underlying22 hi hz0 hz1 hz2 (.slice none 0 0) [] rfl (OwnI.nil _ _ _ _) a c prk rfl hc.1 (fun _ => True) hr1 (by simp; omega) (by omega) (Nat.le_refl _) ?_))
  intro v2 w2 hown2 hk2
  have k2 : Keeps (fun _ => False) w1 w2 := hk2.mono (fun i _ h => by simp [Value.ownBlock] at h)
  have hk2s := k2.size
  clear hk2
  go_wp2_with (at_builtin; (refine wpList_pushes rfl _ _ 22 rfl .u8 w1.heap.size 5 i0 1 Try.underlying22 hi hz0 hz1 hz2 v2 prk [0, 0] rfl hown2 rfl (by decide) (by simp; omega) (by omega) hk2s _ rfl ?_))
  intro v3 w3 hown3 hk3
  have k3 : Keeps (fun _ => False) w1 w3 := k2.step hk3 (fun i hi hb => absurd (hown2.base i hb).1 (by omega))
  obtain ⟨P2, hP2⟩ : ∃ P2, P2 = prk ++ [0, 0] := ⟨_, rfl⟩
  have hP2l : P2.length ≤ 64 := by rw [hP2]; simp; omega
  rw [← hP2] at hown3
  have HP2 := hid (show P2 = prk ++ List.replicate 2 0 from hP2)
  obtain ⟨a3, c3, rfl, hc3, hr3⟩ := hown3.opened
  have hE2 := prgExpand_any a3 c3 P2 a' c' info (N + M) w3 (by omega) (by omega) (by omega) hc3 (hr3.mono (fun _ _ _ => trivial)) hc' (hr'.keeps (k1.trans k3) (fun _ _ h => h))
  have HE2 := hid (show Calls Try.prog 17 #[.slice a3 P2.length c3, .slice a' info.length c', .int .i64 ((N : Int) + (M : Int))] w3 (ExpandPost P2 info (N + M) w3) from by
    rw [show (N : Int) + (M : Int) = ((N + M : Nat) : Int) by omega]; exact hE2)
  clear hP2 hE2 hown2 hown3 hk3 hr3
  go_wp2_with fail
  refine (HE2.out).mono ?_
  rintro e w5 ⟨v, rfl, hv, k5⟩
  have hEQ : eout P2 info ((N + M + 31) / 32) = eout prk info ((N + M + 31) / 32) := by rw [HP2.out]; exact eout_zeros prk 2 info (by omega) _
  rw [hEQ] at hv
  obtain ⟨ac, cc, rfl, hcc, hrc⟩ := hv
  have hlc : ((eout prk info ((N + M + 31) / 32)).take (N + M)).length = N + M := by rw [List.length_take, eout_len]; omega
  rw [hlc] at hcc ⊢
  have hrcN := hrc.take N
  have hcut : ((eout prk info ((N + M + 31) / 32)).take (N + M)).take N = X1 := by
    rw [List.take_take, Nat.min_eq_left (by omega), HX1.out]
    obtain ⟨d, hd⟩ : ∃ d, (N + M + 31) / 32 = (N + 31) / 32 + d := ⟨(N + M + 31) / 32 - (N + 31) / 32, by omega⟩
    rw [hd]
    exact eout_take prk info N ((N + 31) / 32) d (by omega)
  rw [hcut] at hrcN
  have kp : Keeps (fun _ => False) w w5 := (k1.trans k3).trans k5
  have hrb5 := hrb.keeps (k3.trans k5) (fun _ _ h => h)
  obtain ⟨s, hs⟩ : ∃ s, s = strOfNums X1 := ⟨_, rfl⟩
  have HSC := hid (show ∀ W, More w5 W → (convert 22 9 (.slice ac N cc)).run Try.prog W = .ok (.string s) W from fun W hW => by
    have h := conv_str (P := Try.prog) 22 5 9 Try.underlying22 Try.underlying5 Try.underlying9 (c := cc) (hrcN.keeps hW (fun _ _ h => h))
    rwa [HX1l.out, ← hs] at h)
  have HSB := hid (show ∀ W, More w5 W → (convert 22 9 (.slice ab N cb)).run Try.prog W = .ok (.string s) W from fun W hW => by
    have h := conv_str (P := Try.prog) 22 5 9 Try.underlying22 Try.underlying5 Try.underlying9 (c := cb) (hrb5.keeps hW (fun _ _ h => h))
    rwa [HX1l.out, ← hs] at h)
  have HMZ := hid (show hmac (prk ++ [0]) info = hmac prk info from hmac_zeros prk 1 info (by omega))
  have hNc : N + M ≤ cc := hcc.2
  have HCUT := hid (show (N : Int) ≤ (cc : Int) by omega)
  clear hs hEQ hlc hrcN hcut hrc hrb hrb5 hr1 hcb hcc
  go_wp2_with fail
  rename_i K hK
  refine wp_region_relV 96 (by kernel_rfl) rfl (by kernel_rfl)
    [Is (.int .i64 0), Is (.bool true), Is (.bool true), Is (.int .i64 0), Is (.bool true), Is (.bool true), Is (.bool true), Is (.slice ab N cb), Is (.int .i64 N), Is (.int .i64 N), Is (.bool true), Is (.bool true), Is (.bool true), Is (.slice ac (N + M) cc), Is (.int .i64 ((N + M : Nat) : Int)), Is (.int .i64 N), Is (.int .i64 M), Is (.int .i64 ((N + M : Nat) : Int)), Is (.bool true), Is (.bool true), Is (.bool true), Is (.slice ac (N + M) cc), Is (.int .i64 N), Is (.slice ac N cc), Is (.string s), Is (.slice ab N cb), Is (.string s), Is (.bool true), Is (.bool true), Is (.bool true), Is (.slice a prk.length c), Is (.slice a' info.length c'), RowIs .u8 (hmac prk info), Is (.string (strOfNums (hmac prk info))), Is (.slice a prk.length c), OwnG 35 .u8 5 w5.heap.size prk, RowIs .u8 [0], OwnG 37 .u8 5 w5.heap.size (prk ++ [0]), Is (.slice a' info.length c'), RowIs .u8 (hmac prk info), Is (.string (strOfNums (hmac prk info))), Is (.bool true), Is (.bool true), Is (.bool true), RowIs .u8 (sha256 []), Is (.int .i64 32), Is (.bool true), Is (.bool true), Is (.bool true), Is (.bool true), Is (.bool true), Is (.bool true)]
    ⟨Is.lasts _, Is.lasts _, Is.lasts _, Is.lasts _, Is.lasts _, Is.lasts _, Is.lasts _, Is.lasts _, Is.lasts _, Is.lasts _, Is.lasts _, Is.lasts _, Is.lasts _, Is.lasts _, Is.lasts _, Is.lasts _, Is.lasts _, Is.lasts _, Is.lasts _, Is.lasts _, Is.lasts _, Is.lasts _, Is.lasts _, Is.lasts _, Is.lasts _, Is.lasts _, Is.lasts _, Is.lasts _, Is.lasts _, Is.lasts _, Is.lasts _, Is.lasts _, RowIs.lasts _ _, Is.lasts _, Is.lasts _, OwnG.lasts _ _ _ _ _, RowIs.lasts _ _, OwnG.lasts _ _ _ _ _, Is.lasts _, RowIs.lasts _ _, Is.lasts _, Is.lasts _, Is.lasts _, Is.lasts _, RowIs.lasts _ _, Is.lasts _, Is.lasts _, Is.lasts _, Is.lasts _, Is.lasts _, Is.lasts _, Is.lasts _, trivial⟩ (fun j => if j = 35 then 37 else 1000000)
    ⟨?_, ?_, ?_, ?_, ?_, ?_, ?_, ?_, ?_, ?_, ?_, ?_, ?_, ?_, ?_, ?_, ?_, ?_, ?_, ?_, ?_, ?_, ?_, ?_, ?_, ?_, ?_, ?_, ?_, ?_, ?_, ?_, ?_, ?_, ?_, ?_, ?_, ?_, ?_, ?_, ?_, ?_, ?_, ?_, ?_, ?_, ?_, ?_, ?_, ?_, ?_, ?_, trivial⟩ ?_
  · intro γ A W M0 hM0 H
    have e10 : (A.tmps[10]?).getD undef = (.int .i64 0) := H.slot' 10 rfl
    exact st_val H.st rfl (v := (.int .i64 0)) (by simp [go_sem, e10]) rfl
  · intro γ A W M0 hM0 H
    have e45 : (A.tmps[45]?).getD undef = (.int .i64 0) := H.has 0 45 rfl rfl
    exact st_val H.st rfl (v := .bool true) (by simp [go_sem, e45]) rfl
  · intro γ A W M0 hM0 H
    have e46 : (A.tmps[46]?).getD undef = (.bool true) := H.has 1 46 rfl rfl
    exact st_val H.st rfl (v := (.bool true)) (by simp [go_sem, e46]) rfl
  · intro γ A W M0 hM0 H
    have e12 : (A.tmps[12]?).getD undef = (.int .i64 0) := H.slot' 12 rfl
    exact st_val H.st (want_of rfl rfl (H.has 2 47 rfl rfl)) (v := (.int .i64 0)) (by simp [go_sem, e12]) rfl
  · intro γ A W M0 hM0 H
    have e48 : (A.tmps[48]?).getD undef = (.int .i64 0) := H.has 3 48 rfl rfl
    exact st_val H.st (want_of rfl rfl (H.has 2 47 rfl rfl)) (v := .bool true) (by simp [go_sem, e48]) rfl
  · intro γ A W M0 hM0 H
    have e47 : (A.tmps[47]?).getD undef = (.bool true) := H.has 2 47 rfl rfl
    have e49 : (A.tmps[49]?).getD undef = (.bool true) := H.has 4 49 rfl rfl
    exact st_val H.st rfl (v := .bool true) (by simp [go_sem, e47, e49]) rfl
  · intro γ A W M0 hM0 H
    have e50 : (A.tmps[50]?).getD undef = (.bool true) := H.has 5 50 rfl rfl
    exact st_val H.st rfl (v := (.bool true)) (by simp [go_sem, e50]) rfl
  · intro γ A W M0 hM0 H
    have e9 : (A.tmps[9]?).getD undef = (.slice ab N cb) := H.slot' 9 rfl
    exact st_val H.st (want_of rfl rfl (H.has 6 51 rfl rfl)) (v := (.slice ab N cb)) (by simp [go_sem, e9]) rfl
  · intro γ A W M0 hM0 H
    have e52 : (A.tmps[52]?).getD undef = (.slice ab N cb) := H.has 7 52 rfl rfl
    exact st_val H.st (want_of rfl rfl (H.has 6 51 rfl rfl)) (v := (.int .i64 N)) (by simp [go_sem, e52]) rfl
  · intro γ A W M0 hM0 H
    have e2 : (A.tmps[2]?).getD undef = (.int .i64 N) := H.slot' 2 rfl
    exact st_val H.st (want_of rfl rfl (H.has 6 51 rfl rfl)) (v := (.int .i64 N)) (by simp [go_sem, e2]) rfl
  · intro γ A W M0 hM0 H
    have e53 : (A.tmps[53]?).getD undef = (.int .i64 N) := H.has 8 53 rfl rfl
    have e54 : (A.tmps[54]?).getD undef = (.int .i64 N) := H.has 9 54 rfl rfl
    exact st_val H.st (want_of rfl rfl (H.has 6 51 rfl rfl)) (v := .bool true) (by simp [go_sem, e53, e54]) rfl
  · intro γ A W M0 hM0 H
    have e51 : (A.tmps[51]?).getD undef = (.bool true) := H.has 6 51 rfl rfl
    have e55 : (A.tmps[55]?).getD undef = (.bool true) := H.has 10 55 rfl rfl
    exact st_val H.st rfl (v := .bool true) (by simp [go_sem, e51, e55]) rfl
  · intro γ A W M0 hM0 H
    have e56 : (A.tmps[56]?).getD undef = (.bool true) := H.has 11 56 rfl rfl
    exact st_val H.st rfl (v := (.bool true)) (by simp [go_sem, e56]) rfl
  · intro γ A W M0 hM0 H
    have e11 : (A.tmps[11]?).getD undef = (.slice ac (N + M) cc) := H.slot' 11 rfl
    exact st_val H.st (want_of rfl rfl (H.has 12 57 rfl rfl)) (v := (.slice ac (N + M) cc)) (by simp [go_sem, e11]) rfl
  · intro γ A W M0 hM0 H
    have e58 : (A.tmps[58]?).getD undef = (.slice ac (N + M) cc) := H.has 13 58 rfl rfl
    exact st_val H.st (want_of rfl rfl (H.has 12 57 rfl rfl)) (v := (.int .i64 ((N + M : Nat) : Int))) (by simp [go_sem, e58]) rfl
  · intro γ A W M0 hM0 H
    have e2 : (A.tmps[2]?).getD undef = (.int .i64 N) := H.slot' 2 rfl
    exact st_val H.st (want_of rfl rfl (H.has 12 57 rfl rfl)) (v := (.int .i64 N)) (by simp [go_sem, e2]) rfl
  · intro γ A W M0 hM0 H
    have e3 : (A.tmps[3]?).getD undef = (.int .i64 M) := H.slot' 3 rfl
    exact st_val H.st (want_of rfl rfl (H.has 12 57 rfl rfl)) (v := (.int .i64 M)) (by simp [go_sem, e3]) rfl
  · intro γ A W M0 hM0 H
    have e60 : (A.tmps[60]?).getD undef = (.int .i64 N) := H.has 15 60 rfl rfl
    have e61 : (A.tmps[61]?).getD undef = (.int .i64 M) := H.has 16 61 rfl rfl
    exact st_val H.st (want_of rfl rfl (H.has 12 57 rfl rfl)) (v := (.int .i64 ((N + M : Nat) : Int))) (by simp [go_sem, e60, e61, HNM.out]) rfl
  · intro γ A W M0 hM0 H
    have e59 : (A.tmps[59]?).getD undef = (.int .i64 ((N + M : Nat) : Int)) := H.has 14 59 rfl rfl
    have e62 : (A.tmps[62]?).getD undef = (.int .i64 ((N + M : Nat) : Int)) := H.has 17 62 rfl rfl
    exact st_val H.st (want_of rfl rfl (H.has 12 57 rfl rfl)) (v := .bool true) (by simp [go_sem, e59, e62]) rfl
  · intro γ A W M0 hM0 H
    have e57 : (A.tmps[57]?).getD undef = (.bool true) := H.has 12 57 rfl rfl
    have e63 : (A.tmps[63]?).getD undef = (.bool true) := H.has 18 63 rfl rfl
    exact st_val H.st rfl (v := .bool true) (by simp [go_sem, e57, e63]) rfl
  · intro γ A W M0 hM0 H
    have e64 : (A.tmps[64]?).getD undef = (.bool true) := H.has 19 64 rfl rfl
    exact st_val H.st rfl (v := (.bool true)) (by simp [go_sem, e64]) rfl
  · intro γ A W M0 hM0 H
    have e11 : (A.tmps[11]?).getD undef = (.slice ac (N + M) cc) := H.slot' 11 rfl
    exact st_val H.st (want_of rfl rfl (H.has 20 65 rfl rfl)) (v := (.slice ac (N + M) cc)) (by simp [go_sem, e11]) rfl
  · intro γ A W M0 hM0 H
    have e2 : (A.tmps[2]?).getD undef = (.int .i64 N) := H.slot' 2 rfl
    exact st_val H.st (want_of rfl rfl (H.has 20 65 rfl rfl)) (v := (.int .i64 N)) (by simp [go_sem, e2]) rfl
  · intro γ A W M0 hM0 H
    have e66 : (A.tmps[66]?).getD undef = (.slice ac (N + M) cc) := H.has 21 66 rfl rfl
    have e67 : (A.tmps[67]?).getD undef = (.int .i64 N) := H.has 22 67 rfl rfl
    exact st_val H.st (want_of rfl rfl (H.has 20 65 rfl rfl)) (v := (.slice ac N cc)) (by simp [go_sem, e66, e67, HCUT.out]) rfl
  · intro γ A W M0 hM0 H
    have e68 : (A.tmps[68]?).getD undef = (.slice ac N cc) := H.has 23 68 rfl rfl
    exact st_val H.st (want_of rfl rfl (H.has 20 65 rfl rfl)) (v := (.string s)) (by simp [go_sem, e68, HSC.out W H.more]) rfl
  · intro γ A W M0 hM0 H
    have e9 : (A.tmps[9]?).getD undef = (.slice ab N cb) := H.slot' 9 rfl
    exact st_val H.st (want_of rfl rfl (H.has 20 65 rfl rfl)) (v := (.slice ab N cb)) (by simp [go_sem, e9]) rfl
  · intro γ A W M0 hM0 H
    have e70 : (A.tmps[70]?).getD undef = (.slice ab N cb) := H.has 25 70 rfl rfl
    exact st_val H.st (want_of rfl rfl (H.has 20 65 rfl rfl)) (v := (.string s)) (by simp [go_sem, e70, HSB.out W H.more]) rfl
  · intro γ A W M0 hM0 H
    have e69 : (A.tmps[69]?).getD undef = (.string s) := H.has 24 69 rfl rfl
    have e71 : (A.tmps[71]?).getD undef = (.string s) := H.has 26 71 rfl rfl
    exact st_val H.st (want_of rfl rfl (H.has 20 65 rfl rfl)) (v := .bool true) (by simp [go_sem, e69, e71]) rfl
  · intro γ A W M0 hM0 H
    have e65 : (A.tmps[65]?).getD undef = (.bool true) := H.has 20 65 rfl rfl
    have e72 : (A.tmps[72]?).getD undef = (.bool true) := H.has 27 72 rfl rfl
    exact st_val H.st rfl (v := .bool true) (by simp [go_sem, e65, e72]) rfl
  · intro γ A W M0 hM0 H
    have e73 : (A.tmps[73]?).getD undef = (.bool true) := H.has 28 73 rfl rfl
    exact st_val H.st rfl (v := (.bool true)) (by simp [go_sem, e73]) rfl
  · intro γ A W M0 hM0 H
    have e0 : (A.tmps[0]?).getD undef = (.slice a prk.length c) := H.slot' 0 rfl
    exact st_val H.st (want_of rfl rfl (H.has 29 74 rfl rfl)) (v := (.slice a prk.length c)) (by simp [go_sem, e0]) rfl
  · intro γ A W M0 hM0 H
    have e1 : (A.tmps[1]?).getD undef = (.slice a' info.length c') := H.slot' 1 rfl
    exact st_val H.st (want_of rfl rfl (H.has 29 74 rfl rfl)) (v := (.slice a' info.length c')) (by simp [go_sem, e1]) rfl
  · intro γ A W M0 hM0 H
    have e75 : (A.tmps[75]?).getD undef = (.slice a prk.length c) := H.has 30 75 rfl rfl
    have e76 : (A.tmps[76]?).getD undef = (.slice a' info.length c') := H.has 31 76 rfl rfl
    refine st_call H.st (want_of rfl rfl (H.has 29 74 rfl rfl)) (f := 13) (args := #[.slice a prk.length c, .slice a' info.length c']) (by simp [go_sem, e75, e76]) ?_
    refine (prgHMAC_any a c prk a' c' info W (by omega) (by omega) hc (hr.keeps (kp.trans H.more) (fun _ _ h => h)) hc' (hr'.keeps (kp.trans H.more) (fun _ _ h => h))).mono ?_
    rintro e w' ⟨v, rfl, hown, hk⟩
    exact ⟨v, rfl, hk, hown.rowG H.st⟩
  · intro γ A W M0 hM0 H
    obtain ⟨a77, c77, e77, hc77, hr77⟩ := H.has 32 77 rfl rfl
    refine st_val H.st (want_of rfl rfl (H.has 29 74 rfl rfl)) (v := .string (strOfNums (hmac prk info))) ?_ rfl
    have cv := conv_str (P := Try.prog) 22 5 9 Try.underlying22 Try.underlying5 Try.underlying9 (c := c77) hr77
    simp [go_sem, e77, cv]
  · intro γ A W M0 hM0 H
    have e0 : (A.tmps[0]?).getD undef = (.slice a prk.length c) := H.slot' 0 rfl
    exact st_val H.st (want_of rfl rfl (H.has 29 74 rfl rfl)) (v := (.slice a prk.length c)) (by simp [go_sem, e0]) rfl
  · intro γ A W M0 hM0 H
    have e79 : (A.tmps[79]?).getD undef = (.slice a prk.length c) := H.has 34 79 rfl rfl
    obtain ⟨v, γ', w', hrn, hgo, hg, hD, hv⟩ := run_begin (P := Try.prog) H.st 35 22 22 5 i0 .u8 Try.underlying22 hi hz0 hz1 hz8 w5.heap.size H.more.size a c prk hc.1 (hr.keeps (kp.trans H.more) (fun _ _ h => h)) (by omega)
    exact st_run (want_of rfl rfl (H.has 29 74 rfl rfl)) (exec_append (.const (.slice none 0 0)) (.tmp 79) _ _ rfl _ _ _ rfl (by rw [← e79]; simp [Act.eval]) hrn) hgo hg (fun j h => .inl (by rwa [hD] at h)) hv
  · intro γ A W M0 hM0 H
    obtain ⟨h1, h2, h3⟩ := row_new H.st .u8 5 [0] (by decide) (by decide)
    exact st_run (want_of rfl rfl (H.has 29 74 rfl rfl)) (by simp [go_sem]; rfl) h2 h3 (fun j h => .inl h) h1
  · intro γ A W M0 hM0 H
    rcases H.has 35 80 rfl rfl with hd | ⟨hown, hex⟩
    · exact absurd (H.con 35 hd) hM0
    obtain ⟨a81, c81, e81, hc81, hr81⟩ := H.has 36 81 rfl rfl
    obtain ⟨v, γ', w', hrn, hgo, hg, hD, _, hv⟩ := run_more (P := Try.prog) H.st 35 37 22 22 5 i0 .u8 Try.underlying22 hi hz0 hz1 hz8 w5.heap.size H.more.size _ prk hown hex a81 c81 [0] hc81.1 hr81 (by simp; omega)
    exact st_run (want_of rfl rfl (H.has 29 74 rfl rfl)) (exec_append (.tmp 80) (.tmp 81) _ _ rfl _ _ _ (by simp [Act.eval]) (by rw [← e81]; simp [Act.eval]) hrn) hgo hg (fun j h => (hD j h).imp id (fun e => by subst e; rfl)) hv
  · intro γ A W M0 hM0 H
    have e1 : (A.tmps[1]?).getD undef = (.slice a' info.length c') := H.slot' 1 rfl
    exact st_val H.st (want_of rfl rfl (H.has 29 74 rfl rfl)) (v := (.slice a' info.length c')) (by simp [go_sem, e1]) rfl
  · intro γ A W M0 hM0 H
    have e83 : (A.tmps[83]?).getD undef = (.slice a' info.length c') := H.has 38 83 rfl rfl
    rcases H.has 37 82 rfl rfl with hd | ⟨hown, _⟩
    · exact absurd (H.mlt _ (H.con 37 hd)) (by show ¬ (1000000 < 52); omega)
    obtain ⟨a82, c82, e82, hc82, hr82⟩ := hown.opened
    refine st_call H.st (want_of rfl rfl (H.has 29 74 rfl rfl)) (f := 13) (args := #[.slice a82 (prk ++ [0]).length c82, .slice a' info.length c']) (by simp [go_sem, e82, e83]) ?_
    refine (prgHMAC_any a82 c82 (prk ++ [0]) a' c' info W (by simp; omega) (by omega) hc82 (hr82.mono (fun _ _ _ => trivial)) hc' (hr'.keeps (kp.trans H.more) (fun _ _ h => h))).mono ?_
    rintro e w' ⟨v, rfl, hown, hk⟩
    exact ⟨v, rfl, hk, by rw [HMZ.out] at hown; exact hown.rowG H.st⟩
  · intro γ A W M0 hM0 H
    obtain ⟨a84, c84, e84, hc84, hr84⟩ := H.has 39 84 rfl rfl
    refine st_val H.st (want_of rfl rfl (H.has 29 74 rfl rfl)) (v := .string (strOfNums (hmac prk info))) ?_ rfl
    have cv := conv_str (P := Try.prog) 22 5 9 Try.underlying22 Try.underlying5 Try.underlying9 (c := c84) hr84
    simp [go_sem, e84, cv]
  · intro γ A W M0 hM0 H
    have e78 : (A.tmps[78]?).getD undef = (.string (strOfNums (hmac prk info))) := H.has 33 78 rfl rfl
    have e85 : (A.tmps[85]?).getD undef = (.string (strOfNums (hmac prk info))) := H.has 40 85 rfl rfl
    exact st_val H.st (want_of rfl rfl (H.has 29 74 rfl rfl)) (v := .bool true) (by simp [go_sem, e78, e85]) rfl
  · intro γ A W M0 hM0 H
    have e74 : (A.tmps[74]?).getD undef = (.bool true) := H.has 29 74 rfl rfl
    have e86 : (A.tmps[86]?).getD undef = (.bool true) := H.has 41 86 rfl rfl
    exact st_val H.st rfl (v := .bool true) (by simp [go_sem, e74, e86]) rfl
  · intro γ A W M0 hM0 H
    have e87 : (A.tmps[87]?).getD undef = (.bool true) := H.has 42 87 rfl rfl
    exact st_val H.st rfl (v := (.bool true)) (by simp [go_sem, e87]) rfl
  · intro γ A W M0 hM0 H
    refine st_call H.st (want_of rfl rfl (H.has 43 88 rfl rfl)) (f := 25) (args := #[.slice none 0 0]) (by simp [go_sem]) ?_
    refine (refSum256_any none 0 [] W (by simp) (fun _ => rfl) ⟨by simp, by simp, .inl rfl⟩).mono ?_
    rintro e w' ⟨v, rfl, hown, hk⟩
    exact ⟨v, rfl, hk, hown.rowG H.st⟩
  · intro γ A W M0 hM0 H
    obtain ⟨a89, c89, e89, hc89, hr89⟩ := H.has 44 89 rfl rfl
    exact st_val H.st (want_of rfl rfl (H.has 43 88 rfl rfl)) (v := (.int .i64 32)) (by simp [go_sem, e89, sha256_len]) rfl
  · intro γ A W M0 hM0 H
    have e90 : (A.tmps[90]?).getD undef = (.int .i64 32) := H.has 45 90 rfl rfl
    exact st_val H.st (want_of rfl rfl (H.has 43 88 rfl rfl)) (v := .bool true) (by simp [go_sem, e90]) rfl
  · intro γ A W M0 hM0 H
    have e88 : (A.tmps[88]?).getD undef = (.bool true) := H.has 43 88 rfl rfl
    have e91 : (A.tmps[91]?).getD undef = (.bool true) := H.has 46 91 rfl rfl
    exact st_val H.st rfl (v := .bool true) (by simp [go_sem, e88, e91]) rfl
  · intro γ A W M0 hM0 H
    have e92 : (A.tmps[92]?).getD undef = (.bool true) := H.has 47 92 rfl rfl
    exact st_val H.st rfl (v := (.bool true)) (by simp [go_sem, e92]) rfl
  · intro γ A W M0 hM0 H
    refine st_call H.st (want_of rfl rfl (H.has 48 93 rfl rfl)) (f := 10) (args := #[]) (by simp [go_sem]) ?_
    exact (HA.out W).mono fun e w' ⟨he, hk⟩ => ⟨_, he, hk, rfl⟩
  · intro γ A W M0 hM0 H
    have e93 : (A.tmps[93]?).getD undef = (.bool true) := H.has 48 93 rfl rfl
    have e94 : (A.tmps[94]?).getD undef = (.bool true) := H.has 49 94 rfl rfl
    exact st_val H.st rfl (v := .bool true) (by simp [go_sem, e93, e94]) rfl
  · intro γ A W M0 hM0 H
    have e95 : (A.tmps[95]?).getD undef = (.bool true) := H.has 50 95 rfl rfl
    exact st_val H.st rfl (v := (.bool true)) (by simp [go_sem, e95]) rfl
  · intro γ M' A W H
    exact hK A W (held_ret H rfl 8 rfl (H.has 51 8 rfl trivial) ⟨rfl, Keeps.trans kp H.more⟩)
end Rel2

theorem KdfPrefix_walk (a : Option Addr) (c : Nat) (prk : List Int) {w : World} (h : CapOk a c prk.length ∧ RowAt (fun _ => True) .u8 w a prk) (a' : Option Addr) (c' : Nat) (info : List Int) (h' : CapOk a' c' info.length ∧ RowAt (fun _ => True) .u8 w a' info) (n : Int) (_ : (Lit.int .i64 n).wf = true) (m : Int) (_ : (Lit.int .i64 m).wf = true) (w1 : World) (he : w1 = w := by rfl) :
    Calls Try.prog 8 #[.slice a prk.length c, .slice a' info.length c', .int .i64 n, .int .i64 m] w1 fun e w' => e = .returned (.bool true) ∧ Keeps (fun _ => False) w1 w' := by
  subst he
  exact Rel2.KdfPrefix_any a c prk a' c' info n m w1 h.1 h.2 h'.1 h'.2
end Go.Proofs.Ytomeeeakaejokaa
