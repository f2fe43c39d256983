/-
  KdfMacs, walked.
-/
import Derived.Test.YtomeeeakaejokaaKdfLaw
namespace Go.Proofs.Ytomeeeakaejokaa
open Go.RowKit

set_option maxHeartbeats 2000000 in
set_option maxRecDepth 100000 in
theorem KdfMacs_any (a : Option Addr) (c : Nat) (key : List Int) (a' : Option Addr) (c' : Nat) (b : List Int) (n : Int) (w : World)
    (hc : CapOk a c key.length) (hr : RowAt (fun _ => True) .u8 w a key) (hc' : CapOk a' c' b.length) (hr' : RowAt (fun _ => True) .u8 w a' b) :
    Calls Try.prog 3 #[.slice a key.length c, .slice a' b.length c', .int .i64 n] w fun e w' => e = .returned (.bool true) ∧ Keeps (fun _ => False) w w' := by
  have HA := hid awake5_any
  by_cases h1n : ¬ key.length ≤ 600
  · go_enter Try.func3, Try.ntmps3
    go_wp2_with fail
    refine (Short_no a c key.length w h1n).mono ?_
    rintro e w' ⟨rfl, rfl⟩
    go_wp2_with fail
    refine (HA.out w).mono ?_
    rintro e w' ⟨rfl, hk⟩
    go_wp2_with fail
    go_ret
    exact ⟨rfl, hk⟩
  have h1 : key.length ≤ 600 := by omega
  clear h1n
  by_cases h2n : ¬ b.length ≤ 600
  · go_enter Try.func3, Try.ntmps3
    go_wp2_with fail
    refine (Short_yes a c key.length w h1).mono ?_
    rintro e w' ⟨rfl, rfl⟩
    go_wp2_with fail
    refine (Short_no a' c' b.length w h2n).mono ?_
    rintro e w' ⟨rfl, rfl⟩
    go_wp2_with fail
    refine (HA.out w).mono ?_
    rintro e w' ⟨rfl, hk⟩
    go_wp2_with fail
    go_ret
    exact ⟨rfl, hk⟩
  have h2 : b.length ≤ 600 := by omega
  clear h2n
  obtain ⟨m, hm⟩ : ∃ m : Nat, n % 5 = (m : Int) := ⟨(n % 5).toNat, by omega⟩
  have hm5 : m < 5 := by omega
  have HM := hid (show Calls Try.prog 12 #[.int .i64 n, .int .i64 5] w fun e w' => e = .returned (.int .i64 m) ∧ w = w' from by rw [← hm]; exact Mod_any n 5 w (by omega) (by omega))
  have HS := hid (show ∀ W, Calls Try.prog 11 #[.int .i64 n, .int .i64 (62 + (m : Int))] W (SomePost n (62 + m) W) from fun W => by rw [show 62 + (m : Int) = ((62 + m : Nat) : Int) by omega]; exact Some_any n (62 + m) W (by omega))
  clear hm
  go_enter Try.func3, Try.ntmps3
  go_wp2_with fail
  refine (Short_yes a c key.length w h1).mono ?_
  rintro e w' ⟨rfl, rfl⟩
  go_wp2_with fail
  refine (Short_yes a' c' b.length w h2).mono ?_
  rintro e w' ⟨rfl, rfl⟩
  go_wp2_with fail
  refine (HM.out).mono ?_
  rintro e w' ⟨rfl, rfl⟩
  go_wp2_with fail
  refine (HS.out w).mono ?_
  rintro e w1 ⟨v, rfl, hown, kp⟩
  obtain ⟨L, hL⟩ : ∃ L, L = someL n (62 + m) := ⟨_, rfl⟩
  have hLl : L.length ≤ 66 := by rw [hL, someL_length]; omega
  rw [← hL] at hown
  obtain ⟨al, cl, rfl, hcl, hrl'⟩ := hown.opened
  have hrl : RowAt (fun _ => True) .u8 w1 al L := hrl'.mono (fun _ _ _ => trivial)
  clear hL hown hrl' HM HS
  go_wp2_with fail
  rename_i K hK
  refine wp_region_relV 56 (by kernel_rfl) rfl (by kernel_rfl)
    [Is (.slice a key.length c), Is (.slice a' b.length c'), RowIs .u8 (hmac key b), Is (.string (strOfNums (hmac key b))), Is (.slice a key.length c), Is (.slice a' b.length c'), RowIs .u8 (hmac key b), Is (.string (strOfNums (hmac key b))), Is (.bool true), Is (.bool true), Is (.slice al L.length cl), Is (.slice a' b.length c'), RowIs .u8 (hmac L b), Is (.string (strOfNums (hmac L b))), Is (.slice al L.length cl), Is (.slice a' b.length c'), RowIs .u8 (hmac L b), Is (.string (strOfNums (hmac L b))), Is (.bool true), Is (.bool true), Is (.bool true), Is (.slice a key.length c), Is (.slice a' b.length c'), RowIs .u8 (hmac key b), Is (.string (strOfNums (hmac key b))), Is (.slice a key.length c), Is (.slice a' b.length c'), RowIs .u8 (hmac key b), Is (.string (strOfNums (hmac key b))), Is (.bool true), Is (.bool true), Is (.bool true), Is (.bool true), Is (.bool true), Is (.bool true)]
    ⟨Is.lasts _, Is.lasts _, RowIs.lasts _ _, Is.lasts _, Is.lasts _, Is.lasts _, RowIs.lasts _ _, Is.lasts _, Is.lasts _, Is.lasts _, Is.lasts _, Is.lasts _, RowIs.lasts _ _, Is.lasts _, Is.lasts _, Is.lasts _, RowIs.lasts _ _, Is.lasts _, Is.lasts _, Is.lasts _, Is.lasts _, Is.lasts _, Is.lasts _, RowIs.lasts _ _, Is.lasts _, Is.lasts _, Is.lasts _, RowIs.lasts _ _, Is.lasts _, Is.lasts _, Is.lasts _, Is.lasts _, Is.lasts _, Is.lasts _, Is.lasts _, trivial⟩
    ⟨?_, ?_, ?_, ?_, ?_, ?_, ?_, ?_, ?_, ?_, ?_, ?_, ?_, ?_, ?_, ?_, ?_, ?_, ?_, ?_, ?_, ?_, ?_, ?_, ?_, ?_, ?_, ?_, ?_, ?_, ?_, ?_, ?_, ?_, ?_, trivial⟩ ?_
  · intro A W H
    have e0 : (A.tmps[0]?).getD undef = (.slice a key.length c) := H.slot' 0 rfl
    exact st_val rfl (v := (.slice a key.length c)) (by simp [go_sem, e0]) rfl
  · intro A W H
    have e1 : (A.tmps[1]?).getD undef = (.slice a' b.length c') := H.slot' 1 rfl
    exact st_val rfl (v := (.slice a' b.length c')) (by simp [go_sem, e1]) rfl
  · intro A W H
    have e22 : (A.tmps[22]?).getD undef = (.slice a key.length c) := H.has 0 22 rfl rfl
    have e23 : (A.tmps[23]?).getD undef = (.slice a' b.length c') := H.has 1 23 rfl rfl
    refine st_call rfl (f := 13) (args := #[.slice a key.length c, .slice a' b.length c']) (by simp [go_sem, e22, e23]) ?_
    refine (prgHMAC_any a c key a' c' b W (by omega) (by omega) hc (hr.keeps (kp.trans H.more) (fun _ _ h => h)) hc' (hr'.keeps (kp.trans H.more) (fun _ _ h => h))).mono ?_
    rintro e w' ⟨v, rfl, hown, hk⟩
    exact ⟨v, rfl, hk, hown.rowIs⟩
  · intro A W H
    obtain ⟨a24, c24, e24, hc24, hr24⟩ := H.has 2 24 rfl rfl
    refine st_val rfl (v := .string (strOfNums (hmac key b))) ?_ rfl
    have cv := conv_str (P := Try.prog) 22 5 9 Try.underlying22 Try.underlying5 Try.underlying9 (c := c24) hr24
    simp [go_sem, e24, cv]
  · intro A W H
    have e0 : (A.tmps[0]?).getD undef = (.slice a key.length c) := H.slot' 0 rfl
    exact st_val rfl (v := (.slice a key.length c)) (by simp [go_sem, e0]) rfl
  · intro A W H
    have e1 : (A.tmps[1]?).getD undef = (.slice a' b.length c') := H.slot' 1 rfl
    exact st_val rfl (v := (.slice a' b.length c')) (by simp [go_sem, e1]) rfl
  · intro A W H
    have e26 : (A.tmps[26]?).getD undef = (.slice a key.length c) := H.has 4 26 rfl rfl
    have e27 : (A.tmps[27]?).getD undef = (.slice a' b.length c') := H.has 5 27 rfl rfl
    refine st_call rfl (f := 14) (args := #[.slice a key.length c, .slice a' b.length c']) (by simp [go_sem, e26, e27]) ?_
    refine (refHMAC_any a c key a' c' b W (by omega) (by omega) hc.1 (hr.keeps (kp.trans H.more) (fun _ _ h => h)) hc'.1 (hr'.keeps (kp.trans H.more) (fun _ _ h => h))).mono ?_
    rintro e w' ⟨v, rfl, hown, hk⟩
    exact ⟨v, rfl, hk, hown.rowIs⟩
  · intro A W H
    obtain ⟨a28, c28, e28, hc28, hr28⟩ := H.has 6 28 rfl rfl
    refine st_val rfl (v := .string (strOfNums (hmac key b))) ?_ rfl
    have cv := conv_str (P := Try.prog) 22 5 9 Try.underlying22 Try.underlying5 Try.underlying9 (c := c28) hr28
    simp [go_sem, e28, cv]
  · intro A W H
    have e25 : (A.tmps[25]?).getD undef = (.string (strOfNums (hmac key b))) := H.has 3 25 rfl rfl
    have e29 : (A.tmps[29]?).getD undef = (.string (strOfNums (hmac key b))) := H.has 7 29 rfl rfl
    exact st_val rfl (v := .bool true) (by simp [go_sem, e25, e29]) rfl
  · intro A W H
    have e30 : (A.tmps[30]?).getD undef = (.bool true) := H.has 8 30 rfl rfl
    exact st_val rfl (v := (.bool true)) (by simp [go_sem, e30]) rfl
  · intro A W H
    have e7 : (A.tmps[7]?).getD undef = (.slice al L.length cl) := H.slot' 7 rfl
    exact st_val (want_of rfl rfl (H.has 9 31 rfl rfl)) (v := (.slice al L.length cl)) (by simp [go_sem, e7]) rfl
  · intro A W H
    have e1 : (A.tmps[1]?).getD undef = (.slice a' b.length c') := H.slot' 1 rfl
    exact st_val (want_of rfl rfl (H.has 9 31 rfl rfl)) (v := (.slice a' b.length c')) (by simp [go_sem, e1]) rfl
  · intro A W H
    have e32 : (A.tmps[32]?).getD undef = (.slice al L.length cl) := H.has 10 32 rfl rfl
    have e33 : (A.tmps[33]?).getD undef = (.slice a' b.length c') := H.has 11 33 rfl rfl
    refine st_call (want_of rfl rfl (H.has 9 31 rfl rfl)) (f := 13) (args := #[.slice al L.length cl, .slice a' b.length c']) (by simp [go_sem, e32, e33]) ?_
    refine (prgHMAC_any al cl L a' c' b W (by omega) (by omega) hcl (hrl.keeps H.more (fun _ _ h => h)) hc' (hr'.keeps (kp.trans H.more) (fun _ _ h => h))).mono ?_
    rintro e w' ⟨v, rfl, hown, hk⟩
    exact ⟨v, rfl, hk, hown.rowIs⟩
  · intro A W H
    obtain ⟨a34, c34, e34, hc34, hr34⟩ := H.has 12 34 rfl rfl
    refine st_val (want_of rfl rfl (H.has 9 31 rfl rfl)) (v := .string (strOfNums (hmac L b))) ?_ rfl
    have cv := conv_str (P := Try.prog) 22 5 9 Try.underlying22 Try.underlying5 Try.underlying9 (c := c34) hr34
    simp [go_sem, e34, cv]
  · intro A W H
    have e7 : (A.tmps[7]?).getD undef = (.slice al L.length cl) := H.slot' 7 rfl
    exact st_val (want_of rfl rfl (H.has 9 31 rfl rfl)) (v := (.slice al L.length cl)) (by simp [go_sem, e7]) rfl
  · intro A W H
    have e1 : (A.tmps[1]?).getD undef = (.slice a' b.length c') := H.slot' 1 rfl
    exact st_val (want_of rfl rfl (H.has 9 31 rfl rfl)) (v := (.slice a' b.length c')) (by simp [go_sem, e1]) rfl
  · intro A W H
    have e36 : (A.tmps[36]?).getD undef = (.slice al L.length cl) := H.has 14 36 rfl rfl
    have e37 : (A.tmps[37]?).getD undef = (.slice a' b.length c') := H.has 15 37 rfl rfl
    refine st_call (want_of rfl rfl (H.has 9 31 rfl rfl)) (f := 14) (args := #[.slice al L.length cl, .slice a' b.length c']) (by simp [go_sem, e36, e37]) ?_
    refine (refHMAC_any al cl L a' c' b W (by omega) (by omega) hcl.1 (hrl.keeps H.more (fun _ _ h => h)) hc'.1 (hr'.keeps (kp.trans H.more) (fun _ _ h => h))).mono ?_
    rintro e w' ⟨v, rfl, hown, hk⟩
    exact ⟨v, rfl, hk, hown.rowIs⟩
  · intro A W H
    obtain ⟨a38, c38, e38, hc38, hr38⟩ := H.has 16 38 rfl rfl
    refine st_val (want_of rfl rfl (H.has 9 31 rfl rfl)) (v := .string (strOfNums (hmac L b))) ?_ rfl
    have cv := conv_str (P := Try.prog) 22 5 9 Try.underlying22 Try.underlying5 Try.underlying9 (c := c38) hr38
    simp [go_sem, e38, cv]
  · intro A W H
    have e35 : (A.tmps[35]?).getD undef = (.string (strOfNums (hmac L b))) := H.has 13 35 rfl rfl
    have e39 : (A.tmps[39]?).getD undef = (.string (strOfNums (hmac L b))) := H.has 17 39 rfl rfl
    exact st_val (want_of rfl rfl (H.has 9 31 rfl rfl)) (v := .bool true) (by simp [go_sem, e35, e39]) rfl
  · intro A W H
    have e31 : (A.tmps[31]?).getD undef = (.bool true) := H.has 9 31 rfl rfl
    have e40 : (A.tmps[40]?).getD undef = (.bool true) := H.has 18 40 rfl rfl
    exact st_val rfl (v := .bool true) (by simp [go_sem, e31, e40]) rfl
  · intro A W H
    have e41 : (A.tmps[41]?).getD undef = (.bool true) := H.has 19 41 rfl rfl
    exact st_val rfl (v := (.bool true)) (by simp [go_sem, e41]) rfl
  · intro A W H
    have e0 : (A.tmps[0]?).getD undef = (.slice a key.length c) := H.slot' 0 rfl
    exact st_val (want_of rfl rfl (H.has 20 42 rfl rfl)) (v := (.slice a key.length c)) (by simp [go_sem, e0]) rfl
  · intro A W H
    have e1 : (A.tmps[1]?).getD undef = (.slice a' b.length c') := H.slot' 1 rfl
    exact st_val (want_of rfl rfl (H.has 20 42 rfl rfl)) (v := (.slice a' b.length c')) (by simp [go_sem, e1]) rfl
  · intro A W H
    have e43 : (A.tmps[43]?).getD undef = (.slice a key.length c) := H.has 21 43 rfl rfl
    have e44 : (A.tmps[44]?).getD undef = (.slice a' b.length c') := H.has 22 44 rfl rfl
    refine st_call (want_of rfl rfl (H.has 20 42 rfl rfl)) (f := 15) (args := #[.slice a key.length c, .slice a' b.length c']) (by simp [go_sem, e43, e44]) ?_
    refine (prgExtract_any a c key a' c' b W (by omega) (by omega) hc (hr.keeps (kp.trans H.more) (fun _ _ h => h)) hc' (hr'.keeps (kp.trans H.more) (fun _ _ h => h))).mono ?_
    rintro e w' ⟨v, rfl, hown, hk⟩
    exact ⟨v, rfl, hk, hown.rowIs⟩
  · intro A W H
    obtain ⟨a45, c45, e45, hc45, hr45⟩ := H.has 23 45 rfl rfl
    refine st_val (want_of rfl rfl (H.has 20 42 rfl rfl)) (v := .string (strOfNums (hmac key b))) ?_ rfl
    have cv := conv_str (P := Try.prog) 22 5 9 Try.underlying22 Try.underlying5 Try.underlying9 (c := c45) hr45
    simp [go_sem, e45, cv]
  · intro A W H
    have e0 : (A.tmps[0]?).getD undef = (.slice a key.length c) := H.slot' 0 rfl
    exact st_val (want_of rfl rfl (H.has 20 42 rfl rfl)) (v := (.slice a key.length c)) (by simp [go_sem, e0]) rfl
  · intro A W H
    have e1 : (A.tmps[1]?).getD undef = (.slice a' b.length c') := H.slot' 1 rfl
    exact st_val (want_of rfl rfl (H.has 20 42 rfl rfl)) (v := (.slice a' b.length c')) (by simp [go_sem, e1]) rfl
  · intro A W H
    have e47 : (A.tmps[47]?).getD undef = (.slice a key.length c) := H.has 25 47 rfl rfl
    have e48 : (A.tmps[48]?).getD undef = (.slice a' b.length c') := H.has 26 48 rfl rfl
    refine st_call (want_of rfl rfl (H.has 20 42 rfl rfl)) (f := 16) (args := #[.slice a key.length c, .slice a' b.length c']) (by simp [go_sem, e47, e48]) ?_
    refine (refExtract_any a c key a' c' b W (by omega) (by omega) hc (hr.keeps (kp.trans H.more) (fun _ _ h => h)) hc' (hr'.keeps (kp.trans H.more) (fun _ _ h => h))).mono ?_
    rintro e w' ⟨v, rfl, hown, hk⟩
    exact ⟨v, rfl, hk, hown.rowIs⟩
  · intro A W H
    obtain ⟨a49, c49, e49, hc49, hr49⟩ := H.has 27 49 rfl rfl
    refine st_val (want_of rfl rfl (H.has 20 42 rfl rfl)) (v := .string (strOfNums (hmac key b))) ?_ rfl
    have cv := conv_str (P := Try.prog) 22 5 9 Try.underlying22 Try.underlying5 Try.underlying9 (c := c49) hr49
    simp [go_sem, e49, cv]
  · intro A W H
    have e46 : (A.tmps[46]?).getD undef = (.string (strOfNums (hmac key b))) := H.has 24 46 rfl rfl
    have e50 : (A.tmps[50]?).getD undef = (.string (strOfNums (hmac key b))) := H.has 28 50 rfl rfl
    exact st_val (want_of rfl rfl (H.has 20 42 rfl rfl)) (v := .bool true) (by simp [go_sem, e46, e50]) rfl
  · intro A W H
    have e42 : (A.tmps[42]?).getD undef = (.bool true) := H.has 20 42 rfl rfl
    have e51 : (A.tmps[51]?).getD undef = (.bool true) := H.has 29 51 rfl rfl
    exact st_val rfl (v := .bool true) (by simp [go_sem, e42, e51]) rfl
  · intro A W H
    have e52 : (A.tmps[52]?).getD undef = (.bool true) := H.has 30 52 rfl rfl
    exact st_val rfl (v := (.bool true)) (by simp [go_sem, e52]) rfl
  · intro A W H
    refine st_call (want_of rfl rfl (H.has 31 53 rfl rfl)) (f := 10) (args := #[]) (by simp [go_sem]) ?_
    exact (HA.out W).mono fun e w' ⟨he, hk⟩ => ⟨_, he, hk, rfl⟩
  · intro A W H
    have e53 : (A.tmps[53]?).getD undef = (.bool true) := H.has 31 53 rfl rfl
    have e54 : (A.tmps[54]?).getD undef = (.bool true) := H.has 32 54 rfl rfl
    exact st_val rfl (v := .bool true) (by simp [go_sem, e53, e54]) rfl
  · intro A W H
    have e55 : (A.tmps[55]?).getD undef = (.bool true) := H.has 33 55 rfl rfl
    exact st_val rfl (v := (.bool true)) (by simp [go_sem, e55]) rfl
  · intro A W H
    exact hK A W (held_ret H rfl 6 rfl (H.has 34 6 rfl trivial) ⟨rfl, Keeps.trans kp H.more⟩)

theorem KdfMacs_walk (a : Option Addr) (c : Nat) (key : List Int) {w : World} (h : CapOk a c key.length ∧ RowAt (fun _ => True) .u8 w a key) (a' : Option Addr) (c' : Nat) (b : List Int) (h' : CapOk a' c' b.length ∧ RowAt (fun _ => True) .u8 w a' b) (n : Int) (_ : (Lit.int .i64 n).wf = true) (w1 : World) (he : w1 = w := by rfl) :
    Calls Try.prog 3 #[.slice a key.length c, .slice a' b.length c', .int .i64 n] w1 fun e w' => e = .returned (.bool true) ∧ Keeps (fun _ => False) w1 w' := by
  subst he
  exact KdfMacs_any a c key a' c' b n w1 h.1 h.2 h'.1 h'.2
end Go.Proofs.Ytomeeeakaejokaa
