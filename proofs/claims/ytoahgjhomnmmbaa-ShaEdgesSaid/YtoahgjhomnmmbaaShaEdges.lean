/-
  ShaEdges, walked over what the program's functions promise.
-/
import Derived.Test.YtoahgjhomnmmbaaShaLaw
import Derived.Test.YtoahgjhomnmmbaaRel
namespace Go.Proofs.Ytoahgjhomnmmbaa
open Go.RowKit

set_option maxHeartbeats 1000000 in
set_option maxRecDepth 100000 in
theorem ShaEdges_any (h256 : PSum256) (h512 : PSum512) (hb : PBlocks256) (hb5 : PBlocks512) (n0 k raw : Int) (w : World) :
    Calls Try.prog 4 #[.int .i64 n0, .int .i64 k, .int .i64 raw] w fun e w' => e = .returned (.bool true) ∧ Keeps (fun _ => False) w w' := by
  have HA := hid (awake_any h256 h512 hb)
  have H1 := hid h256
  have H5 := hid h512
  have HB := hid hb
  have HB5 := hid hb5
  clear h256 h512 hb hb5
  obtain ⟨x, hx⟩ : ∃ x, x = n0 % 6 := ⟨_, rfl⟩
  obtain ⟨y, hy⟩ : ∃ y, y = k % 20 := ⟨_, rfl⟩
  have HX := hid hx
  have HY := hid hy
  have x0 : 0 ≤ x := by omega
  have x1 : x ≤ 5 := by omega
  have y0 : 0 ≤ y := by omega
  have y1 : y ≤ 19 := by omega
  clear hx hy
  go_enter Try.func4, Try.ntmps4
  go_wp2_with fail
  refine (Mod_any n0 6 w (by omega) (by omega)).mono ?_
  rintro e w' ⟨rfl, rfl⟩
  rw [← HX.out]
  go_wp2_with fail
  refine (Mod_any k 20 w (by omega) (by omega)).mono ?_
  rintro e w' ⟨rfl, rfl⟩
  rw [← HY.out]
  go_wp2_with fail
  obtain ⟨N, hN⟩ := Int.eq_ofNat_of_zero_le (show 0 ≤ 64 * x + y + 45 by omega)
  have hN2 : N ≤ 1000 := by omega
  rw [hN]
  clear hN
  refine (Some_any raw N w (by omega)).mono ?_
  rintro e w1 ⟨v, rfl, hown, hk1⟩
  obtain ⟨a, c, rfl, hc, hr⟩ := hown.rowIs
  clear hown
  obtain ⟨b, hbb⟩ : ∃ b, b = someL raw N := ⟨_, rfl⟩
  have hbl : b.length ≤ 1000000 := by rw [hbb, someL_length]; omega
  rw [← hbb] at hc hr ⊢
  clear hbb
  obtain ⟨n, hn0⟩ : ∃ n : Int, n = N := ⟨_, rfl⟩
  have hn : n ≤ 1099511627776 := by omega
  rw [← hn0]
  clear hn0
  go_wp2_with fail
  rename_i K hK
  refine wp_region_relV 51 (by kernel_rfl) rfl (by kernel_rfl)
    [Is (.slice a b.length c), RowIs .u8 (sha256 b), Is (.string (strOfNums (sha256 b))), Is (.slice a b.length c), RowIs .u8 (sha256 b), Is (.string (strOfNums (sha256 b))), Is (.bool true), Is (.bool true), Is (.slice a b.length c), RowIs .u8 (sha512 b), Is (.string (strOfNums (sha512 b))), Is (.slice a b.length c), RowIs .u8 (sha512 b), Is (.string (strOfNums (sha512 b))), Is (.bool true), Is (.bool true), Is (.bool true), Is (.int .i64 n), Is (.int .i64 (blocks256 n)), Is (.int .i64 n), Is (.int .i64 (blocks256 n)), Is (.bool true), Is (.bool true), Is (.bool true), Is (.int .i64 n), Is (.int .i64 (blocks512 n)), Is (.int .i64 n), Is (.int .i64 (blocks512 n)), Is (.bool true), Is (.bool true), Is (.bool true), Is (.bool true), Is (.bool true), Is (.bool true)]
    ⟨Is.lasts _, RowIs.lasts _ _, Is.lasts _, Is.lasts _, RowIs.lasts _ _, Is.lasts _, Is.lasts _, Is.lasts _, Is.lasts _, RowIs.lasts _ _, Is.lasts _, Is.lasts _, RowIs.lasts _ _, Is.lasts _, Is.lasts _, Is.lasts _, Is.lasts _, Is.lasts _, Is.lasts _, Is.lasts _, Is.lasts _, Is.lasts _, Is.lasts _, Is.lasts _, Is.lasts _, Is.lasts _, Is.lasts _, Is.lasts _, Is.lasts _, Is.lasts _, Is.lasts _, Is.lasts _, Is.lasts _, Is.lasts _, trivial⟩
    ⟨?_, ?_, ?_, ?_, ?_, ?_, ?_, ?_, ?_, ?_, ?_, ?_, ?_, ?_, ?_, ?_, ?_, ?_, ?_, ?_, ?_, ?_, ?_, ?_, ?_, ?_, ?_, ?_, ?_, ?_, ?_, ?_, ?_, ?_, trivial⟩ ?_
  · intro A W H
    have e7 : (A.tmps[7]?).getD undef = (.slice a b.length c) := H.slot' 7 rfl
    exact st_val rfl (v := (.slice a b.length c)) (by simp [go_sem, e7]) rfl
  · intro A W H
    have e18 : (A.tmps[18]?).getD undef = (.slice a b.length c) := H.has 0 18 rfl rfl
    refine st_call rfl (f := 9) (args := #[.slice a b.length c]) (by simp [go_sem, e18]) ?_
    refine (H1.out a c b W hbl hc (hr.keeps H.more (fun _ _ h => h))).mono ?_
    rintro e w' ⟨v, rfl, hown, hk⟩
    exact ⟨v, rfl, hk, hown.rowIs⟩
  · intro A W H
    obtain ⟨a19, c19, e19, hc19, hr19⟩ := H.has 1 19 rfl rfl
    refine st_val rfl (v := .string (strOfNums (sha256 b))) ?_ rfl
    have cv := conv_str (P := Try.prog) 22 5 9 Try.underlying22 Try.underlying5 Try.underlying9 (c := c19) hr19
    simp [go_sem, e19, cv]
  · intro A W H
    have e7 : (A.tmps[7]?).getD undef = (.slice a b.length c) := H.slot' 7 rfl
    exact st_val rfl (v := (.slice a b.length c)) (by simp [go_sem, e7]) rfl
  · intro A W H
    have e21 : (A.tmps[21]?).getD undef = (.slice a b.length c) := H.has 3 21 rfl rfl
    refine st_call rfl (f := 10) (args := #[.slice a b.length c]) (by simp [go_sem, e21]) ?_
    refine (refSum256_any a c b W (by omega) hc.1 (hr.keeps H.more (fun _ _ h => h))).mono ?_
    rintro e w' ⟨v, rfl, hown, hk⟩
    exact ⟨v, rfl, hk, hown.rowIs⟩
  · intro A W H
    obtain ⟨a22, c22, e22, hc22, hr22⟩ := H.has 4 22 rfl rfl
    refine st_val rfl (v := .string (strOfNums (sha256 b))) ?_ rfl
    have cv := conv_str (P := Try.prog) 22 5 9 Try.underlying22 Try.underlying5 Try.underlying9 (c := c22) hr22
    simp [go_sem, e22, cv]
  · intro A W H
    have e20 : (A.tmps[20]?).getD undef = (.string (strOfNums (sha256 b))) := H.has 2 20 rfl rfl
    have e23 : (A.tmps[23]?).getD undef = (.string (strOfNums (sha256 b))) := H.has 5 23 rfl rfl
    exact st_val rfl (v := .bool true) (by simp [go_sem, e20, e23]) rfl
  · intro A W H
    have e24 : (A.tmps[24]?).getD undef = (.bool true) := H.has 6 24 rfl rfl
    exact st_val rfl (v := (.bool true)) (by simp [go_sem, e24]) rfl
  · intro A W H
    have e7 : (A.tmps[7]?).getD undef = (.slice a b.length c) := H.slot' 7 rfl
    exact st_val (want_of rfl rfl (H.has 7 25 rfl rfl)) (v := (.slice a b.length c)) (by simp [go_sem, e7]) rfl
  · intro A W H
    have e26 : (A.tmps[26]?).getD undef = (.slice a b.length c) := H.has 8 26 rfl rfl
    refine st_call (want_of rfl rfl (H.has 7 25 rfl rfl)) (f := 11) (args := #[.slice a b.length c]) (by simp [go_sem, e26]) ?_
    refine (H5.out a c b W hbl hc (hr.keeps H.more (fun _ _ h => h))).mono ?_
    rintro e w' ⟨v, rfl, hown, hk⟩
    exact ⟨v, rfl, hk, hown.rowIs⟩
  · intro A W H
    obtain ⟨a27, c27, e27, hc27, hr27⟩ := H.has 9 27 rfl rfl
    refine st_val (want_of rfl rfl (H.has 7 25 rfl rfl)) (v := .string (strOfNums (sha512 b))) ?_ rfl
    have cv := conv_str (P := Try.prog) 22 5 9 Try.underlying22 Try.underlying5 Try.underlying9 (c := c27) hr27
    simp [go_sem, e27, cv]
  · intro A W H
    have e7 : (A.tmps[7]?).getD undef = (.slice a b.length c) := H.slot' 7 rfl
    exact st_val (want_of rfl rfl (H.has 7 25 rfl rfl)) (v := (.slice a b.length c)) (by simp [go_sem, e7]) rfl
  · intro A W H
    have e29 : (A.tmps[29]?).getD undef = (.slice a b.length c) := H.has 11 29 rfl rfl
    refine st_call (want_of rfl rfl (H.has 7 25 rfl rfl)) (f := 12) (args := #[.slice a b.length c]) (by simp [go_sem, e29]) ?_
    refine (refSum512_any a c b W (by omega) hc.1 (hr.keeps H.more (fun _ _ h => h))).mono ?_
    rintro e w' ⟨v, rfl, hown, hk⟩
    exact ⟨v, rfl, hk, hown.rowIs⟩
  · intro A W H
    obtain ⟨a30, c30, e30, hc30, hr30⟩ := H.has 12 30 rfl rfl
    refine st_val (want_of rfl rfl (H.has 7 25 rfl rfl)) (v := .string (strOfNums (sha512 b))) ?_ rfl
    have cv := conv_str (P := Try.prog) 22 5 9 Try.underlying22 Try.underlying5 Try.underlying9 (c := c30) hr30
    simp [go_sem, e30, cv]
  · intro A W H
    have e28 : (A.tmps[28]?).getD undef = (.string (strOfNums (sha512 b))) := H.has 10 28 rfl rfl
    have e31 : (A.tmps[31]?).getD undef = (.string (strOfNums (sha512 b))) := H.has 13 31 rfl rfl
    exact st_val (want_of rfl rfl (H.has 7 25 rfl rfl)) (v := .bool true) (by simp [go_sem, e28, e31]) rfl
  · intro A W H
    have e25 : (A.tmps[25]?).getD undef = (.bool true) := H.has 7 25 rfl rfl
    have e32 : (A.tmps[32]?).getD undef = (.bool true) := H.has 14 32 rfl rfl
    exact st_val rfl (v := .bool true) (by simp [go_sem, e25, e32]) rfl
  · intro A W H
    have e33 : (A.tmps[33]?).getD undef = (.bool true) := H.has 15 33 rfl rfl
    exact st_val rfl (v := (.bool true)) (by simp [go_sem, e33]) rfl
  · intro A W H
    have e0 : (A.tmps[0]?).getD undef = (.int .i64 n) := H.slot' 0 rfl
    exact st_val (want_of rfl rfl (H.has 16 34 rfl rfl)) (v := (.int .i64 n)) (by simp [go_sem, e0]) rfl
  · intro A W H
    have e35 : (A.tmps[35]?).getD undef = (.int .i64 n) := H.has 17 35 rfl rfl
    refine st_call (want_of rfl rfl (H.has 16 34 rfl rfl)) (f := 15) (args := #[.int .i64 n]) (by simp [go_sem, e35]) ?_
    exact (HB.out n W hn).mono fun e w' ⟨he, hk⟩ => ⟨_, he, hk ▸ More.refl _, rfl⟩
  · intro A W H
    have e0 : (A.tmps[0]?).getD undef = (.int .i64 n) := H.slot' 0 rfl
    exact st_val (want_of rfl rfl (H.has 16 34 rfl rfl)) (v := (.int .i64 n)) (by simp [go_sem, e0]) rfl
  · intro A W H
    have e37 : (A.tmps[37]?).getD undef = (.int .i64 n) := H.has 19 37 rfl rfl
    refine st_call (want_of rfl rfl (H.has 16 34 rfl rfl)) (f := 16) (args := #[.int .i64 n]) (by simp [go_sem, e37]) ?_
    exact (refB256 n W hn).mono fun e w' ⟨he, hk⟩ => ⟨_, he, hk ▸ More.refl _, rfl⟩
  · intro A W H
    have e36 : (A.tmps[36]?).getD undef = (.int .i64 (blocks256 n)) := H.has 18 36 rfl rfl
    have e38 : (A.tmps[38]?).getD undef = (.int .i64 (blocks256 n)) := H.has 20 38 rfl rfl
    exact st_val (want_of rfl rfl (H.has 16 34 rfl rfl)) (v := .bool true) (by simp [go_sem, e36, e38]) rfl
  · intro A W H
    have e34 : (A.tmps[34]?).getD undef = (.bool true) := H.has 16 34 rfl rfl
    have e39 : (A.tmps[39]?).getD undef = (.bool true) := H.has 21 39 rfl rfl
    exact st_val rfl (v := .bool true) (by simp [go_sem, e34, e39]) rfl
  · intro A W H
    have e40 : (A.tmps[40]?).getD undef = (.bool true) := H.has 22 40 rfl rfl
    exact st_val rfl (v := (.bool true)) (by simp [go_sem, e40]) rfl
  · intro A W H
    have e0 : (A.tmps[0]?).getD undef = (.int .i64 n) := H.slot' 0 rfl
    exact st_val (want_of rfl rfl (H.has 23 41 rfl rfl)) (v := (.int .i64 n)) (by simp [go_sem, e0]) rfl
  · intro A W H
    have e42 : (A.tmps[42]?).getD undef = (.int .i64 n) := H.has 24 42 rfl rfl
    refine st_call (want_of rfl rfl (H.has 23 41 rfl rfl)) (f := 17) (args := #[.int .i64 n]) (by simp [go_sem, e42]) ?_
    exact (HB5.out n W hn).mono fun e w' ⟨he, hk⟩ => ⟨_, he, hk ▸ More.refl _, rfl⟩
  · intro A W H
    have e0 : (A.tmps[0]?).getD undef = (.int .i64 n) := H.slot' 0 rfl
    exact st_val (want_of rfl rfl (H.has 23 41 rfl rfl)) (v := (.int .i64 n)) (by simp [go_sem, e0]) rfl
  · intro A W H
    have e44 : (A.tmps[44]?).getD undef = (.int .i64 n) := H.has 26 44 rfl rfl
    refine st_call (want_of rfl rfl (H.has 23 41 rfl rfl)) (f := 18) (args := #[.int .i64 n]) (by simp [go_sem, e44]) ?_
    exact (refB512 n W hn).mono fun e w' ⟨he, hk⟩ => ⟨_, he, hk ▸ More.refl _, rfl⟩
  · intro A W H
    have e43 : (A.tmps[43]?).getD undef = (.int .i64 (blocks512 n)) := H.has 25 43 rfl rfl
    have e45 : (A.tmps[45]?).getD undef = (.int .i64 (blocks512 n)) := H.has 27 45 rfl rfl
    exact st_val (want_of rfl rfl (H.has 23 41 rfl rfl)) (v := .bool true) (by simp [go_sem, e43, e45]) rfl
  · intro A W H
    have e41 : (A.tmps[41]?).getD undef = (.bool true) := H.has 23 41 rfl rfl
    have e46 : (A.tmps[46]?).getD undef = (.bool true) := H.has 28 46 rfl rfl
    exact st_val rfl (v := .bool true) (by simp [go_sem, e41, e46]) rfl
  · intro A W H
    have e47 : (A.tmps[47]?).getD undef = (.bool true) := H.has 29 47 rfl rfl
    exact st_val rfl (v := (.bool true)) (by simp [go_sem, e47]) rfl
  · intro A W H
    refine st_call (want_of rfl rfl (H.has 30 48 rfl rfl)) (f := 8) (args := #[]) (by simp [go_sem]) ?_
    exact (HA.out W).mono fun e w' ⟨he, hk⟩ => ⟨_, he, hk, rfl⟩
  · intro A W H
    have e48 : (A.tmps[48]?).getD undef = (.bool true) := H.has 30 48 rfl rfl
    have e49 : (A.tmps[49]?).getD undef = (.bool true) := H.has 31 49 rfl rfl
    exact st_val rfl (v := .bool true) (by simp [go_sem, e48, e49]) rfl
  · intro A W H
    have e50 : (A.tmps[50]?).getD undef = (.bool true) := H.has 32 50 rfl rfl
    exact st_val rfl (v := (.bool true)) (by simp [go_sem, e50]) rfl
  · intro A W H
    exact hK A W (held_ret H rfl 6 rfl (H.has 33 6 rfl trivial) ⟨rfl, Keeps.trans hk1 H.more⟩)

theorem ShaEdges_walk (h256 : PSum256) (h512 : PSum512) (hb : PBlocks256) (hb5 : PBlocks512) (n0 : Int) (_ : (Lit.int .i64 n0).wf = true) (k : Int) (_ : (Lit.int .i64 k).wf = true) (raw : Int) (_ : (Lit.int .i64 raw).wf = true) (w : World) :
    Calls Try.prog 4 #[.int .i64 n0, .int .i64 k, .int .i64 raw] w fun e w' => e = .returned (.bool true) ∧ Keeps (fun _ => False) w w' := ShaEdges_any h256 h512 hb hb5 n0 k raw w
end Go.Proofs.Ytoahgjhomnmmbaa
