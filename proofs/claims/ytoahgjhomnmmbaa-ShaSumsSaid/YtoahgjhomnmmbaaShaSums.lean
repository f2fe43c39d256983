/-
  ShaSums, walked over what the program's functions promise.
-/
import Derived.Test.YtoahgjhomnmmbaaShaLaw
import Derived.Test.YtoahgjhomnmmbaaRel
namespace Go.Proofs.Ytoahgjhomnmmbaa
open Go.RowKit

set_option maxHeartbeats 1000000 in
set_option maxRecDepth 100000 in
theorem ShaSums_any (h256 : PSum256) (h512 : PSum512) (hb : PBlocks256) (a : Option Addr) (c : Nat) (b : List Int) (hc : CapOk a c b.length) (w : World) (hr : RowAt (fun _ => True) .u8 w a b) :
    Calls Try.prog 3 #[.slice a b.length c] w fun e w' => e = .returned (.bool true) ∧ Keeps (fun _ => False) w w' := by
  have HA := hid (awake_any h256 h512 hb)
  by_cases hl : b.length > 2000
  · have hl' : (b.length : Int) > 2000 := by omega
    have hm := hr.1
    go_enter Try.func3, Try.ntmps3
    go_wp2_with fail
    refine (HA.out w).mono ?_
    rintro e w' ⟨rfl, hk⟩
    go_wp2_with fail
    go_ret
    exact ⟨rfl, hk⟩
  · have hl' : ¬ (b.length : Int) > 2000 := by omega
    have H1 := hid h256
    have H5 := hid h512
    clear h256 h512 hb
    go_enter Try.func3, Try.ntmps3
    go_wp2_with fail
    rename_i K hK
    refine wp_region_relV 26 (by kernel_rfl) rfl (by kernel_rfl)
      [Is (.slice a b.length c), RowIs .u8 (sha256 b), Is (.string (strOfNums (sha256 b))), Is (.slice a b.length c), RowIs .u8 (sha256 b), Is (.string (strOfNums (sha256 b))), Is (.bool true), Is (.bool true), Is (.slice a b.length c), RowIs .u8 (sha512 b), Is (.string (strOfNums (sha512 b))), Is (.slice a b.length c), RowIs .u8 (sha512 b), Is (.string (strOfNums (sha512 b))), Is (.bool true), Is (.bool true), Is (.bool true), Is (.bool true), Is (.bool true), Is (.bool true)]
      ⟨Is.lasts _, RowIs.lasts _ _, Is.lasts _, Is.lasts _, RowIs.lasts _ _, Is.lasts _, Is.lasts _, Is.lasts _, Is.lasts _, RowIs.lasts _ _, Is.lasts _, Is.lasts _, RowIs.lasts _ _, Is.lasts _, Is.lasts _, Is.lasts _, Is.lasts _, Is.lasts _, Is.lasts _, Is.lasts _, trivial⟩
      ⟨?_, ?_, ?_, ?_, ?_, ?_, ?_, ?_, ?_, ?_, ?_, ?_, ?_, ?_, ?_, ?_, ?_, ?_, ?_, ?_, trivial⟩ ?_
    · intro A W H
      have e0 : (A.tmps[0]?).getD undef = (.slice a b.length c) := H.slot' 0 rfl
      exact st_val rfl (v := (.slice a b.length c)) (by simp [go_sem, e0]) rfl
    · intro A W H
      have e7 : (A.tmps[7]?).getD undef = (.slice a b.length c) := H.has 0 7 rfl rfl
      refine st_call rfl (f := 9) (args := #[.slice a b.length c]) (by simp [go_sem, e7]) ?_
      refine (H1.out a c b W (by omega) hc (hr.keeps H.more (fun _ _ h => h))).mono ?_
      rintro e w' ⟨v, rfl, hown, hk⟩
      exact ⟨v, rfl, hk, hown.rowIs⟩
    · intro A W H
      obtain ⟨a8, c8, e8, hc8, hr8⟩ := H.has 1 8 rfl rfl
      refine st_val rfl (v := .string (strOfNums (sha256 b))) ?_ rfl
      have cv := conv_str (P := Try.prog) 22 5 9 Try.underlying22 Try.underlying5 Try.underlying9 (c := c8) hr8
      simp [go_sem, e8, cv]
    · intro A W H
      have e0 : (A.tmps[0]?).getD undef = (.slice a b.length c) := H.slot' 0 rfl
      exact st_val rfl (v := (.slice a b.length c)) (by simp [go_sem, e0]) rfl
    · intro A W H
      have e10 : (A.tmps[10]?).getD undef = (.slice a b.length c) := H.has 3 10 rfl rfl
      refine st_call rfl (f := 10) (args := #[.slice a b.length c]) (by simp [go_sem, e10]) ?_
      refine (refSum256_any a c b W (by omega) hc.1 (hr.keeps H.more (fun _ _ h => h))).mono ?_
      rintro e w' ⟨v, rfl, hown, hk⟩
      exact ⟨v, rfl, hk, hown.rowIs⟩
    · intro A W H
      obtain ⟨a11, c11, e11, hc11, hr11⟩ := H.has 4 11 rfl rfl
      refine st_val rfl (v := .string (strOfNums (sha256 b))) ?_ rfl
      have cv := conv_str (P := Try.prog) 22 5 9 Try.underlying22 Try.underlying5 Try.underlying9 (c := c11) hr11
      simp [go_sem, e11, cv]
    · intro A W H
      have e9 : (A.tmps[9]?).getD undef = (.string (strOfNums (sha256 b))) := H.has 2 9 rfl rfl
      have e12 : (A.tmps[12]?).getD undef = (.string (strOfNums (sha256 b))) := H.has 5 12 rfl rfl
      exact st_val rfl (v := .bool true) (by simp [go_sem, e9, e12]) rfl
    · intro A W H
      have e13 : (A.tmps[13]?).getD undef = (.bool true) := H.has 6 13 rfl rfl
      exact st_val rfl (v := (.bool true)) (by simp [go_sem, e13]) rfl
    · intro A W H
      have e0 : (A.tmps[0]?).getD undef = (.slice a b.length c) := H.slot' 0 rfl
      exact st_val (want_of rfl rfl (H.has 7 14 rfl rfl)) (v := (.slice a b.length c)) (by simp [go_sem, e0]) rfl
    · intro A W H
      have e15 : (A.tmps[15]?).getD undef = (.slice a b.length c) := H.has 8 15 rfl rfl
      refine st_call (want_of rfl rfl (H.has 7 14 rfl rfl)) (f := 11) (args := #[.slice a b.length c]) (by simp [go_sem, e15]) ?_
      refine (H5.out a c b W (by omega) hc (hr.keeps H.more (fun _ _ h => h))).mono ?_
      rintro e w' ⟨v, rfl, hown, hk⟩
      exact ⟨v, rfl, hk, hown.rowIs⟩
    · intro A W H
      obtain ⟨a16, c16, e16, hc16, hr16⟩ := H.has 9 16 rfl rfl
      refine st_val (want_of rfl rfl (H.has 7 14 rfl rfl)) (v := .string (strOfNums (sha512 b))) ?_ rfl
      have cv := conv_str (P := Try.prog) 22 5 9 Try.underlying22 Try.underlying5 Try.underlying9 (c := c16) hr16
      simp [go_sem, e16, cv]
    · intro A W H
      have e0 : (A.tmps[0]?).getD undef = (.slice a b.length c) := H.slot' 0 rfl
      exact st_val (want_of rfl rfl (H.has 7 14 rfl rfl)) (v := (.slice a b.length c)) (by simp [go_sem, e0]) rfl
    · intro A W H
      have e18 : (A.tmps[18]?).getD undef = (.slice a b.length c) := H.has 11 18 rfl rfl
      refine st_call (want_of rfl rfl (H.has 7 14 rfl rfl)) (f := 12) (args := #[.slice a b.length c]) (by simp [go_sem, e18]) ?_
      refine (refSum512_any a c b W (by omega) hc.1 (hr.keeps H.more (fun _ _ h => h))).mono ?_
      rintro e w' ⟨v, rfl, hown, hk⟩
      exact ⟨v, rfl, hk, hown.rowIs⟩
    · intro A W H
      obtain ⟨a19, c19, e19, hc19, hr19⟩ := H.has 12 19 rfl rfl
      refine st_val (want_of rfl rfl (H.has 7 14 rfl rfl)) (v := .string (strOfNums (sha512 b))) ?_ rfl
      have cv := conv_str (P := Try.prog) 22 5 9 Try.underlying22 Try.underlying5 Try.underlying9 (c := c19) hr19
      simp [go_sem, e19, cv]
    · intro A W H
      have e17 : (A.tmps[17]?).getD undef = (.string (strOfNums (sha512 b))) := H.has 10 17 rfl rfl
      have e20 : (A.tmps[20]?).getD undef = (.string (strOfNums (sha512 b))) := H.has 13 20 rfl rfl
      exact st_val (want_of rfl rfl (H.has 7 14 rfl rfl)) (v := .bool true) (by simp [go_sem, e17, e20]) rfl
    · intro A W H
      have e14 : (A.tmps[14]?).getD undef = (.bool true) := H.has 7 14 rfl rfl
      have e21 : (A.tmps[21]?).getD undef = (.bool true) := H.has 14 21 rfl rfl
      exact st_val rfl (v := .bool true) (by simp [go_sem, e14, e21]) rfl
    · intro A W H
      have e22 : (A.tmps[22]?).getD undef = (.bool true) := H.has 15 22 rfl rfl
      exact st_val rfl (v := (.bool true)) (by simp [go_sem, e22]) rfl
    · intro A W H
      refine st_call (want_of rfl rfl (H.has 16 23 rfl rfl)) (f := 8) (args := #[]) (by simp [go_sem]) ?_
      exact (HA.out W).mono fun e w' ⟨he, hk⟩ => ⟨_, he, hk, rfl⟩
    · intro A W H
      have e23 : (A.tmps[23]?).getD undef = (.bool true) := H.has 16 23 rfl rfl
      have e24 : (A.tmps[24]?).getD undef = (.bool true) := H.has 17 24 rfl rfl
      exact st_val rfl (v := .bool true) (by simp [go_sem, e23, e24]) rfl
    · intro A W H
      have e25 : (A.tmps[25]?).getD undef = (.bool true) := H.has 18 25 rfl rfl
      exact st_val rfl (v := (.bool true)) (by simp [go_sem, e25]) rfl
    · intro A W H
      exact hK A W (held_ret H rfl 2 rfl (H.has 19 2 rfl trivial) ⟨rfl, H.more⟩)

theorem ShaSums_walk (h256 : PSum256) (h512 : PSum512) (hb : PBlocks256) (a : Option Addr) (c : Nat) (b : List Int) {w : World} (hw : CapOk a c b.length ∧ RowAt (fun _ => True) .u8 w a b) (w1 : World) (he : w1 = w := by rfl) :
    Calls Try.prog 3 #[.slice a b.length c] w1 fun e w' => e = .returned (.bool true) ∧ Keeps (fun _ => False) w1 w' := by
  subst he
  exact ShaSums_any h256 h512 hb a c b hw.1 w1 hw.2
end Go.Proofs.Ytoahgjhomnmmbaa
