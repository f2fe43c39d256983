/-
  AesEncrypts: the walk.
-/
import Derived.Test.YtcmceadekcfpbaaA6L
namespace Go.Proofs.Ytcmceadekcfpbaa
open Go.RowKit

set_option maxRecDepth 100000 in
set_option maxHeartbeats 3200000 in
theorem AesEncrypts_exec (raw text : List Int) (n m : Int) (hb : By raw) (hb2 : By text) : execF EL Try.f4 [.im 1 raw.length none (.flat .u8 raw), .im 1 text.length none (.flat .u8 text), .v (.int .i64 n), .v (.int .i64 m)] (ret1 (.v (.bool true))) := by
  obtain ⟨N, hN⟩ : ∃ N, N = raw.length := ⟨_, rfl⟩
  obtain ⟨M, hM⟩ : ∃ M, M = text.length := ⟨_, rfl⟩
  rw [← hN, ← hM]
  by_cases hn6 : N ≤ 600
  case neg =>
    have h1 := lShort N none (.flat .u8 raw) false (by simp; omega)
    ((conv => whnf); repeat ((first | refine ⟨_, h1, ?_⟩ | refine ⟨_, rfl, ?_⟩ | refine ⟨by decide, ?_⟩ | refine ⟨rfl, ?_⟩ | refine ⟨fun _ => ?_, fun h => absurd h (by decide)⟩ | refine ⟨fun h => absurd h (by decide), fun _ => ?_⟩ | refine ⟨inI_of (by omega), ?_⟩ | refine ⟨⟨rfl, inI_of (by omega)⟩, ?_⟩ | refine ⟨⟨rfl, by decide⟩, ?_⟩ | (apply Exists.intro; refine ⟨?_, ?_⟩; ((try simp only [Nat.zero_add, Nat.mul_one, Int.toNat_natCast]); exact at_g (by omega))) | (apply Exists.intro; refine ⟨?_, ?_⟩; ((try simp only [Nat.zero_add, Nat.mul_one, Int.toNat_natCast]); exact put_flat (by omega))) | refine ⟨_, cut_all (by omega), ?_⟩ | refine ⟨_, lay_all (by omega) (by omega), ?_⟩ | refine ⟨_, lay_all (by simp only [List.length_replicate, List.length_cons, List.length_nil]; omega) (by omega), ?_⟩ | refine ⟨by omega, ?_⟩ | refine ⟨len_flat (by omega), ?_⟩ | refine ⟨apart_uv _ _ _, ?_⟩ | refine ⟨_, resSlot_own rfl (by omega) (by first | exact .inl rfl | exact .inr ⟨rfl, rfl⟩), ?_⟩ | refine ⟨(by kernel_rfl : regB _ = true), ?_⟩); conv => whnf))
    rfl
  have h1 := lShort N none (.flat .u8 raw) true (by simp; omega)
  by_cases hm6 : M ≤ 600
  case neg =>
    have h2 := lShort M none (.flat .u8 text) false (by simp; omega)
    ((conv => whnf); repeat ((first | refine ⟨_, h1, ?_⟩ | refine ⟨_, h2, ?_⟩ | refine ⟨_, rfl, ?_⟩ | refine ⟨by decide, ?_⟩ | refine ⟨rfl, ?_⟩ | refine ⟨fun _ => ?_, fun h => absurd h (by decide)⟩ | refine ⟨fun h => absurd h (by decide), fun _ => ?_⟩ | refine ⟨inI_of (by omega), ?_⟩ | refine ⟨⟨rfl, inI_of (by omega)⟩, ?_⟩ | refine ⟨⟨rfl, by decide⟩, ?_⟩ | (apply Exists.intro; refine ⟨?_, ?_⟩; ((try simp only [Nat.zero_add, Nat.mul_one, Int.toNat_natCast]); exact at_g (by omega))) | (apply Exists.intro; refine ⟨?_, ?_⟩; ((try simp only [Nat.zero_add, Nat.mul_one, Int.toNat_natCast]); exact put_flat (by omega))) | refine ⟨_, cut_all (by omega), ?_⟩ | refine ⟨_, lay_all (by omega) (by omega), ?_⟩ | refine ⟨_, lay_all (by simp only [List.length_replicate, List.length_cons, List.length_nil]; omega) (by omega), ?_⟩ | refine ⟨by omega, ?_⟩ | refine ⟨len_flat (by omega), ?_⟩ | refine ⟨apart_uv _ _ _, ?_⟩ | refine ⟨_, resSlot_own rfl (by omega) (by first | exact .inl rfl | exact .inr ⟨rfl, rfl⟩), ?_⟩ | refine ⟨(by kernel_rfl : regB _ = true), ?_⟩); conv => whnf))
    rfl
  have h2 := lShort M none (.flat .u8 text) true (by simp; omega)
  clear hn6 hm6
  obtain ⟨qn, hqn⟩ : ∃ q : Nat, q = 15 + (n % 3).toNat := ⟨_, rfl⟩
  obtain ⟨qm, hqm⟩ : ∃ q : Nat, q = 15 + (m % 3).toNat := ⟨_, rfl⟩
  have wn : IntKind.i64.wrap (15 + n % 3) = (qn : Int) := by rw [wrap64 (by omega)]; omega
  have wm : IntKind.i64.wrap (15 + m % 3) = (qm : Int) := by rw [wrap64 (by omega)]; omega
  have gn := lMod n 3 _ (by decide) rfl
  have gm := lMod m 3 _ (by decide) rfl
  have msn := lSome n 16 (by decide)
  have msm := lSome m 16 (by decide)
  have mtn := lSome n qn (by omega)
  have mtm := lSome m qm (by omega)
  rw [← wn] at mtn
  rw [← wm] at mtm
  have mdn := lSeed n
  have mdm := lSeed m
  have hdn : (Cont.flat .u8 (sdP n)).cut 0 (16 * 1) = some (.flat .u8 ((sdP n).take 16)) := cut_take (by rw [sdP_len]; decide)
  have hdm : (Cont.flat .u8 (sdP m)).cut 0 (16 * 1) = some (.flat .u8 ((sdP m).take 16)) := cut_take (by rw [sdP_len]; decide)
  have lsn := smP_len n 16
  have lsm := smP_len m 16
  have ltn := smP_len n qn
  have ltm := smP_len m qm
  have ldn : ((sdP n).take 16).length = 16 := by rw [List.length_take, sdP_len]; rfl
  have ldm : ((sdP m).take 16).length = 16 := by rw [List.length_take, sdP_len]; rfl
  have bsn := smP_by n 16
  have bsm := smP_by m 16
  have btn := smP_by n qn
  have btm := smP_by m qm
  have bdn : By ((sdP n).take 16) := (sdP_by n).take 16
  have bdm : By ((sdP m).take 16) := (sdP_by m).take 16
  obtain ⟨sn, hsn⟩ : ∃ l, l = smP n 16 := ⟨_, rfl⟩
  obtain ⟨sm, hsm⟩ : ∃ l, l = smP m 16 := ⟨_, rfl⟩
  obtain ⟨tn, htn⟩ : ∃ l, l = smP n qn := ⟨_, rfl⟩
  obtain ⟨tm, htm⟩ : ∃ l, l = smP m qm := ⟨_, rfl⟩
  obtain ⟨dn, hdnn⟩ : ∃ l, l = sdP n := ⟨_, rfl⟩
  obtain ⟨dm, hdmm⟩ : ∃ l, l = sdP m := ⟨_, rfl⟩
  rw [← htn] at mtn ltn btn
  rw [← htm] at mtm ltm btm
  rw [← hsn] at msn lsn bsn
  rw [← hsm] at msm lsm bsm
  rw [← hdnn] at mdn hdn ldn bdn
  rw [← hdmm] at mdm hdm ldm bdm
  clear hsn hsm htn htm hdnn hdmm wn wm hqn hqm
  have csn : (Cont.flat .u8 sn).cut 0 (16 * 1) = some (.flat .u8 sn) := cut_all lsn
  have csm : (Cont.flat .u8 sm).cut 0 (16 * 1) = some (.flat .u8 sm) := cut_all lsm
  have ctn : (Cont.flat .u8 tn).cut 0 (qn * 1) = some (.flat .u8 tn) := cut_all (by omega)
  have ctm : (Cont.flat .u8 tm).cut 0 (qm * 1) = some (.flat .u8 tm) := cut_all (by omega)
  ((conv => whnf); repeat ((first | refine ⟨_, h1, ?_⟩ | refine ⟨_, h2, ?_⟩ | refine ⟨_, gn, ?_⟩ | refine ⟨_, gm, ?_⟩ | refine ⟨_, msn, ?_⟩ | refine ⟨_, msm, ?_⟩ | refine ⟨_, mtn, ?_⟩ | refine ⟨_, mtm, ?_⟩ | refine ⟨_, mdn, ?_⟩ | refine ⟨_, mdm, ?_⟩ | refine ⟨_, rfl, ?_⟩ | refine ⟨by decide, ?_⟩ | refine ⟨rfl, ?_⟩ | refine ⟨fun _ => ?_, fun h => absurd h (by decide)⟩ | refine ⟨fun h => absurd h (by decide), fun _ => ?_⟩ | refine ⟨inI_of (by omega), ?_⟩ | refine ⟨⟨rfl, inI_of (by omega)⟩, ?_⟩ | refine ⟨⟨rfl, by decide⟩, ?_⟩ | (apply Exists.intro; refine ⟨?_, ?_⟩; ((try simp only [Nat.zero_add, Nat.mul_one, Int.toNat_natCast]); exact at_g (by omega))) | (apply Exists.intro; refine ⟨?_, ?_⟩; ((try simp only [Nat.zero_add, Nat.mul_one, Int.toNat_natCast]); exact put_flat (by omega))) | refine ⟨_, cut_all (by omega), ?_⟩ | refine ⟨_, lay_all (by omega) (by omega), ?_⟩ | refine ⟨_, lay_all (by simp only [List.length_replicate, List.length_cons, List.length_nil]; omega) (by omega), ?_⟩ | refine ⟨by omega, ?_⟩ | refine ⟨len_flat (by omega), ?_⟩ | refine ⟨apart_uv _ _ _, ?_⟩ | refine ⟨_, resSlot_own rfl (by omega) (by first | exact .inl rfl | exact .inr ⟨rfl, rfl⟩), ?_⟩ | refine ⟨(by kernel_rfl : regB _ = true), ?_⟩); conv => whnf))
  refine .inl ⟨fun n' st => ∃ j : Nat, n' = 5 - j ∧ j ≤ 5 ∧ st = ⟨[.poison, .poison, .poison, .poison, .poison, .poison, .poison, .poison, .poison, .poison, .poison, .poison, .poison, .poison, .poison, .poison, .poison, .poison, .poison, .poison, .poison, .poison, .poison, .poison, .poison, .poison, .poison, .poison, .poison, .poison, .poison, .poison, .poison, .poison, .poison, .poison, .poison, .poison, .poison, .poison, .poison, .poison, .poison, .poison, .poison, .poison, .poison, .poison, .poison, .poison, .poison, .poison, .poison, .poison, .poison, .poison, .poison, .poison, .poison, .sl 2 472 0 5 (some 5), iv .i64 5, iv .i64 j, .poison, .poison, .poison, .poison, .poison, .poison, .poison, .poison, .poison, .poison, .poison, .poison, .poison, .poison, .poison, .poison, .poison, .poison, .poison, .poison, .poison, .poison, .poison, .poison, .poison, .poison, .poison, .poison, .poison, .poison, .poison, .poison, .poison, .poison, .poison, .poison, .poison, .poison, .poison, .poison, .poison, .poison, .poison, .poison, .poison, .poison, .poison, .poison, .poison, .poison, .poison, .poison, .poison, .poison, .poison, .poison, .poison, .poison, .poison],
    [(256, ⟨.flat .u8 sn, 5, true⟩), (272, ⟨.flat .u8 sm, 5, true⟩), (296, ⟨.flat .u8 dn, 5, true⟩), (320, ⟨.flat .u8 dm, 5, true⟩), (352, ⟨.flat .u8 sn, 5, true⟩), (392, ⟨.flat .u8 tm, 5, true⟩), (440, ⟨.flat .u8 tn, 5, true⟩), (456, ⟨.flat .u8 sm, 5, true⟩),
      (472, ⟨.gen [.im 1 N none (.flat .u8 raw), .im 1 M none (.flat .u8 text), .sl 1 256 0 16 none, .sl 1 272 0 16 none, .sl 1 296 0 16 none, .sl 1 320 0 16 none, .sl 1 352 0 16 none, .sl 1 392 0 qm none, .sl 1 440 0 qn none, .sl 1 456 0 16 none], 33, false⟩)]⟩,
    ⟨[0, 1, 2, 3, 4, 5, 6, 7, 8, 9, 10, 11, 12, 13, 14, 15, 16, 17, 18, 19, 20, 21, 22, 23, 24, 25, 26, 27, 28, 29, 30, 31, 32, 33, 34, 35, 36, 37, 38, 39, 40, 41, 42, 43, 44, 45, 46, 47, 48, 49, 50, 51, 52, 53, 54, 55, 56, 57, 58, 62, 63, 64, 65, 66, 67, 68, 69, 70, 71, 72, 73, 74, 75, 76, 77, 78, 79, 80, 81, 82, 83, 84, 85, 86, 87, 88, 89, 90, 91, 92, 93, 94, 95, 96, 97, 98, 99, 100, 101, 102, 103, 104, 105, 106, 107, 108, 109, 110, 111, 112, 113, 114, 115, 116, 117, 118, 119, 120], [], 5, 0, rfl, by omega, by kernel_rfl⟩, ?_⟩
  rintro _ _ ⟨j, rfl, hj, rfl⟩
  have hj5 : j = 0 ∨ j = 1 ∨ j = 2 ∨ j = 3 ∨ j = 4 ∨ j = 5 := by omega
  clear h1 h2 gn gm msn msm mtn mtm mdn mdm
  rcases hj5 with rfl | rfl | rfl | rfl | rfl | rfl
  · by_cases hc : N = 16 ∧ M = 16
    · obtain ⟨rfl, rfl⟩ := hc
      obtain ⟨x, y, lx, bx, ly, by', xe, ye, xd, yd⟩ := encPair hN.symm hM.symm hb hb2
      have bxt := (bx.drop 0).take 16
      have byt := (by'.drop 0).take 16
      ((conv => whnf); repeat ((first | refine ⟨_, xe _ _, ?_⟩ | refine ⟨_, ye _ _, ?_⟩ | refine ⟨_, xd _ _, ?_⟩ | refine ⟨_, yd _ _, ?_⟩ | refine ⟨_, conv_own rfl rfl rfl rfl rfl rfl (by omega) bx, ?_⟩ | refine ⟨_, conv_own rfl rfl rfl rfl rfl rfl (by omega) by', ?_⟩ | refine ⟨_, str_neq_self bxt, ?_⟩ | refine ⟨_, str_neq_self byt, ?_⟩ | refine ⟨_, rfl, ?_⟩ | refine ⟨by decide, ?_⟩ | refine ⟨rfl, ?_⟩ | refine ⟨fun _ => ?_, fun h => absurd h (by decide)⟩ | refine ⟨fun h => absurd h (by decide), fun _ => ?_⟩ | refine ⟨inI_of (by omega), ?_⟩ | refine ⟨⟨rfl, inI_of (by omega)⟩, ?_⟩ | refine ⟨⟨rfl, by decide⟩, ?_⟩ | (apply Exists.intro; refine ⟨?_, ?_⟩; ((try simp only [Nat.zero_add, Nat.mul_one, Int.toNat_natCast]); exact at_g (by omega))) | (apply Exists.intro; refine ⟨?_, ?_⟩; ((try simp only [Nat.zero_add, Nat.mul_one, Int.toNat_natCast]); exact put_flat (by omega))) | refine ⟨_, cut_all (by omega), ?_⟩ | refine ⟨_, lay_all (by omega) (by omega), ?_⟩ | refine ⟨_, lay_all (by simp only [List.length_replicate, List.length_cons, List.length_nil]; omega) (by omega), ?_⟩ | refine ⟨by omega, ?_⟩ | refine ⟨len_flat (by omega), ?_⟩ | refine ⟨apart_uv _ _ _, ?_⟩ | refine ⟨_, resSlot_own rfl (by omega) (by first | exact .inl rfl | exact .inr ⟨rfl, rfl⟩), ?_⟩ | refine ⟨(by kernel_rfl : regB _ = true), ?_⟩); conv => whnf))
      refine ⟨[0, 1, 2, 3, 4, 5, 6, 7, 8, 9, 10, 11, 12, 13, 14, 15, 16, 17, 18, 19, 20, 21, 22, 23, 24, 25, 26, 27, 28, 29, 30, 31, 32, 33, 34, 35, 36, 37, 38, 39, 40, 41, 42, 43, 44, 45, 46, 47, 48, 49, 50, 51, 52, 53, 54, 55, 56, 57, 58, 62, 63, 64, 65, 66, 67, 68, 69, 70, 71, 72, 73, 74, 75, 76, 77, 78, 79, 80, 81, 82, 83, 84, 85, 86, 87, 88, 89, 90, 91, 92, 93, 94, 95, 96, 97, 98, 99, 100, 101, 102, 103, 104, 105, 106, 107, 108, 109, 110, 111, 112, 113, 114, 115, 116, 117, 118, 119, 120], [80, 560, 624, 688, 752], 5 - 1, by decide, 1, rfl, by decide, ?_⟩
      kernel_rfl
    · have xe := fun c c2 => lEncNo N M c c2 raw text hN.symm hM.symm hc hb hb2
      have ye := fun c c2 => lrEncNo N M c c2 raw text hN.symm hM.symm hc hb hb2
      have xd := fun c c2 => lDecNo N M c c2 raw text hN.symm hM.symm hc hb hb2
      have yd := fun c c2 => lrDecNo N M c c2 raw text hN.symm hM.symm hc hb hb2
      ((conv => whnf); repeat ((first | refine ⟨_, xe _ _, ?_⟩ | refine ⟨_, ye _ _, ?_⟩ | refine ⟨_, xd _ _, ?_⟩ | refine ⟨_, yd _ _, ?_⟩ | refine ⟨_, rfl, ?_⟩ | refine ⟨by decide, ?_⟩ | refine ⟨rfl, ?_⟩ | refine ⟨fun _ => ?_, fun h => absurd h (by decide)⟩ | refine ⟨fun h => absurd h (by decide), fun _ => ?_⟩ | refine ⟨inI_of (by omega), ?_⟩ | refine ⟨⟨rfl, inI_of (by omega)⟩, ?_⟩ | refine ⟨⟨rfl, by decide⟩, ?_⟩ | (apply Exists.intro; refine ⟨?_, ?_⟩; ((try simp only [Nat.zero_add, Nat.mul_one, Int.toNat_natCast]); exact at_g (by omega))) | (apply Exists.intro; refine ⟨?_, ?_⟩; ((try simp only [Nat.zero_add, Nat.mul_one, Int.toNat_natCast]); exact put_flat (by omega))) | refine ⟨_, cut_all (by omega), ?_⟩ | refine ⟨_, lay_all (by omega) (by omega), ?_⟩ | refine ⟨_, lay_all (by simp only [List.length_replicate, List.length_cons, List.length_nil]; omega) (by omega), ?_⟩ | refine ⟨by omega, ?_⟩ | refine ⟨len_flat (by omega), ?_⟩ | refine ⟨apart_uv _ _ _, ?_⟩ | refine ⟨_, resSlot_own rfl (by omega) (by first | exact .inl rfl | exact .inr ⟨rfl, rfl⟩), ?_⟩ | refine ⟨(by kernel_rfl : regB _ = true), ?_⟩); conv => whnf))
      refine ⟨[0, 1, 2, 3, 4, 5, 6, 7, 8, 9, 10, 11, 12, 13, 14, 15, 16, 17, 18, 19, 20, 21, 22, 23, 24, 25, 26, 27, 28, 29, 30, 31, 32, 33, 34, 35, 36, 37, 38, 39, 40, 41, 42, 43, 44, 45, 46, 47, 48, 49, 50, 51, 52, 53, 54, 55, 56, 57, 58, 62, 63, 64, 65, 66, 67, 68, 69, 70, 71, 72, 73, 74, 75, 76, 77, 78, 79, 80, 81, 82, 83, 84, 85, 86, 87, 88, 89, 90, 91, 92, 93, 94, 95, 96, 97, 98, 99, 100, 101, 102, 103, 104, 105, 106, 107, 108, 109, 110, 111, 112, 113, 114, 115, 116, 117, 118, 119, 120], [80, 560, 624, 688, 752], 5 - 1, by decide, 1, rfl, by decide, ?_⟩
      kernel_rfl
  · obtain ⟨x, y, lx, bx, ly, by', xe, ye, xd, yd⟩ := encPair lsn lsm bsn bsm
    have bxt := (bx.drop 0).take 16
    have byt := (by'.drop 0).take 16
    ((conv => whnf); repeat ((first | refine ⟨_, xe _ _, ?_⟩ | refine ⟨_, ye _ _, ?_⟩ | refine ⟨_, xd _ _, ?_⟩ | refine ⟨_, yd _ _, ?_⟩ | refine ⟨_, expo_sl rfl csn, ?_⟩ | refine ⟨_, expo_sl rfl csm, ?_⟩ | refine ⟨_, conv_own rfl rfl rfl rfl rfl rfl (by omega) bx, ?_⟩ | refine ⟨_, conv_own rfl rfl rfl rfl rfl rfl (by omega) by', ?_⟩ | refine ⟨_, str_neq_self bxt, ?_⟩ | refine ⟨_, str_neq_self byt, ?_⟩ | refine ⟨_, rfl, ?_⟩ | refine ⟨by decide, ?_⟩ | refine ⟨rfl, ?_⟩ | refine ⟨fun _ => ?_, fun h => absurd h (by decide)⟩ | refine ⟨fun h => absurd h (by decide), fun _ => ?_⟩ | refine ⟨inI_of (by omega), ?_⟩ | refine ⟨⟨rfl, inI_of (by omega)⟩, ?_⟩ | refine ⟨⟨rfl, by decide⟩, ?_⟩ | (apply Exists.intro; refine ⟨?_, ?_⟩; ((try simp only [Nat.zero_add, Nat.mul_one, Int.toNat_natCast]); exact at_g (by omega))) | (apply Exists.intro; refine ⟨?_, ?_⟩; ((try simp only [Nat.zero_add, Nat.mul_one, Int.toNat_natCast]); exact put_flat (by omega))) | refine ⟨_, cut_all (by omega), ?_⟩ | refine ⟨_, lay_all (by omega) (by omega), ?_⟩ | refine ⟨_, lay_all (by simp only [List.length_replicate, List.length_cons, List.length_nil]; omega) (by omega), ?_⟩ | refine ⟨by omega, ?_⟩ | refine ⟨len_flat (by omega), ?_⟩ | refine ⟨apart_uv _ _ _, ?_⟩ | refine ⟨_, resSlot_own rfl (by omega) (by first | exact .inl rfl | exact .inr ⟨rfl, rfl⟩), ?_⟩ | refine ⟨(by kernel_rfl : regB _ = true), ?_⟩); conv => whnf))
    refine ⟨[0, 1, 2, 3, 4, 5, 6, 7, 8, 9, 10, 11, 12, 13, 14, 15, 16, 17, 18, 19, 20, 21, 22, 23, 24, 25, 26, 27, 28, 29, 30, 31, 32, 33, 34, 35, 36, 37, 38, 39, 40, 41, 42, 43, 44, 45, 46, 47, 48, 49, 50, 51, 52, 53, 54, 55, 56, 57, 58, 62, 63, 64, 65, 66, 67, 68, 69, 70, 71, 72, 73, 74, 75, 76, 77, 78, 79, 80, 81, 82, 83, 84, 85, 86, 87, 88, 89, 90, 91, 92, 93, 94, 95, 96, 97, 98, 99, 100, 101, 102, 103, 104, 105, 106, 107, 108, 109, 110, 111, 112, 113, 114, 115, 116, 117, 118, 119, 120], [80, 560, 624, 688, 752], 5 - 2, by decide, 2, rfl, by decide, ?_⟩
    kernel_rfl
  · obtain ⟨x, y, lx, bx, ly, by', xe, ye, xd, yd⟩ := encPair ldn ldm bdn bdm
    have bxt := (bx.drop 0).take 16
    have byt := (by'.drop 0).take 16
    ((conv => whnf); repeat ((first | refine ⟨_, xe _ _, ?_⟩ | refine ⟨_, ye _ _, ?_⟩ | refine ⟨_, xd _ _, ?_⟩ | refine ⟨_, yd _ _, ?_⟩ | refine ⟨_, expo_sl rfl hdn, ?_⟩ | refine ⟨_, expo_sl rfl hdm, ?_⟩ | refine ⟨_, conv_own rfl rfl rfl rfl rfl rfl (by omega) bx, ?_⟩ | refine ⟨_, conv_own rfl rfl rfl rfl rfl rfl (by omega) by', ?_⟩ | refine ⟨_, str_neq_self bxt, ?_⟩ | refine ⟨_, str_neq_self byt, ?_⟩ | refine ⟨_, rfl, ?_⟩ | refine ⟨by decide, ?_⟩ | refine ⟨rfl, ?_⟩ | refine ⟨fun _ => ?_, fun h => absurd h (by decide)⟩ | refine ⟨fun h => absurd h (by decide), fun _ => ?_⟩ | refine ⟨inI_of (by omega), ?_⟩ | refine ⟨⟨rfl, inI_of (by omega)⟩, ?_⟩ | refine ⟨⟨rfl, by decide⟩, ?_⟩ | (apply Exists.intro; refine ⟨?_, ?_⟩; ((try simp only [Nat.zero_add, Nat.mul_one, Int.toNat_natCast]); exact at_g (by omega))) | (apply Exists.intro; refine ⟨?_, ?_⟩; ((try simp only [Nat.zero_add, Nat.mul_one, Int.toNat_natCast]); exact put_flat (by omega))) | refine ⟨_, cut_all (by omega), ?_⟩ | refine ⟨_, lay_all (by omega) (by omega), ?_⟩ | refine ⟨_, lay_all (by simp only [List.length_replicate, List.length_cons, List.length_nil]; omega) (by omega), ?_⟩ | refine ⟨by omega, ?_⟩ | refine ⟨len_flat (by omega), ?_⟩ | refine ⟨apart_uv _ _ _, ?_⟩ | refine ⟨_, resSlot_own rfl (by omega) (by first | exact .inl rfl | exact .inr ⟨rfl, rfl⟩), ?_⟩ | refine ⟨(by kernel_rfl : regB _ = true), ?_⟩); conv => whnf))
    refine ⟨[0, 1, 2, 3, 4, 5, 6, 7, 8, 9, 10, 11, 12, 13, 14, 15, 16, 17, 18, 19, 20, 21, 22, 23, 24, 25, 26, 27, 28, 29, 30, 31, 32, 33, 34, 35, 36, 37, 38, 39, 40, 41, 42, 43, 44, 45, 46, 47, 48, 49, 50, 51, 52, 53, 54, 55, 56, 57, 58, 62, 63, 64, 65, 66, 67, 68, 69, 70, 71, 72, 73, 74, 75, 76, 77, 78, 79, 80, 81, 82, 83, 84, 85, 86, 87, 88, 89, 90, 91, 92, 93, 94, 95, 96, 97, 98, 99, 100, 101, 102, 103, 104, 105, 106, 107, 108, 109, 110, 111, 112, 113, 114, 115, 116, 117, 118, 119, 120], [80, 560, 624, 688, 752], 5 - 3, by decide, 3, rfl, by decide, ?_⟩
    kernel_rfl
  · by_cases hc : qm = 16
    · rw [hc] at ltm
      obtain ⟨x, y, lx, bx, ly, by', xe, ye, xd, yd⟩ := encPair lsn ltm bsn btm
      have bxt := (bx.drop 0).take 16
      have byt := (by'.drop 0).take 16
      rw [hc]
      rw [hc] at ctm
      ((conv => whnf); repeat ((first | refine ⟨_, xe _ _, ?_⟩ | refine ⟨_, ye _ _, ?_⟩ | refine ⟨_, xd _ _, ?_⟩ | refine ⟨_, yd _ _, ?_⟩ | refine ⟨_, expo_sl rfl csn, ?_⟩ | refine ⟨_, expo_sl rfl ctm, ?_⟩ | refine ⟨_, conv_own rfl rfl rfl rfl rfl rfl (by omega) bx, ?_⟩ | refine ⟨_, conv_own rfl rfl rfl rfl rfl rfl (by omega) by', ?_⟩ | refine ⟨_, str_neq_self bxt, ?_⟩ | refine ⟨_, str_neq_self byt, ?_⟩ | refine ⟨_, rfl, ?_⟩ | refine ⟨by decide, ?_⟩ | refine ⟨rfl, ?_⟩ | refine ⟨fun _ => ?_, fun h => absurd h (by decide)⟩ | refine ⟨fun h => absurd h (by decide), fun _ => ?_⟩ | refine ⟨inI_of (by omega), ?_⟩ | refine ⟨⟨rfl, inI_of (by omega)⟩, ?_⟩ | refine ⟨⟨rfl, by decide⟩, ?_⟩ | (apply Exists.intro; refine ⟨?_, ?_⟩; ((try simp only [Nat.zero_add, Nat.mul_one, Int.toNat_natCast]); exact at_g (by omega))) | (apply Exists.intro; refine ⟨?_, ?_⟩; ((try simp only [Nat.zero_add, Nat.mul_one, Int.toNat_natCast]); exact put_flat (by omega))) | refine ⟨_, cut_all (by omega), ?_⟩ | refine ⟨_, lay_all (by omega) (by omega), ?_⟩ | refine ⟨_, lay_all (by simp only [List.length_replicate, List.length_cons, List.length_nil]; omega) (by omega), ?_⟩ | refine ⟨by omega, ?_⟩ | refine ⟨len_flat (by omega), ?_⟩ | refine ⟨apart_uv _ _ _, ?_⟩ | refine ⟨_, resSlot_own rfl (by omega) (by first | exact .inl rfl | exact .inr ⟨rfl, rfl⟩), ?_⟩ | refine ⟨(by kernel_rfl : regB _ = true), ?_⟩); conv => whnf))
      refine ⟨[0, 1, 2, 3, 4, 5, 6, 7, 8, 9, 10, 11, 12, 13, 14, 15, 16, 17, 18, 19, 20, 21, 22, 23, 24, 25, 26, 27, 28, 29, 30, 31, 32, 33, 34, 35, 36, 37, 38, 39, 40, 41, 42, 43, 44, 45, 46, 47, 48, 49, 50, 51, 52, 53, 54, 55, 56, 57, 58, 62, 63, 64, 65, 66, 67, 68, 69, 70, 71, 72, 73, 74, 75, 76, 77, 78, 79, 80, 81, 82, 83, 84, 85, 86, 87, 88, 89, 90, 91, 92, 93, 94, 95, 96, 97, 98, 99, 100, 101, 102, 103, 104, 105, 106, 107, 108, 109, 110, 111, 112, 113, 114, 115, 116, 117, 118, 119, 120], [80, 560, 624, 688, 752], 5 - 4, by decide, 4, rfl, by decide, ?_⟩
      kernel_rfl
    · have xe := fun c c2 => lEncNo 16 qm c c2 sn tm lsn ltm (fun h => hc h.2) bsn btm
      have ye := fun c c2 => lrEncNo 16 qm c c2 sn tm lsn ltm (fun h => hc h.2) bsn btm
      have xd := fun c c2 => lDecNo 16 qm c c2 sn tm lsn ltm (fun h => hc h.2) bsn btm
      have yd := fun c c2 => lrDecNo 16 qm c c2 sn tm lsn ltm (fun h => hc h.2) bsn btm
      ((conv => whnf); repeat ((first | refine ⟨_, xe _ _, ?_⟩ | refine ⟨_, ye _ _, ?_⟩ | refine ⟨_, xd _ _, ?_⟩ | refine ⟨_, yd _ _, ?_⟩ | refine ⟨_, expo_sl rfl csn, ?_⟩ | refine ⟨_, expo_sl rfl ctm, ?_⟩ | refine ⟨_, rfl, ?_⟩ | refine ⟨by decide, ?_⟩ | refine ⟨rfl, ?_⟩ | refine ⟨fun _ => ?_, fun h => absurd h (by decide)⟩ | refine ⟨fun h => absurd h (by decide), fun _ => ?_⟩ | refine ⟨inI_of (by omega), ?_⟩ | refine ⟨⟨rfl, inI_of (by omega)⟩, ?_⟩ | refine ⟨⟨rfl, by decide⟩, ?_⟩ | (apply Exists.intro; refine ⟨?_, ?_⟩; ((try simp only [Nat.zero_add, Nat.mul_one, Int.toNat_natCast]); exact at_g (by omega))) | (apply Exists.intro; refine ⟨?_, ?_⟩; ((try simp only [Nat.zero_add, Nat.mul_one, Int.toNat_natCast]); exact put_flat (by omega))) | refine ⟨_, cut_all (by omega), ?_⟩ | refine ⟨_, lay_all (by omega) (by omega), ?_⟩ | refine ⟨_, lay_all (by simp only [List.length_replicate, List.length_cons, List.length_nil]; omega) (by omega), ?_⟩ | refine ⟨by omega, ?_⟩ | refine ⟨len_flat (by omega), ?_⟩ | refine ⟨apart_uv _ _ _, ?_⟩ | refine ⟨_, resSlot_own rfl (by omega) (by first | exact .inl rfl | exact .inr ⟨rfl, rfl⟩), ?_⟩ | refine ⟨(by kernel_rfl : regB _ = true), ?_⟩); conv => whnf))
      refine ⟨[0, 1, 2, 3, 4, 5, 6, 7, 8, 9, 10, 11, 12, 13, 14, 15, 16, 17, 18, 19, 20, 21, 22, 23, 24, 25, 26, 27, 28, 29, 30, 31, 32, 33, 34, 35, 36, 37, 38, 39, 40, 41, 42, 43, 44, 45, 46, 47, 48, 49, 50, 51, 52, 53, 54, 55, 56, 57, 58, 62, 63, 64, 65, 66, 67, 68, 69, 70, 71, 72, 73, 74, 75, 76, 77, 78, 79, 80, 81, 82, 83, 84, 85, 86, 87, 88, 89, 90, 91, 92, 93, 94, 95, 96, 97, 98, 99, 100, 101, 102, 103, 104, 105, 106, 107, 108, 109, 110, 111, 112, 113, 114, 115, 116, 117, 118, 119, 120], [80, 560, 624, 688, 752], 5 - 4, by decide, 4, rfl, by decide, ?_⟩
      kernel_rfl
  · by_cases hc : qn = 16
    · rw [hc] at ltn
      obtain ⟨x, y, lx, bx, ly, by', xe, ye, xd, yd⟩ := encPair ltn lsm btn bsm
      have bxt := (bx.drop 0).take 16
      have byt := (by'.drop 0).take 16
      rw [hc]
      rw [hc] at ctn
      ((conv => whnf); repeat ((first | refine ⟨_, xe _ _, ?_⟩ | refine ⟨_, ye _ _, ?_⟩ | refine ⟨_, xd _ _, ?_⟩ | refine ⟨_, yd _ _, ?_⟩ | refine ⟨_, expo_sl rfl ctn, ?_⟩ | refine ⟨_, expo_sl rfl csm, ?_⟩ | refine ⟨_, conv_own rfl rfl rfl rfl rfl rfl (by omega) bx, ?_⟩ | refine ⟨_, conv_own rfl rfl rfl rfl rfl rfl (by omega) by', ?_⟩ | refine ⟨_, str_neq_self bxt, ?_⟩ | refine ⟨_, str_neq_self byt, ?_⟩ | refine ⟨_, rfl, ?_⟩ | refine ⟨by decide, ?_⟩ | refine ⟨rfl, ?_⟩ | refine ⟨fun _ => ?_, fun h => absurd h (by decide)⟩ | refine ⟨fun h => absurd h (by decide), fun _ => ?_⟩ | refine ⟨inI_of (by omega), ?_⟩ | refine ⟨⟨rfl, inI_of (by omega)⟩, ?_⟩ | refine ⟨⟨rfl, by decide⟩, ?_⟩ | (apply Exists.intro; refine ⟨?_, ?_⟩; ((try simp only [Nat.zero_add, Nat.mul_one, Int.toNat_natCast]); exact at_g (by omega))) | (apply Exists.intro; refine ⟨?_, ?_⟩; ((try simp only [Nat.zero_add, Nat.mul_one, Int.toNat_natCast]); exact put_flat (by omega))) | refine ⟨_, cut_all (by omega), ?_⟩ | refine ⟨_, lay_all (by omega) (by omega), ?_⟩ | refine ⟨_, lay_all (by simp only [List.length_replicate, List.length_cons, List.length_nil]; omega) (by omega), ?_⟩ | refine ⟨by omega, ?_⟩ | refine ⟨len_flat (by omega), ?_⟩ | refine ⟨apart_uv _ _ _, ?_⟩ | refine ⟨_, resSlot_own rfl (by omega) (by first | exact .inl rfl | exact .inr ⟨rfl, rfl⟩), ?_⟩ | refine ⟨(by kernel_rfl : regB _ = true), ?_⟩); conv => whnf))
      refine ⟨[0, 1, 2, 3, 4, 5, 6, 7, 8, 9, 10, 11, 12, 13, 14, 15, 16, 17, 18, 19, 20, 21, 22, 23, 24, 25, 26, 27, 28, 29, 30, 31, 32, 33, 34, 35, 36, 37, 38, 39, 40, 41, 42, 43, 44, 45, 46, 47, 48, 49, 50, 51, 52, 53, 54, 55, 56, 57, 58, 62, 63, 64, 65, 66, 67, 68, 69, 70, 71, 72, 73, 74, 75, 76, 77, 78, 79, 80, 81, 82, 83, 84, 85, 86, 87, 88, 89, 90, 91, 92, 93, 94, 95, 96, 97, 98, 99, 100, 101, 102, 103, 104, 105, 106, 107, 108, 109, 110, 111, 112, 113, 114, 115, 116, 117, 118, 119, 120], [80, 560, 624, 688, 752], 5 - 5, by decide, 5, rfl, by decide, ?_⟩
      kernel_rfl
    · have xe := fun c c2 => lEncNo qn 16 c c2 tn sm ltn lsm (fun h => hc h.1) btn bsm
      have ye := fun c c2 => lrEncNo qn 16 c c2 tn sm ltn lsm (fun h => hc h.1) btn bsm
      have xd := fun c c2 => lDecNo qn 16 c c2 tn sm ltn lsm (fun h => hc h.1) btn bsm
      have yd := fun c c2 => lrDecNo qn 16 c c2 tn sm ltn lsm (fun h => hc h.1) btn bsm
      ((conv => whnf); repeat ((first | refine ⟨_, xe _ _, ?_⟩ | refine ⟨_, ye _ _, ?_⟩ | refine ⟨_, xd _ _, ?_⟩ | refine ⟨_, yd _ _, ?_⟩ | refine ⟨_, expo_sl rfl ctn, ?_⟩ | refine ⟨_, expo_sl rfl csm, ?_⟩ | refine ⟨_, rfl, ?_⟩ | refine ⟨by decide, ?_⟩ | refine ⟨rfl, ?_⟩ | refine ⟨fun _ => ?_, fun h => absurd h (by decide)⟩ | refine ⟨fun h => absurd h (by decide), fun _ => ?_⟩ | refine ⟨inI_of (by omega), ?_⟩ | refine ⟨⟨rfl, inI_of (by omega)⟩, ?_⟩ | refine ⟨⟨rfl, by decide⟩, ?_⟩ | (apply Exists.intro; refine ⟨?_, ?_⟩; ((try simp only [Nat.zero_add, Nat.mul_one, Int.toNat_natCast]); exact at_g (by omega))) | (apply Exists.intro; refine ⟨?_, ?_⟩; ((try simp only [Nat.zero_add, Nat.mul_one, Int.toNat_natCast]); exact put_flat (by omega))) | refine ⟨_, cut_all (by omega), ?_⟩ | refine ⟨_, lay_all (by omega) (by omega), ?_⟩ | refine ⟨_, lay_all (by simp only [List.length_replicate, List.length_cons, List.length_nil]; omega) (by omega), ?_⟩ | refine ⟨by omega, ?_⟩ | refine ⟨len_flat (by omega), ?_⟩ | refine ⟨apart_uv _ _ _, ?_⟩ | refine ⟨_, resSlot_own rfl (by omega) (by first | exact .inl rfl | exact .inr ⟨rfl, rfl⟩), ?_⟩ | refine ⟨(by kernel_rfl : regB _ = true), ?_⟩); conv => whnf))
      refine ⟨[0, 1, 2, 3, 4, 5, 6, 7, 8, 9, 10, 11, 12, 13, 14, 15, 16, 17, 18, 19, 20, 21, 22, 23, 24, 25, 26, 27, 28, 29, 30, 31, 32, 33, 34, 35, 36, 37, 38, 39, 40, 41, 42, 43, 44, 45, 46, 47, 48, 49, 50, 51, 52, 53, 54, 55, 56, 57, 58, 62, 63, 64, 65, 66, 67, 68, 69, 70, 71, 72, 73, 74, 75, 76, 77, 78, 79, 80, 81, 82, 83, 84, 85, 86, 87, 88, 89, 90, 91, 92, 93, 94, 95, 96, 97, 98, 99, 100, 101, 102, 103, 104, 105, 106, 107, 108, 109, 110, 111, 112, 113, 114, 115, 116, 117, 118, 119, 120], [80, 560, 624, 688, 752], 5 - 5, by decide, 5, rfl, by decide, ?_⟩
      kernel_rfl
  · ((conv => whnf); repeat ((first | refine ⟨_, rfl, ?_⟩ | refine ⟨by decide, ?_⟩ | refine ⟨rfl, ?_⟩ | refine ⟨fun _ => ?_, fun h => absurd h (by decide)⟩ | refine ⟨fun h => absurd h (by decide), fun _ => ?_⟩ | refine ⟨inI_of (by omega), ?_⟩ | refine ⟨⟨rfl, inI_of (by omega)⟩, ?_⟩ | refine ⟨⟨rfl, by decide⟩, ?_⟩ | (apply Exists.intro; refine ⟨?_, ?_⟩; ((try simp only [Nat.zero_add, Nat.mul_one, Int.toNat_natCast]); exact at_g (by omega))) | (apply Exists.intro; refine ⟨?_, ?_⟩; ((try simp only [Nat.zero_add, Nat.mul_one, Int.toNat_natCast]); exact put_flat (by omega))) | refine ⟨_, cut_all (by omega), ?_⟩ | refine ⟨_, lay_all (by omega) (by omega), ?_⟩ | refine ⟨_, lay_all (by simp only [List.length_replicate, List.length_cons, List.length_nil]; omega) (by omega), ?_⟩ | refine ⟨by omega, ?_⟩ | refine ⟨len_flat (by omega), ?_⟩ | refine ⟨apart_uv _ _ _, ?_⟩ | refine ⟨_, resSlot_own rfl (by omega) (by first | exact .inl rfl | exact .inr ⟨rfl, rfl⟩), ?_⟩ | refine ⟨(by kernel_rfl : regB _ = true), ?_⟩); conv => whnf))
    rfl
theorem AesEncrypts_call (raw text : List Int) (n m : Int) (hb : By raw) (hb2 : By text) : CallOk Try.prog 4 [.im 1 raw.length none (.flat .u8 raw), .im 1 text.length none (.flat .u8 text), .v (.int .i64 n), .v (.int .i64 m)] (ret1 (.v (.bool true))) :=
  execF_ok follows_ok EL_ok Try.func4 (AesEncrypts_exec raw text n m hb hb2)
end Go.Proofs.Ytcmceadekcfpbaa
