/-
  KdfInner, walked.
-/
import Derived.Test.YtomeeeakaejokaaKdfLaw
import Derived.Test.YtomeeeakaejokaaZeros
import Derived.IntWalk
namespace Go.Proofs.Ytomeeeakaejokaa
open Go.RowKit

set_option maxHeartbeats 4000000 in
set_option maxRecDepth 100000 in
theorem KdfInner_any (a : Option Addr) (c : Nat) (key : List Int) (a' : Option Addr) (c' : Nat) (b : List Int) (w : World)
    (hc : CapOk a c key.length) (hr : RowAt (fun _ => True) .u8 w a key) (hc' : CapOk a' c' b.length) (hr' : RowAt (fun _ => True) .u8 w a' b) :
    Calls Try.prog 7 #[.slice a key.length c, .slice a' b.length c'] w fun e w' => e = .returned (.bool true) ∧ Keeps (fun _ => False) w w' := by
  have HA := hid awake5_any
  by_cases h1n : ¬ key.length ≤ 600
  · go_enter Try.func7, Try.ntmps7
    go_wp2_with fail
    refine (Short_no a c key.length w h1n).mono ?_
    rintro e w' ⟨rfl, rfl⟩
    go_wp2_with fail
    refine (HA.out w).mono ?_
    rintro e w' ⟨rfl, hk⟩
    go_wp2_with fail
    go_ret
    exact ⟨rfl, hk⟩
  have h1 : key.length ≤ 600 := by omega
  clear h1n
  by_cases h2n : ¬ b.length ≤ 600
  · go_enter Try.func7, Try.ntmps7
    go_wp2_with fail
    refine (Short_yes a c key.length w h1).mono ?_
    rintro e w' ⟨rfl, rfl⟩
    go_wp2_with fail
    refine (Short_no a' c' b.length w h2n).mono ?_
    rintro e w' ⟨rfl, rfl⟩
    go_wp2_with fail
    refine (HA.out w).mono ?_
    rintro e w' ⟨rfl, hk⟩
    go_wp2_with fail
    go_ret
    exact ⟨rfl, hk⟩
  have h2 : b.length ≤ 600 := by omega
  clear h2n
  obtain ⟨i0, hi, hz0, hz1, hz2⟩ := info_parts info_u8p
  have hrw' : RowAt (· < w.heap.size) .u8 w a' b := hr'.mono (fun i hi _ => hi)
  by_cases hl : key.length > 64
  · have hl' : (key.length : Int) > 64 := by omega
    have hmb : 0 ≤ nblk key.length ∧ nblk key.length ≤ 100 := by unfold nblk; omega
    obtain ⟨mo, hmo⟩ : ∃ mo, mo = nblk key.length := ⟨_, rfl⟩
    have HMO := hid (show mo = if (key.length : Int) > 64 then nblk key.length else 0 by rw [if_pos hl', hmo])
    have HBM := hid (fun W => show Calls Try.prog 24 #[.int .i64 key.length] W fun e w' => e = .returned (.int .i64 mo) ∧ W = w' from by rw [hmo]; exact prgBlk key.length W (by omega) (by omega))
    rw [← hmo] at hmb
    clear hmo
    go_enter Try.func7, Try.ntmps7
    go_wp2_with fail
    refine (Short_yes a c key.length w h1).mono ?_
    rintro e w' ⟨rfl, rfl⟩
    go_wp2_with fail
    refine (Short_yes a' c' b.length w h2).mono ?_
    rintro e w' ⟨rfl, rfl⟩
    go_wp2_with (at_builtin; (refine wpList_pour rfl _ _ 22 rfl .u8 w.heap.size 5 i0 1 Try.underlying22 hi hz0 hz1 hz2 (.slice none 0 0) [] rfl (OwnI.nil _ _ _ _) a c key rfl hc.1 (fun _ => True) hr (by simp; omega) (by omega) (Nat.le_refl _) ?_))
    intro v1 w1 hown1 hk1
    have kp1 : Keeps (fun _ => False) w w1 := hk1.mono (fun i _ h => by simp [Value.ownBlock] at h)
    obtain ⟨a1, c1, rfl, hc1, hr1⟩ := hown1.opened
    have hr1' : RowAt (fun _ => True) .u8 w1 a1 key := hr1.mono (fun _ _ _ => trivial)
    clear hown1 hk1 hr1
    go_wp2_with fail
    refine (prgSum256 a1 c1 key w1 (by omega) hc1 hr1').mono ?_
    rintro e w2 ⟨v2, rfl, hownk', hk2⟩
    have kpk : Keeps (fun _ => False) w w2 := kp1.trans hk2
    have hownk : OwnI .u8 5 w.heap.size w2 v2 (hkey0 key) := by rw [hkey0, if_pos hl]; exact hownk'.lower kp1.size
    go_wp2_with fail
    refine (HBM.out w2).mono ?_
    rintro e w' ⟨rfl, rfl⟩
    clear hk2 kp1 hr1' hc1 HBM hl hl'
    clear hownk'
    obtain ⟨k0, hk0⟩ : ∃ k0, k0 = hkey0 key := ⟨_, rfl⟩
    have HK0 := hid hk0
    have hk0l : k0.length ≤ 64 := by rw [hk0]; exact hkey0_len key
    rw [← hk0] at hownk
    clear hk0
    obtain ⟨a2, c2, rfl, hc2, hr2⟩ := hownk.opened
    have hge := kpk.size
    obtain ⟨z, hz⟩ : ∃ z : Nat, z = 64 - k0.length := ⟨_, rfl⟩
    have HZ := hid (show 64 - (k0.length : Int) = (z : Int) by omega)
    have hz64 : z ≤ 64 := by omega
    have HZN := hid hz
    clear hz hr2
    go_wp2_with (at_builtin; (refine wpList_zeros rfl _ _ 22 3 rfl .u8 .i64 .i64 w.heap.size 5 i0 Try.underlying22 Try.underlying3 hi hz0 hz1 (by omega) (by decide) (.slice a2 k0.length c2) k0 rfl hownk z (by first | rfl | (show Value.int .i64 _ = _; rw [HZ.out])) (by omega) hge ?_))
    intro v3 w3 ho3 hk3
    have hK : k0 ++ List.replicate z 0 = hkey key := by rw [hkey, ← HK0.out, hfill, HZN.out]
    rw [hK] at ho3
    obtain ⟨K, hKK⟩ : ∃ K, K = hkey key := ⟨_, rfl⟩
    have HKK := hid hKK
    have hKl : K.length = 64 := by rw [hKK]; exact hkey_len key
    rw [← hKK] at ho3
    have kp3 : Keeps (fun _ => False) w w3 := kpk.step hk3 (fun i hi hb => absurd (hownk.base i hb).1 (by omega))
    obtain ⟨g5, c5, rfl, hg5b, hg5l, _, _, hcell⟩ := ho3.look (by omega)
    have HCELL := hid hcell
    have HKl := hid hKl
    have hle := kp3.size
    rw [hKl]
    clear hcell hK hKK ho3 hk3 hKl hownk
    go_wp2_with fail
    go_loopw [7, 8, 42] (fun u v c wr => HmacXor K w3 u v c wr) (fun _ _ c _ => 64 - (intOf c).toNat)
    case atStart => exact ⟨0, rfl, by omega, OwnI.nil _ _ _ _, OwnI.nil _ _ _ _, fun g h => by simp [Value.ownBlock] at h, Keeps.refl _ _⟩
    case round =>
      obtain ⟨i, rfl, hi64, hu, hv, huv, hkx⟩ := hrel
      by_cases hi' : i < 64
      · have hi'' : (i : Int) < 64 := by omega
        have cx : wr.cell? ⟨g5, i, none⟩ = some (.int .u8 (K.getD i 0)) := (hkx.cell (p := ⟨g5, i, none⟩) hg5l (fun h => h)).trans (HCELL.out i (by rw [HKl.out]; exact hi'))
        have X1 := hid (xorAll_take 54 K i (by rw [HKl.out]; omega))
        have X2 := hid (xorAll_take 92 K i (by rw [HKl.out]; omega))
        generalize K.getD i 0 = zz at cx X1 X2
        have hlx := hkx.size
        go_wp2_with (at_builtin; (refine wpList_push_at rfl _ _ 22 rfl .u8 w3.heap.size 5 i0 1 Try.underlying22 hi hz0 hz1 hz2 u7 (xorAll 54 (K.take i)) (bits .xor .u8 zz 54) rfl hu rfl (wf_bits _ _ _ _) (by rw [xorAll_len, List.length_take]; omega) (by omega) hlx ?_))
        intro u' w4 hu3 hk3 hat3
        have hv3 := hv.keeps hk3 (fun g hg e => huv g e hg)
        have huv3 : ∀ g, u'.ownBlock = some g → u8.ownBlock ≠ some g := by
          intro g hg e
          rcases hat3 with h | ⟨g', h, hge⟩
          · exact huv g (h ▸ hg) e
          · rw [h] at hg; injection hg with hg; have := (hv.base g e).2; omega
        have hk3s : w3.heap.size ≤ w4.heap.size := by have := hk3.size; omega
        go_wp2_with (at_builtin; (refine wpList_push_at rfl _ _ 22 rfl .u8 w3.heap.size 5 i0 1 Try.underlying22 hi hz0 hz1 hz2 u8 (xorAll 92 (K.take i)) (bits .xor .u8 zz 92) rfl hv3 rfl (wf_bits _ _ _ _) (by rw [xorAll_len, List.length_take]; omega) (by omega) hk3s ?_))
        intro v' w5 hv4 hk4 hat4
        have hu4 := hu3.keeps hk4 (fun g hg e => huv3 g hg e)
        go_wp2
        go_roundw
        case rel =>
          rw [X1.out] at hu4
          rw [X2.out] at hv4
          refine ⟨i + 1, rfl, by omega, hu4, hv4, fun g hg e => ?_, (hkx.step hk3 (fun j hj h => absurd (hu.base j h).1 (by omega))).step hk4 (fun j hj h => absurd (hv3.base j h).1 (by omega))⟩
          rcases hat4 with h | ⟨g', h, hge⟩
          · exact huv3 g hg (h ▸ e)
          · rw [h] at e; injection e with e; have := (hu3.base g hg).2; omega
        case measure => simp [intOf]; omega
      · have h64 : i = 64 := by omega
        subst h64
        have hT : K.take 64 = K := List.take_of_length_le (by rw [HKl.out]; omega)
        rw [hT] at hu hv
        have hlx := hkx.size
        obtain ⟨wm, rfl⟩ : ∃ wm : World, wm = wr := ⟨_, rfl⟩
        have hrb := hrw'.keeps (kp3.trans hkx) (fun _ _ h => h)
        have hx1 : (xorAll 54 K).length = 64 := by rw [xorAll_len, HKl.out]
        have hx2 : (xorAll 92 K).length = 64 := by rw [xorAll_len, HKl.out]
        have HX1 := hid hx1; have HX2 := hid hx2
        clear hx1 hx2 hT
        go_wp2_with (at_builtin; (refine wpList_pour rfl _ _ 22 rfl .u8 w3.heap.size 5 i0 1 Try.underlying22 hi hz0 hz1 hz2 u7 (xorAll 54 K) rfl hu a' c' b rfl hc'.1 (· < w.heap.size) hrb (by rw [HX1.out]; omega) (by omega) hlx ?_))
        intro u9 w6 hu6 hk6
        have hv6 := hv.keeps hk6 (fun g hg e => huv g e hg)
        have kp6 : Keeps (fun _ => False) w w6 := (kp3.trans hkx).step hk6 (fun j hj h => absurd (hu.base j h).1 (by omega))
        obtain ⟨L1, hL1⟩ : ∃ L1, L1 = xorAll 54 K ++ b := ⟨_, rfl⟩
        rw [← hL1] at hu6
        have hl1 : L1.length = 64 + b.length := by rw [hL1, List.length_append, HX1.out]
        have hl1' : L1.length ≤ 1000 := by omega
        have HL1 := hid hL1
        have HL1l := hid hl1
        clear hL1 hl1
        obtain ⟨ain, cin, rfl, hcin, hrin⟩ := hu6.opened
        have hk6s : w3.heap.size ≤ w6.heap.size := by have := hk6.size; omega
        go_wp2_with fail
        refine (prgSum256 ain cin L1 w6 (by omega) hcin (hrin.mono (fun _ _ _ => trivial))).mono ?_
        rintro e w7 ⟨v7, rfl, ho7, hk7⟩
        obtain ⟨S1, hS1⟩ : ∃ S1, S1 = sha256 L1 := ⟨_, rfl⟩
        rw [← hS1] at ho7
        have hs1 : S1.length = 32 := by rw [hS1, sha256_length]
        have HS1 := hid hS1
        have HS1l := hid hs1
        have hs1' : S1.length ≤ 32 := by omega
        clear hS1 hs1
        obtain ⟨a9, c9, rfl, hc9, hr9⟩ := ho7.opened
        have hv7 := hv6.keeps hk7 (fun _ _ h => h)
        have hk7s : w3.heap.size ≤ w7.heap.size := by have := hk7.size; omega
        go_wp2_with (at_builtin; (refine wpList_pour rfl _ _ 22 rfl .u8 w3.heap.size 5 i0 1 Try.underlying22 hi hz0 hz1 hz2 u8 (xorAll 92 K) rfl hv7 a9 c9 S1 rfl hc9.1 (w6.heap.size ≤ ·) hr9 (by rw [HX2.out]; omega) (by omega) hk7s ?_))
        intro v8 w8 ho8 hk8
        have kp : Keeps (fun _ => False) w w8 := (kp6.trans hk7).step hk8 (fun j hj h => absurd (hv7.base j h).1 (by omega))
        obtain ⟨L2, hL2⟩ : ∃ L2, L2 = xorAll 92 K ++ S1 := ⟨_, rfl⟩
        rw [← hL2] at ho8
        have hl2 : L2.length = 96 := by rw [hL2, List.length_append, HX2.out, HS1l.out]
        have hl2' : L2.length ≤ 1000 := by omega
        have HMAC := hid (show hmac key b = sha256 L2 by rw [hmac, hL2, HS1.out, HL1.out, HKK.out])
        have HL2l := hid hl2
        clear hL2 hl2
        obtain ⟨aout, cout, rfl, hcout, hrout'⟩ := ho8.opened
        have hrout : RowAt (fun _ => True) .u8 w8 aout L2 := hrout'.mono (fun _ _ _ => trivial)
        have hx : 0 ≤ nblk (64 + (b.length : Int)) ∧ nblk (64 + (b.length : Int)) ≤ 100 := by unfold nblk; omega
        have hy : 0 ≤ nblk 96 ∧ nblk 96 ≤ 10 := by unfold nblk; omega
        obtain ⟨x, hxx⟩ : ∃ x, x = nblk (64 + (b.length : Int)) := ⟨_, rfl⟩
        obtain ⟨y, hyy⟩ : ∃ y, y = nblk 96 := ⟨_, rfl⟩
        have HCALLS := hid (fun W => show Calls Try.prog 19 #[.int .i64 key.length, .int .i64 b.length] W fun e w' => e = .returned (.int .i64 (x + y + mo)) ∧ W = w' from by
          have h := prgCalls_any key.length b.length W (by omega) (by omega) (by omega)
          rwa [kcalls, ← hxx, ← hyy, ← HMO.out] at h)
        have HBX := hid (fun W => show Calls Try.prog 24 #[.int .i64 L1.length] W fun e w' => e = .returned (.int .i64 x) ∧ W = w' from by
          have h := prgBlk L1.length W (by omega) (by omega)
          rwa [show (L1.length : Int) = 64 + (b.length : Int) by have := HL1l.out; omega, ← hxx, show 64 + (b.length : Int) = (L1.length : Int) by have := HL1l.out; omega] at h)
        have HBY := hid (fun W => show Calls Try.prog 24 #[.int .i64 L2.length] W fun e w' => e = .returned (.int .i64 y) ∧ W = w' from by
          have h := prgBlk L2.length W (by omega) (by omega)
          rwa [show (L2.length : Int) = 96 by have := HL2l.out; omega, ← hyy, show (96 : Int) = (L2.length : Int) by have := HL2l.out; omega] at h)
        rw [← hxx] at hx
        rw [← hyy] at hy
        have HXY := hid (show IntKind.i64.wrap (x + y) = x + y from IntWalk.i64_in _ (by omega))
        have HXYZ := hid (show IntKind.i64.wrap (x + y + mo) = x + y + mo from IntWalk.i64_in _ (by omega))
        clear hxx hyy hx hy hrout' hrin hr9 hu6 hv6 hv7 ho7 ho8 hk6 hk7 hk8 hu hv hkx
        go_wp2_with fail
        rename_i K' hK'
        refine wp_region_relV 92 (by kernel_rfl) rfl (by kernel_rfl)
          [Is (.slice a key.length c), Is (.slice a' b.length c'), RowIs .u8 (hmac key b), Is (.string (strOfNums (hmac key b))), Is (.slice aout L2.length cout), RowIs .u8 (hmac key b), Is (.string (strOfNums (hmac key b))), Is (.bool true), Is (.bool true), Is (.slice a key.length c), Is (.int .i64 key.length), Is (.slice a' b.length c'), Is (.int .i64 b.length), Is (.int .i64 (x + y + mo)), Is (.slice ain L1.length cin), Is (.int .i64 L1.length), Is (.int .i64 x), Is (.slice aout L2.length cout), Is (.int .i64 L2.length), Is (.int .i64 y), Is (.int .i64 (x + y)), Is (.int .i64 mo), Is (.int .i64 (x + y + mo)), Is (.bool true), Is (.bool true), Is (.bool true), Is (.bool true), Is (.bool true), Is (.bool true)]
          ⟨Is.lasts _, Is.lasts _, RowIs.lasts _ _, Is.lasts _, Is.lasts _, RowIs.lasts _ _, Is.lasts _, Is.lasts _, Is.lasts _, Is.lasts _, Is.lasts _, Is.lasts _, Is.lasts _, Is.lasts _, Is.lasts _, Is.lasts _, Is.lasts _, Is.lasts _, Is.lasts _, Is.lasts _, Is.lasts _, Is.lasts _, Is.lasts _, Is.lasts _, Is.lasts _, Is.lasts _, Is.lasts _, Is.lasts _, Is.lasts _, trivial⟩
          ⟨?_, ?_, ?_, ?_, ?_, ?_, ?_, ?_, ?_, ?_, ?_, ?_, ?_, ?_, ?_, ?_, ?_, ?_, ?_, ?_, ?_, ?_, ?_, ?_, ?_, ?_, ?_, ?_, ?_, trivial⟩ ?_
        · intro A W H
          have e0 : (A.tmps[0]?).getD undef = (.slice a key.length c) := H.slot' 0 rfl
          exact st_val rfl (v := (.slice a key.length c)) (by simp [go_sem, e0]) rfl
        · intro A W H
          have e1 : (A.tmps[1]?).getD undef = (.slice a' b.length c') := H.slot' 1 rfl
          exact st_val rfl (v := (.slice a' b.length c')) (by simp [go_sem, e1]) rfl
        · intro A W H
          have e64 : (A.tmps[64]?).getD undef = (.slice a key.length c) := H.has 0 64 rfl rfl
          have e65 : (A.tmps[65]?).getD undef = (.slice a' b.length c') := H.has 1 65 rfl rfl
          refine st_call rfl (f := 13) (args := #[.slice a key.length c, .slice a' b.length c']) (by simp [go_sem, e64, e65]) ?_
          refine (prgHMAC_any a c key a' c' b W (by omega) (by omega) hc (hr.keeps (kp.trans H.more) (fun _ _ h => h)) hc' (hr'.keeps (kp.trans H.more) (fun _ _ h => h))).mono ?_
          rintro e w' ⟨v, rfl, hown, hk⟩
          exact ⟨v, rfl, hk, hown.rowIs⟩
        · intro A W H
          obtain ⟨a66, c66, e66, hc66, hr66⟩ := H.has 2 66 rfl rfl
          refine st_val rfl (v := .string (strOfNums (hmac key b))) ?_ rfl
          have cv := conv_str (P := Try.prog) 22 5 9 Try.underlying22 Try.underlying5 Try.underlying9 (c := c66) hr66
          simp [go_sem, e66, cv]
        · intro A W H
          have e12 : (A.tmps[12]?).getD undef = (.slice aout L2.length cout) := H.slot' 12 rfl
          exact st_val rfl (v := (.slice aout L2.length cout)) (by simp [go_sem, e12]) rfl
        · intro A W H
          have e68 : (A.tmps[68]?).getD undef = (.slice aout L2.length cout) := H.has 4 68 rfl rfl
          refine st_call rfl (f := 23) (args := #[.slice aout L2.length cout]) (by simp [go_sem, e68]) ?_
          refine (prgSum256 aout cout L2 W (by omega) hcout (hrout.keeps H.more (fun _ _ h => h))).mono ?_
          rintro e w' ⟨v, rfl, hown, hk⟩
          exact ⟨v, rfl, hk, by rw [HMAC.out]; exact hown.rowIs⟩
        · intro A W H
          obtain ⟨a69, c69, e69, hc69, hr69⟩ := H.has 5 69 rfl rfl
          refine st_val rfl (v := .string (strOfNums (hmac key b))) ?_ rfl
          have cv := conv_str (P := Try.prog) 22 5 9 Try.underlying22 Try.underlying5 Try.underlying9 (c := c69) hr69
          simp [go_sem, e69, cv]
        · intro A W H
          have e67 : (A.tmps[67]?).getD undef = (.string (strOfNums (hmac key b))) := H.has 3 67 rfl rfl
          have e70 : (A.tmps[70]?).getD undef = (.string (strOfNums (hmac key b))) := H.has 6 70 rfl rfl
          exact st_val rfl (v := .bool true) (by simp [go_sem, e67, e70]) rfl
        · intro A W H
          have e71 : (A.tmps[71]?).getD undef = (.bool true) := H.has 7 71 rfl rfl
          exact st_val rfl (v := (.bool true)) (by simp [go_sem, e71]) rfl
        · intro A W H
          have e0 : (A.tmps[0]?).getD undef = (.slice a key.length c) := H.slot' 0 rfl
          exact st_val (want_of rfl rfl (H.has 8 72 rfl rfl)) (v := (.slice a key.length c)) (by simp [go_sem, e0]) rfl
        · intro A W H
          have e73 : (A.tmps[73]?).getD undef = (.slice a key.length c) := H.has 9 73 rfl rfl
          exact st_val (want_of rfl rfl (H.has 8 72 rfl rfl)) (v := (.int .i64 key.length)) (by simp [go_sem, e73]) rfl
        · intro A W H
          have e1 : (A.tmps[1]?).getD undef = (.slice a' b.length c') := H.slot' 1 rfl
          exact st_val (want_of rfl rfl (H.has 8 72 rfl rfl)) (v := (.slice a' b.length c')) (by simp [go_sem, e1]) rfl
        · intro A W H
          have e75 : (A.tmps[75]?).getD undef = (.slice a' b.length c') := H.has 11 75 rfl rfl
          exact st_val (want_of rfl rfl (H.has 8 72 rfl rfl)) (v := (.int .i64 b.length)) (by simp [go_sem, e75]) rfl
        · intro A W H
          have e74 : (A.tmps[74]?).getD undef = (.int .i64 key.length) := H.has 10 74 rfl rfl
          have e76 : (A.tmps[76]?).getD undef = (.int .i64 b.length) := H.has 12 76 rfl rfl
          refine st_call (want_of rfl rfl (H.has 8 72 rfl rfl)) (f := 19) (args := #[.int .i64 key.length, .int .i64 b.length]) (by simp [go_sem, e74, e76]) ?_
          exact (HCALLS.out W).mono fun e w' ⟨he, hk⟩ => ⟨_, he, hk ▸ More.refl _, rfl⟩
        · intro A W H
          have e11 : (A.tmps[11]?).getD undef = (.slice ain L1.length cin) := H.slot' 11 rfl
          exact st_val (want_of rfl rfl (H.has 8 72 rfl rfl)) (v := (.slice ain L1.length cin)) (by simp [go_sem, e11]) rfl
        · intro A W H
          have e78 : (A.tmps[78]?).getD undef = (.slice ain L1.length cin) := H.has 14 78 rfl rfl
          exact st_val (want_of rfl rfl (H.has 8 72 rfl rfl)) (v := (.int .i64 L1.length)) (by simp [go_sem, e78]) rfl
        · intro A W H
          have e79 : (A.tmps[79]?).getD undef = (.int .i64 L1.length) := H.has 15 79 rfl rfl
          refine st_call (want_of rfl rfl (H.has 8 72 rfl rfl)) (f := 24) (args := #[.int .i64 L1.length]) (by simp [go_sem, e79]) ?_
          exact (HBX.out W).mono fun e w' ⟨he, hk⟩ => ⟨_, he, hk ▸ More.refl _, rfl⟩
        · intro A W H
          have e12 : (A.tmps[12]?).getD undef = (.slice aout L2.length cout) := H.slot' 12 rfl
          exact st_val (want_of rfl rfl (H.has 8 72 rfl rfl)) (v := (.slice aout L2.length cout)) (by simp [go_sem, e12]) rfl
        · intro A W H
          have e81 : (A.tmps[81]?).getD undef = (.slice aout L2.length cout) := H.has 17 81 rfl rfl
          exact st_val (want_of rfl rfl (H.has 8 72 rfl rfl)) (v := (.int .i64 L2.length)) (by simp [go_sem, e81]) rfl
        · intro A W H
          have e82 : (A.tmps[82]?).getD undef = (.int .i64 L2.length) := H.has 18 82 rfl rfl
          refine st_call (want_of rfl rfl (H.has 8 72 rfl rfl)) (f := 24) (args := #[.int .i64 L2.length]) (by simp [go_sem, e82]) ?_
          exact (HBY.out W).mono fun e w' ⟨he, hk⟩ => ⟨_, he, hk ▸ More.refl _, rfl⟩
        · intro A W H
          have e80 : (A.tmps[80]?).getD undef = (.int .i64 x) := H.has 16 80 rfl rfl
          have e83 : (A.tmps[83]?).getD undef = (.int .i64 y) := H.has 19 83 rfl rfl
          exact st_val (want_of rfl rfl (H.has 8 72 rfl rfl)) (v := (.int .i64 (x + y))) (by simp [go_sem, e80, e83, HXY.out]) rfl
        · intro A W H
          have e6 : (A.tmps[6]?).getD undef = (.int .i64 mo) := H.slot' 6 rfl
          exact st_val (want_of rfl rfl (H.has 8 72 rfl rfl)) (v := (.int .i64 mo)) (by simp [go_sem, e6]) rfl
        · intro A W H
          have e84 : (A.tmps[84]?).getD undef = (.int .i64 (x + y)) := H.has 20 84 rfl rfl
          have e85 : (A.tmps[85]?).getD undef = (.int .i64 mo) := H.has 21 85 rfl rfl
          exact st_val (want_of rfl rfl (H.has 8 72 rfl rfl)) (v := (.int .i64 (x + y + mo))) (by simp [go_sem, e84, e85, HXYZ.out]) rfl
        · intro A W H
          have e77 : (A.tmps[77]?).getD undef = (.int .i64 (x + y + mo)) := H.has 13 77 rfl rfl
          have e86 : (A.tmps[86]?).getD undef = (.int .i64 (x + y + mo)) := H.has 22 86 rfl rfl
          exact st_val (want_of rfl rfl (H.has 8 72 rfl rfl)) (v := .bool true) (by simp [go_sem, e77, e86]) rfl
        · intro A W H
          have e72 : (A.tmps[72]?).getD undef = (.bool true) := H.has 8 72 rfl rfl
          have e87 : (A.tmps[87]?).getD undef = (.bool true) := H.has 23 87 rfl rfl
          exact st_val rfl (v := .bool true) (by simp [go_sem, e72, e87]) rfl
        · intro A W H
          have e88 : (A.tmps[88]?).getD undef = (.bool true) := H.has 24 88 rfl rfl
          exact st_val rfl (v := (.bool true)) (by simp [go_sem, e88]) rfl
        · intro A W H
          refine st_call (want_of rfl rfl (H.has 25 89 rfl rfl)) (f := 10) (args := #[]) (by simp [go_sem]) ?_
          exact (HA.out W).mono fun e w' ⟨he, hk⟩ => ⟨_, he, hk, rfl⟩
        · intro A W H
          have e89 : (A.tmps[89]?).getD undef = (.bool true) := H.has 25 89 rfl rfl
          have e90 : (A.tmps[90]?).getD undef = (.bool true) := H.has 26 90 rfl rfl
          exact st_val rfl (v := .bool true) (by simp [go_sem, e89, e90]) rfl
        · intro A W H
          have e91 : (A.tmps[91]?).getD undef = (.bool true) := H.has 27 91 rfl rfl
          exact st_val rfl (v := (.bool true)) (by simp [go_sem, e91]) rfl
        · intro A W H
          exact hK' A W (held_ret H rfl 4 rfl (H.has 28 4 rfl trivial) ⟨rfl, Keeps.trans kp H.more⟩)
  · have hl' : ¬ (key.length : Int) > 64 := by omega
    obtain ⟨mo, hmo⟩ : ∃ mo : Int, mo = 0 := ⟨_, rfl⟩
    have HMO := hid (show mo = if (key.length : Int) > 64 then nblk key.length else 0 by rw [if_neg hl', hmo])
    have hmb : 0 ≤ mo ∧ mo ≤ 100 := by omega
    have HM0 := hid hmo
    clear hmo
    go_enter Try.func7, Try.ntmps7
    go_wp2_with fail
    refine (Short_yes a c key.length w h1).mono ?_
    rintro e w' ⟨rfl, rfl⟩
    go_wp2_with fail
    refine (Short_yes a' c' b.length w h2).mono ?_
    rintro e w' ⟨rfl, rfl⟩
    go_wp2_with (at_builtin; (refine wpList_pour rfl _ _ 22 rfl .u8 w.heap.size 5 i0 1 Try.underlying22 hi hz0 hz1 hz2 (.slice none 0 0) [] rfl (OwnI.nil _ _ _ _) a c key rfl hc.1 (fun _ => True) hr (by simp; omega) (by omega) (Nat.le_refl _) ?_))
    intro v1 w2 hownk' hk1
    have kpk : Keeps (fun _ => False) w w2 := hk1.mono (fun i _ h => by simp [Value.ownBlock] at h)
    have hownk : OwnI .u8 5 w.heap.size w2 v1 (hkey0 key) := by rw [hkey0, if_neg hl]; exact hownk'
    clear hk1 hl hl'
    rw [← HM0.out]
    clear hownk'
    obtain ⟨k0, hk0⟩ : ∃ k0, k0 = hkey0 key := ⟨_, rfl⟩
    have HK0 := hid hk0
    have hk0l : k0.length ≤ 64 := by rw [hk0]; exact hkey0_len key
    rw [← hk0] at hownk
    clear hk0
    obtain ⟨a2, c2, rfl, hc2, hr2⟩ := hownk.opened
    have hge := kpk.size
    obtain ⟨z, hz⟩ : ∃ z : Nat, z = 64 - k0.length := ⟨_, rfl⟩
    have HZ := hid (show 64 - (k0.length : Int) = (z : Int) by omega)
    have hz64 : z ≤ 64 := by omega
    have HZN := hid hz
    clear hz hr2
    go_wp2_with (at_builtin; (refine wpList_zeros rfl _ _ 22 3 rfl .u8 .i64 .i64 w.heap.size 5 i0 Try.underlying22 Try.underlying3 hi hz0 hz1 (by omega) (by decide) (.slice a2 k0.length c2) k0 rfl hownk z (by first | rfl | (show Value.int .i64 _ = _; rw [HZ.out])) (by omega) hge ?_))
    intro v3 w3 ho3 hk3
    have hK : k0 ++ List.replicate z 0 = hkey key := by rw [hkey, ← HK0.out, hfill, HZN.out]
    rw [hK] at ho3
    obtain ⟨K, hKK⟩ : ∃ K, K = hkey key := ⟨_, rfl⟩
    have HKK := hid hKK
    have hKl : K.length = 64 := by rw [hKK]; exact hkey_len key
    rw [← hKK] at ho3
    have kp3 : Keeps (fun _ => False) w w3 := kpk.step hk3 (fun i hi hb => absurd (hownk.base i hb).1 (by omega))
    obtain ⟨g5, c5, rfl, hg5b, hg5l, _, _, hcell⟩ := ho3.look (by omega)
    have HCELL := hid hcell
    have HKl := hid hKl
    have hle := kp3.size
    rw [hKl]
    clear hcell hK hKK ho3 hk3 hKl hownk
    go_wp2_with fail
    go_loopw [7, 8, 42] (fun u v c wr => HmacXor K w3 u v c wr) (fun _ _ c _ => 64 - (intOf c).toNat)
    case atStart => exact ⟨0, rfl, by omega, OwnI.nil _ _ _ _, OwnI.nil _ _ _ _, fun g h => by simp [Value.ownBlock] at h, Keeps.refl _ _⟩
    case round =>
      obtain ⟨i, rfl, hi64, hu, hv, huv, hkx⟩ := hrel
      by_cases hi' : i < 64
      · have hi'' : (i : Int) < 64 := by omega
        have cx : wr.cell? ⟨g5, i, none⟩ = some (.int .u8 (K.getD i 0)) := (hkx.cell (p := ⟨g5, i, none⟩) hg5l (fun h => h)).trans (HCELL.out i (by rw [HKl.out]; exact hi'))
        have X1 := hid (xorAll_take 54 K i (by rw [HKl.out]; omega))
        have X2 := hid (xorAll_take 92 K i (by rw [HKl.out]; omega))
        generalize K.getD i 0 = zz at cx X1 X2
        have hlx := hkx.size
        go_wp2_with (at_builtin; (refine wpList_push_at rfl _ _ 22 rfl .u8 w3.heap.size 5 i0 1 Try.underlying22 hi hz0 hz1 hz2 u7 (xorAll 54 (K.take i)) (bits .xor .u8 zz 54) rfl hu rfl (wf_bits _ _ _ _) (by rw [xorAll_len, List.length_take]; omega) (by omega) hlx ?_))
        intro u' w4 hu3 hk3 hat3
        have hv3 := hv.keeps hk3 (fun g hg e => huv g e hg)
        have huv3 : ∀ g, u'.ownBlock = some g → u8.ownBlock ≠ some g := by
          intro g hg e
          rcases hat3 with h | ⟨g', h, hge⟩
          · exact huv g (h ▸ hg) e
          · rw [h] at hg; injection hg with hg; have := (hv.base g e).2; omega
        have hk3s : w3.heap.size ≤ w4.heap.size := by have := hk3.size; omega
        go_wp2_with (at_builtin; (refine wpList_push_at rfl _ _ 22 rfl .u8 w3.heap.size 5 i0 1 Try.underlying22 hi hz0 hz1 hz2 u8 (xorAll 92 (K.take i)) (bits .xor .u8 zz 92) rfl hv3 rfl (wf_bits _ _ _ _) (by rw [xorAll_len, List.length_take]; omega) (by omega) hk3s ?_))
        intro v' w5 hv4 hk4 hat4
        have hu4 := hu3.keeps hk4 (fun g hg e => huv3 g hg e)
        go_wp2
        go_roundw
        case rel =>
          rw [X1.out] at hu4
          rw [X2.out] at hv4
          refine ⟨i + 1, rfl, by omega, hu4, hv4, fun g hg e => ?_, (hkx.step hk3 (fun j hj h => absurd (hu.base j h).1 (by omega))).step hk4 (fun j hj h => absurd (hv3.base j h).1 (by omega))⟩
          rcases hat4 with h | ⟨g', h, hge⟩
          · exact huv3 g hg (h ▸ e)
          · rw [h] at e; injection e with e; have := (hu3.base g hg).2; omega
        case measure => simp [intOf]; omega
      · have h64 : i = 64 := by omega
        subst h64
        have hT : K.take 64 = K := List.take_of_length_le (by rw [HKl.out]; omega)
        rw [hT] at hu hv
        have hlx := hkx.size
        obtain ⟨wm, rfl⟩ : ∃ wm : World, wm = wr := ⟨_, rfl⟩
        have hrb := hrw'.keeps (kp3.trans hkx) (fun _ _ h => h)
        have hx1 : (xorAll 54 K).length = 64 := by rw [xorAll_len, HKl.out]
        have hx2 : (xorAll 92 K).length = 64 := by rw [xorAll_len, HKl.out]
        have HX1 := hid hx1; have HX2 := hid hx2
        clear hx1 hx2 hT
        go_wp2_with (at_builtin; (refine wpList_pour rfl _ _ 22 rfl .u8 w3.heap.size 5 i0 1 Try.underlying22 hi hz0 hz1 hz2 u7 (xorAll 54 K) rfl hu a' c' b rfl hc'.1 (· < w.heap.size) hrb (by rw [HX1.out]; omega) (by omega) hlx ?_))
        intro u9 w6 hu6 hk6
        have hv6 := hv.keeps hk6 (fun g hg e => huv g e hg)
        have kp6 : Keeps (fun _ => False) w w6 := (kp3.trans hkx).step hk6 (fun j hj h => absurd (hu.base j h).1 (by omega))
        obtain ⟨L1, hL1⟩ : ∃ L1, L1 = xorAll 54 K ++ b := ⟨_, rfl⟩
        rw [← hL1] at hu6
        have hl1 : L1.length = 64 + b.length := by rw [hL1, List.length_append, HX1.out]
        have hl1' : L1.length ≤ 1000 := by omega
        have HL1 := hid hL1
        have HL1l := hid hl1
        clear hL1 hl1
        obtain ⟨ain, cin, rfl, hcin, hrin⟩ := hu6.opened
        have hk6s : w3.heap.size ≤ w6.heap.size := by have := hk6.size; omega
        go_wp2_with fail
        refine (prgSum256 ain cin L1 w6 (by omega) hcin (hrin.mono (fun _ _ _ => trivial))).mono ?_
        rintro e w7 ⟨v7, rfl, ho7, hk7⟩
        obtain ⟨S1, hS1⟩ : ∃ S1, S1 = sha256 L1 := ⟨_, rfl⟩
        rw [← hS1] at ho7
        have hs1 : S1.length = 32 := by rw [hS1, sha256_length]
        have HS1 := hid hS1
        have HS1l := hid hs1
        have hs1' : S1.length ≤ 32 := by omega
        clear hS1 hs1
        obtain ⟨a9, c9, rfl, hc9, hr9⟩ := ho7.opened
        have hv7 := hv6.keeps hk7 (fun _ _ h => h)
        have hk7s : w3.heap.size ≤ w7.heap.size := by have := hk7.size; omega
        go_wp2_with (at_builtin; (refine wpList_pour rfl _ _ 22 rfl .u8 w3.heap.size 5 i0 1 Try.underlying22 hi hz0 hz1 hz2 u8 (xorAll 92 K) rfl hv7 a9 c9 S1 rfl hc9.1 (w6.heap.size ≤ ·) hr9 (by rw [HX2.out]; omega) (by omega) hk7s ?_))
        intro v8 w8 ho8 hk8
        have kp : Keeps (fun _ => False) w w8 := (kp6.trans hk7).step hk8 (fun j hj h => absurd (hv7.base j h).1 (by omega))
        obtain ⟨L2, hL2⟩ : ∃ L2, L2 = xorAll 92 K ++ S1 := ⟨_, rfl⟩
        rw [← hL2] at ho8
        have hl2 : L2.length = 96 := by rw [hL2, List.length_append, HX2.out, HS1l.out]
        have hl2' : L2.length ≤ 1000 := by omega
        have HMAC := hid (show hmac key b = sha256 L2 by rw [hmac, hL2, HS1.out, HL1.out, HKK.out])
        have HL2l := hid hl2
        clear hL2 hl2
        obtain ⟨aout, cout, rfl, hcout, hrout'⟩ := ho8.opened
        have hrout : RowAt (fun _ => True) .u8 w8 aout L2 := hrout'.mono (fun _ _ _ => trivial)
        have hx : 0 ≤ nblk (64 + (b.length : Int)) ∧ nblk (64 + (b.length : Int)) ≤ 100 := by unfold nblk; omega
        have hy : 0 ≤ nblk 96 ∧ nblk 96 ≤ 10 := by unfold nblk; omega
        obtain ⟨x, hxx⟩ : ∃ x, x = nblk (64 + (b.length : Int)) := ⟨_, rfl⟩
        obtain ⟨y, hyy⟩ : ∃ y, y = nblk 96 := ⟨_, rfl⟩
        have HCALLS := hid (fun W => show Calls Try.prog 19 #[.int .i64 key.length, .int .i64 b.length] W fun e w' => e = .returned (.int .i64 (x + y + mo)) ∧ W = w' from by
          have h := prgCalls_any key.length b.length W (by omega) (by omega) (by omega)
          rwa [kcalls, ← hxx, ← hyy, ← HMO.out] at h)
        have HBX := hid (fun W => show Calls Try.prog 24 #[.int .i64 L1.length] W fun e w' => e = .returned (.int .i64 x) ∧ W = w' from by
          have h := prgBlk L1.length W (by omega) (by omega)
          rwa [show (L1.length : Int) = 64 + (b.length : Int) by have := HL1l.out; omega, ← hxx, show 64 + (b.length : Int) = (L1.length : Int) by have := HL1l.out; omega] at h)
        have HBY := hid (fun W => show Calls Try.prog 24 #[.int .i64 L2.length] W fun e w' => e = .returned (.int .i64 y) ∧ W = w' from by
          have h := prgBlk L2.length W (by omega) (by omega)
          rwa [show (L2.length : Int) = 96 by have := HL2l.out; omega, ← hyy, show (96 : Int) = (L2.length : Int) by have := HL2l.out; omega] at h)
        rw [← hxx] at hx
        rw [← hyy] at hy
        have HXY := hid (show IntKind.i64.wrap (x + y) = x + y from IntWalk.i64_in _ (by omega))
        have HXYZ := hid (show IntKind.i64.wrap (x + y + mo) = x + y + mo from IntWalk.i64_in _ (by omega))
        clear hxx hyy hx hy hrout' hrin hr9 hu6 hv6 hv7 ho7 ho8 hk6 hk7 hk8 hu hv hkx
        go_wp2_with fail
        rename_i K' hK'
        refine wp_region_relV 92 (by kernel_rfl) rfl (by kernel_rfl)
          [Is (.slice a key.length c), Is (.slice a' b.length c'), RowIs .u8 (hmac key b), Is (.string (strOfNums (hmac key b))), Is (.slice aout L2.length cout), RowIs .u8 (hmac key b), Is (.string (strOfNums (hmac key b))), Is (.bool true), Is (.bool true), Is (.slice a key.length c), Is (.int .i64 key.length), Is (.slice a' b.length c'), Is (.int .i64 b.length), Is (.int .i64 (x + y + mo)), Is (.slice ain L1.length cin), Is (.int .i64 L1.length), Is (.int .i64 x), Is (.slice aout L2.length cout), Is (.int .i64 L2.length), Is (.int .i64 y), Is (.int .i64 (x + y)), Is (.int .i64 mo), Is (.int .i64 (x + y + mo)), Is (.bool true), Is (.bool true), Is (.bool true), Is (.bool true), Is (.bool true), Is (.bool true)]
          ⟨Is.lasts _, Is.lasts _, RowIs.lasts _ _, Is.lasts _, Is.lasts _, RowIs.lasts _ _, Is.lasts _, Is.lasts _, Is.lasts _, Is.lasts _, Is.lasts _, Is.lasts _, Is.lasts _, Is.lasts _, Is.lasts _, Is.lasts _, Is.lasts _, Is.lasts _, Is.lasts _, Is.lasts _, Is.lasts _, Is.lasts _, Is.lasts _, Is.lasts _, Is.lasts _, Is.lasts _, Is.lasts _, Is.lasts _, Is.lasts _, trivial⟩
          ⟨?_, ?_, ?_, ?_, ?_, ?_, ?_, ?_, ?_, ?_, ?_, ?_, ?_, ?_, ?_, ?_, ?_, ?_, ?_, ?_, ?_, ?_, ?_, ?_, ?_, ?_, ?_, ?_, ?_, trivial⟩ ?_
        · intro A W H
          have e0 : (A.tmps[0]?).getD undef = (.slice a key.length c) := H.slot' 0 rfl
          exact st_val rfl (v := (.slice a key.length c)) (by simp [go_sem, e0]) rfl
        · intro A W H
          have e1 : (A.tmps[1]?).getD undef = (.slice a' b.length c') := H.slot' 1 rfl
          exact st_val rfl (v := (.slice a' b.length c')) (by simp [go_sem, e1]) rfl
        · intro A W H
          have e64 : (A.tmps[64]?).getD undef = (.slice a key.length c) := H.has 0 64 rfl rfl
          have e65 : (A.tmps[65]?).getD undef = (.slice a' b.length c') := H.has 1 65 rfl rfl
          refine st_call rfl (f := 13) (args := #[.slice a key.length c, .slice a' b.length c']) (by simp [go_sem, e64, e65]) ?_
          refine (prgHMAC_any a c key a' c' b W (by omega) (by omega) hc (hr.keeps (kp.trans H.more) (fun _ _ h => h)) hc' (hr'.keeps (kp.trans H.more) (fun _ _ h => h))).mono ?_
          rintro e w' ⟨v, rfl, hown, hk⟩
          exact ⟨v, rfl, hk, hown.rowIs⟩
        · intro A W H
          obtain ⟨a66, c66, e66, hc66, hr66⟩ := H.has 2 66 rfl rfl
          refine st_val rfl (v := .string (strOfNums (hmac key b))) ?_ rfl
          have cv := conv_str (P := Try.prog) 22 5 9 Try.underlying22 Try.underlying5 Try.underlying9 (c := c66) hr66
          simp [go_sem, e66, cv]
        · intro A W H
          have e12 : (A.tmps[12]?).getD undef = (.slice aout L2.length cout) := H.slot' 12 rfl
          exact st_val rfl (v := (.slice aout L2.length cout)) (by simp [go_sem, e12]) rfl
        · intro A W H
          have e68 : (A.tmps[68]?).getD undef = (.slice aout L2.length cout) := H.has 4 68 rfl rfl
          refine st_call rfl (f := 23) (args := #[.slice aout L2.length cout]) (by simp [go_sem, e68]) ?_
          refine (prgSum256 aout cout L2 W (by omega) hcout (hrout.keeps H.more (fun _ _ h => h))).mono ?_
          rintro e w' ⟨v, rfl, hown, hk⟩
          exact ⟨v, rfl, hk, by rw [HMAC.out]; exact hown.rowIs⟩
        · intro A W H
          obtain ⟨a69, c69, e69, hc69, hr69⟩ := H.has 5 69 rfl rfl
          refine st_val rfl (v := .string (strOfNums (hmac key b))) ?_ rfl
          have cv := conv_str (P := Try.prog) 22 5 9 Try.underlying22 Try.underlying5 Try.underlying9 (c := c69) hr69
          simp [go_sem, e69, cv]
        · intro A W H
          have e67 : (A.tmps[67]?).getD undef = (.string (strOfNums (hmac key b))) := H.has 3 67 rfl rfl
          have e70 : (A.tmps[70]?).getD undef = (.string (strOfNums (hmac key b))) := H.has 6 70 rfl rfl
          exact st_val rfl (v := .bool true) (by simp [go_sem, e67, e70]) rfl
        · intro A W H
          have e71 : (A.tmps[71]?).getD undef = (.bool true) := H.has 7 71 rfl rfl
          exact st_val rfl (v := (.bool true)) (by simp [go_sem, e71]) rfl
        · intro A W H
          have e0 : (A.tmps[0]?).getD undef = (.slice a key.length c) := H.slot' 0 rfl
          exact st_val (want_of rfl rfl (H.has 8 72 rfl rfl)) (v := (.slice a key.length c)) (by simp [go_sem, e0]) rfl
        · intro A W H
          have e73 : (A.tmps[73]?).getD undef = (.slice a key.length c) := H.has 9 73 rfl rfl
          exact st_val (want_of rfl rfl (H.has 8 72 rfl rfl)) (v := (.int .i64 key.length)) (by simp [go_sem, e73]) rfl
        · intro A W H
          have e1 : (A.tmps[1]?).getD undef = (.slice a' b.length c') := H.slot' 1 rfl
          exact st_val (want_of rfl rfl (H.has 8 72 rfl rfl)) (v := (.slice a' b.length c')) (by simp [go_sem, e1]) rfl
        · intro A W H
          have e75 : (A.tmps[75]?).getD undef = (.slice a' b.length c') := H.has 11 75 rfl rfl
          exact st_val (want_of rfl rfl (H.has 8 72 rfl rfl)) (v := (.int .i64 b.length)) (by simp [go_sem, e75]) rfl
        · intro A W H
          have e74 : (A.tmps[74]?).getD undef = (.int .i64 key.length) := H.has 10 74 rfl rfl
          have e76 : (A.tmps[76]?).getD undef = (.int .i64 b.length) := H.has 12 76 rfl rfl
          refine st_call (want_of rfl rfl (H.has 8 72 rfl rfl)) (f := 19) (args := #[.int .i64 key.length, .int .i64 b.length]) (by simp [go_sem, e74, e76]) ?_
          exact (HCALLS.out W).mono fun e w' ⟨he, hk⟩ => ⟨_, he, hk ▸ More.refl _, rfl⟩
        · intro A W H
          have e11 : (A.tmps[11]?).getD undef = (.slice ain L1.length cin) := H.slot' 11 rfl
          exact st_val (want_of rfl rfl (H.has 8 72 rfl rfl)) (v := (.slice ain L1.length cin)) (by simp [go_sem, e11]) rfl
        · intro A W H
          have e78 : (A.tmps[78]?).getD undef = (.slice ain L1.length cin) := H.has 14 78 rfl rfl
          exact st_val (want_of rfl rfl (H.has 8 72 rfl rfl)) (v := (.int .i64 L1.length)) (by simp [go_sem, e78]) rfl
        · intro A W H
          have e79 : (A.tmps[79]?).getD undef = (.int .i64 L1.length) := H.has 15 79 rfl rfl
          refine st_call (want_of rfl rfl (H.has 8 72 rfl rfl)) (f := 24) (args := #[.int .i64 L1.length]) (by simp [go_sem, e79]) ?_
          exact (HBX.out W).mono fun e w' ⟨he, hk⟩ => ⟨_, he, hk ▸ More.refl _, rfl⟩
        · intro A W H
          have e12 : (A.tmps[12]?).getD undef = (.slice aout L2.length cout) := H.slot' 12 rfl
          exact st_val (want_of rfl rfl (H.has 8 72 rfl rfl)) (v := (.slice aout L2.length cout)) (by simp [go_sem, e12]) rfl
        · intro A W H
          have e81 : (A.tmps[81]?).getD undef = (.slice aout L2.length cout) := H.has 17 81 rfl rfl
          exact st_val (want_of rfl rfl (H.has 8 72 rfl rfl)) (v := (.int .i64 L2.length)) (by simp [go_sem, e81]) rfl
        · intro A W H
          have e82 : (A.tmps[82]?).getD undef = (.int .i64 L2.length) := H.has 18 82 rfl rfl
          refine st_call (want_of rfl rfl (H.has 8 72 rfl rfl)) (f := 24) (args := #[.int .i64 L2.length]) (by simp [go_sem, e82]) ?_
          exact (HBY.out W).mono fun e w' ⟨he, hk⟩ => ⟨_, he, hk ▸ More.refl _, rfl⟩
        · intro A W H
          have e80 : (A.tmps[80]?).getD undef = (.int .i64 x) := H.has 16 80 rfl rfl
          have e83 : (A.tmps[83]?).getD undef = (.int .i64 y) := H.has 19 83 rfl rfl
          exact st_val (want_of rfl rfl (H.has 8 72 rfl rfl)) (v := (.int .i64 (x + y))) (by simp [go_sem, e80, e83, HXY.out]) rfl
        · intro A W H
          have e6 : (A.tmps[6]?).getD undef = (.int .i64 mo) := H.slot' 6 rfl
          exact st_val (want_of rfl rfl (H.has 8 72 rfl rfl)) (v := (.int .i64 mo)) (by simp [go_sem, e6]) rfl
        · intro A W H
          have e84 : (A.tmps[84]?).getD undef = (.int .i64 (x + y)) := H.has 20 84 rfl rfl
          have e85 : (A.tmps[85]?).getD undef = (.int .i64 mo) := H.has 21 85 rfl rfl
          exact st_val (want_of rfl rfl (H.has 8 72 rfl rfl)) (v := (.int .i64 (x + y + mo))) (by simp [go_sem, e84, e85, HXYZ.out]) rfl
        · intro A W H
          have e77 : (A.tmps[77]?).getD undef = (.int .i64 (x + y + mo)) := H.has 13 77 rfl rfl
          have e86 : (A.tmps[86]?).getD undef = (.int .i64 (x + y + mo)) := H.has 22 86 rfl rfl
          exact st_val (want_of rfl rfl (H.has 8 72 rfl rfl)) (v := .bool true) (by simp [go_sem, e77, e86]) rfl
        · intro A W H
          have e72 : (A.tmps[72]?).getD undef = (.bool true) := H.has 8 72 rfl rfl
          have e87 : (A.tmps[87]?).getD undef = (.bool true) := H.has 23 87 rfl rfl
          exact st_val rfl (v := .bool true) (by simp [go_sem, e72, e87]) rfl
        · intro A W H
          have e88 : (A.tmps[88]?).getD undef = (.bool true) := H.has 24 88 rfl rfl
          exact st_val rfl (v := (.bool true)) (by simp [go_sem, e88]) rfl
        · intro A W H
          refine st_call (want_of rfl rfl (H.has 25 89 rfl rfl)) (f := 10) (args := #[]) (by simp [go_sem]) ?_
          exact (HA.out W).mono fun e w' ⟨he, hk⟩ => ⟨_, he, hk, rfl⟩
        · intro A W H
          have e89 : (A.tmps[89]?).getD undef = (.bool true) := H.has 25 89 rfl rfl
          have e90 : (A.tmps[90]?).getD undef = (.bool true) := H.has 26 90 rfl rfl
          exact st_val rfl (v := .bool true) (by simp [go_sem, e89, e90]) rfl
        · intro A W H
          have e91 : (A.tmps[91]?).getD undef = (.bool true) := H.has 27 91 rfl rfl
          exact st_val rfl (v := (.bool true)) (by simp [go_sem, e91]) rfl
        · intro A W H
          exact hK' A W (held_ret H rfl 4 rfl (H.has 28 4 rfl trivial) ⟨rfl, Keeps.trans kp H.more⟩)

theorem KdfInner_walk (a : Option Addr) (c : Nat) (key : List Int) {w : World} (h : CapOk a c key.length ∧ RowAt (fun _ => True) .u8 w a key) (a' : Option Addr) (c' : Nat) (b : List Int) (h' : CapOk a' c' b.length ∧ RowAt (fun _ => True) .u8 w a' b) (w1 : World) (he : w1 = w := by rfl) :
    Calls Try.prog 7 #[.slice a key.length c, .slice a' b.length c'] w1 fun e w' => e = .returned (.bool true) ∧ Keeps (fun _ => False) w1 w' := by
  subst he
  exact KdfInner_any a c key a' c' b w1 h.1 h.2 h'.1 h'.2
end Go.Proofs.Ytomeeeakaejokaa
