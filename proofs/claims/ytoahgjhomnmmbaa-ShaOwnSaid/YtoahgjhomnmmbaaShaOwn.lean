/-
  ShaOwn, walked over what the program's functions promise.
-/
import Derived.Test.YtoahgjhomnmmbaaShaLaw
import Derived.Test.YtoahgjhomnmmbaaRel
import Derived.Test.YtoahgjhomnmmbaaTail
import Derived.OpenShut
namespace Go.Proofs.Ytoahgjhomnmmbaa
open Go.RowKit

theorem info_u8o : (Try.prog.info? 5).map (fun i => (i.zero, i.size, i.bytes)) = some (some (.int .u8 0), 1, 1) := by kernel_rfl

def OwnLoop (L : Nat) (w4 : World) (i : Value) (wr : World) : Prop := ∃ n : Nat, i = .int .i64 n ∧ n ≤ L ∧ Keeps (fun _ => False) w4 wr

set_option maxHeartbeats 2000000 in
set_option maxRecDepth 100000 in
theorem ShaOwn_any (h256 : PSum256) (h512 : PSum512) (hb : PBlocks256) (a : Option Addr) (c : Nat) (b : List Int) (hc : CapOk a c b.length) (at' by' : Int) (w : World) (hr : RowAt (fun _ => True) .u8 w a b) :
    Calls Try.prog 7 #[.slice a b.length c, .int .i64 at', .int .i64 by'] w fun e w' => e = .returned (.bool true) ∧ Keeps (fun _ => False) w w' := by
  have HA := hid (awake_any h256 h512 hb)
  have H1 := hid h256
  have H5 := hid h512
  clear h256 h512 hb
  have hm := hr.1
  by_cases hl : b.length > 600
  · have hl' : (b.length : Int) > 600 := by omega
    go_enter Try.func7, Try.ntmps7
    go_wp2_with fail
    refine (HA.out w).mono ?_
    rintro e w' ⟨rfl, hk⟩
    go_wp2_with fail
    go_ret
    exact ⟨rfl, hk⟩
  by_cases h0 : b.length = 0
  · have hl' : ¬ (b.length : Int) > 600 := by omega
    rw [h0]
    go_enter Try.func7, Try.ntmps7
    go_wp2_with fail
    refine (HA.out w).mono ?_
    rintro e w' ⟨rfl, hk⟩
    go_wp2_with fail
    go_ret
    exact ⟨rfl, hk⟩
  obtain ⟨i0, hi, hz0, hz1, hz2⟩ := info_parts info_u8o
  have hl' : ¬ (b.length : Int) > 600 := by omega
  have h0' : ((b.length : Int) == 0) = false := beq_eq_false_iff_ne.2 (by omega)
  have h0'' : 0 < b.length := by omega
  have hbl : b.length ≤ 1000000 := by omega
  have hrw : RowAt (· < w.heap.size) .u8 w a b := hr.mono (fun i hi _ => hi)
  clear hr
  obtain ⟨x, hx⟩ : ∃ x, x = by' % 200 := ⟨_, rfl⟩
  have HX := hid hx
  have x0 : 0 ≤ x := by omega
  have x1 : x ≤ 199 := by omega
  clear hx
  go_enter Try.func7, Try.ntmps7
  go_wp2_with fail
  refine (Mod_any by' 200 w (by omega) (by omega)).mono ?_
  rintro e w' ⟨rfl, rfl⟩
  rw [← HX.out]
  obtain ⟨N, hN⟩ := Int.eq_ofNat_of_zero_le (show 0 ≤ (b.length : Int) + x by omega)
  have HN := hid hN
  have hN2 : N ≤ 1000 := by omega
  clear hN
  go_wp2_with (at_make; (refine wpList_make_own _ rfl _ _ 22 rfl w.heap.size 5 i0 (.int .u8 0) 1 Try.underlying22 hi hz0 hz1 .i64 .i64 _ N rfl rfl HN.out (by rw [hz2]; omega) (by unfold maxLen; omega) (Nat.le_refl _) ?_))
  intro w1 hown1 hg1
  have kp1 : Keeps (fun _ => False) w w1 := (Keeps.refl _ w).grown hg1 (fun k h => by cases h)
  have hO1 : OwnI .u8 5 w.heap.size w1 (.slice (some ⟨w.heap.size, 0, none⟩) 0 N) [] := ⟨by simpa using hown1, by simp, by simp⟩
  have hr1 := hrw.keeps kp1 (fun _ _ h => h)
  clear hown1 hg1
  go_wp2_with (at_builtin; (refine wpList_pour rfl _ _ 22 rfl .u8 w.heap.size 5 i0 1 Try.underlying22 hi hz0 hz1 hz2 (.slice (some ⟨w.heap.size, 0, none⟩) 0 N) [] rfl hO1 a c b rfl hc.1 (· < w.heap.size) hr1 (by simp; omega) (by omega) kp1.size ?_))
  intro v w2 hown2 hk2
  have kp2 : Keeps (fun _ => False) w w2 := kp1.step hk2 (fun i hi h => absurd (hO1.base i h).1 (by omega))
  obtain ⟨g, cc, rfl, hgb, hgl, hcap, hcm, hcell⟩ := hown2.look h0''
  have hfree := hown2.free
  have hwf := hown2.2.1
  have hrc : RowAt (fun _ => True) .u8 w2 (some ⟨g, 0, none⟩) b := ⟨hm, hwf, .inr ⟨g, 0, rfl, trivial, hgl, fun j hj => by rw [Nat.zero_add]; exact hcell j hj⟩⟩
  clear hO1 hr1 hk2 kp1 hown2
  go_wp2_with fail
  refine (H1.out (some ⟨g, 0, none⟩) cc b w2 hbl ⟨fun h => (by cases h), hcap⟩ hrc).mono ?_
  rintro e w3 ⟨vx, rfl, hox, hk3⟩
  obtain ⟨ax, cx, rfl, hcx, hrx⟩ := hox.opened
  clear hox
  go_wp2_with fail
  refine (H5.out (some ⟨g, 0, none⟩) cc b w3 hbl ⟨fun h => (by cases h), hcap⟩ (hrc.keeps hk3 (fun _ _ h => h))).mono ?_
  rintro e w4 ⟨vy, rfl, hoy, hk4⟩
  obtain ⟨ay, cy, rfl, hcy, hry⟩ := hoy.opened
  have hrx4 := hrx.keeps hk4 (fun _ _ h => h)
  have k24 := hk3.trans hk4
  have hgw : g < w3.heap.size := by have := hk3.size; omega
  have HCELL := hid (fun j hj => (k24.cell (p := ⟨g, j, none⟩) hgl (fun h => h)).trans (hcell j hj))
  have HFREE := hid (fun j => (k24.frozen (p := ⟨g, j, none⟩) hgl (fun h => h)).trans (hfree j))
  have hrb4 := hrw.keeps (kp2.trans k24) (fun _ _ h => h)
  obtain ⟨ga, oa, rfl, hga, hgab, hcb⟩ : ∃ g off, a = some ⟨g, off, none⟩ ∧ g < w.heap.size ∧ g < w4.heap.size ∧ ∀ j, j < b.length → w4.cell? ⟨g, off + j, none⟩ = some (.int .u8 (b.getD j 0)) := by
    rcases hrb4.2.2 with h | ⟨g, off, h1, h2, h3, h4⟩
    · rw [h] at h0''; simp at h0''
    · exact ⟨g, off, h1, h2, h3, h4⟩
  have HCB := hid hcb
  have hg4 : g < w4.heap.size := by have := k24.size; omega
  clear hcell hfree hrx hoy hcb hrc
  go_wp2_with fail
  go_loopw [34] (fun i wr => OwnLoop b.length w4 i wr) (fun i _ => b.length - (intOf i).toNat)
  case atStart => exact ⟨0, rfl, by omega, Keeps.refl _ _⟩
  case round =>
    obtain ⟨n, rfl, hn, hkr⟩ := hrel
    by_cases hlt : n < b.length
    · have hlt' : (n : Int) < (b.length : Int) := by omega
      have c1 : wr.cell? ⟨g, n, none⟩ = some (.int .u8 (b.getD n 0)) := (hkr.cell (p := ⟨g, n, none⟩) hg4 (fun h => h)).trans (HCELL.out n hlt)
      have c2 : wr.cell? ⟨ga, oa + n, none⟩ = some (.int .u8 (b.getD n 0)) := (hkr.cell (p := ⟨ga, oa + n, none⟩) hgab (fun h => h)).trans (HCB.out n hlt)
      generalize b.getD n 0 = z at c1 c2
      go_wp2_with fail
      go_quiet (fail)
      go_wp2_with fail
      exact ⟨⟨n + 1, rfl, hlt, hkr.drewN _⟩, by simp [intOf]; omega⟩
    · have hge : ¬ (n : Int) < (b.length : Int) := by omega
      obtain ⟨wo, rfl⟩ : ∃ wo : World, wo = wr := ⟨_, rfl⟩
      obtain ⟨k, hk⟩ := Int.eq_ofNat_of_zero_le (Int.emod_nonneg at' (show (b.length : Int) ≠ 0 by omega))
      have hkl : k < b.length := by have := Int.emod_lt_of_pos at' (show 0 < (b.length : Int) by omega); omega
      have hkl' : (k : Int) < (b.length : Int) := by omega
      have HM1 := hid (fun w => show Calls Try.prog 13 #[.int .i64 at', .int .i64 b.length] w fun e w' => e = .returned (.int .i64 k) ∧ w' = w from
        (Mod_any at' b.length w (by omega) (by omega)).mono fun e w' h => ⟨by rw [h.1]; exact congrArg _ (congrArg _ hk), h.2.symm⟩)
      obtain ⟨y, hy⟩ : ∃ y, y = by' % 255 := ⟨_, rfl⟩
      have HM2 := hid (fun w => show Calls Try.prog 13 #[.int .i64 by', .int .i64 255] w fun e w' => e = .returned (.int .i64 y) ∧ w' = w from
        (Mod_any by' 255 w (by omega) (by omega)).mono fun e w' h => ⟨by rw [h.1, hy], h.2.symm⟩)
      have y0 : 0 ≤ y := by omega
      have y1 : y ≤ 254 := by omega
      clear hk hy
      have c1 : wo.cell? ⟨g, k, none⟩ = some (.int .u8 (b.getD k 0)) := (hkr.cell (p := ⟨g, k, none⟩) hg4 (fun h => h)).trans (HCELL.out k hkl)
      have f1 : wo.frozen? ⟨g, k, none⟩ = false := (hkr.frozen (p := ⟨g, k, none⟩) hg4 (fun h => h)).trans (HFREE.out k)
      have hcw : ∀ j, j < b.length → wo.cell? ⟨g, j, none⟩ = some (.int .u8 (b.getD j 0)) := fun j hj => (hkr.cell (p := ⟨g, j, none⟩) hg4 (fun h => h)).trans (HCELL.out j hj)
      have HCW := hid hcw
      clear hcw
      generalize b.getD k 0 = z at c1
      go_wp2_with fail
      refine wp_region_tail 13 (by kernel_rfl) (by kernel_rfl) _ _ rfl rfl ?_
      simp only [List.take_succ_cons, List.take_zero, List.drop_succ_cons, List.drop_zero]
      repeat (first | go_big_quiet_skip | (go_big_quiet_want; go_big_quiet_op; first | go_big_quiet_on | (apply Exists.intro; refine ⟨?_, ?_⟩; (first | with_reducible exact HM1.out _ | with_reducible exact HM2.out _); go_big_quiet_on)))
      refine wpQuiet_nil ?_
      go_wp2_with fail
      obtain ⟨V, hV⟩ : ∃ V, V = bits .xor .u8 z (1 + y) := ⟨_, rfl⟩
      have hVw : (Lit.int .u8 V).wf = true := by rw [hV]; first | exact wf_bits _ _ _ _ | exact Go.wf_bits _ _ _ _ | exact Go.ChangeShapes.wf_bits _ _ _ _ | exact Go.OpenShut.wf_bits _ _ _ _
      rw [← hV]
      clear hV
      have hrs : RowAt (fun _ => True) .u8 (wo.setCell ⟨g, k, none⟩ (.int .u8 V)) (some ⟨g, 0, none⟩) (b.set k V) :=
        RowAt.set hwf (by have := hkr.size; omega) trivial hm HCW.out k V hVw hkl
      have hcs := H1.out (some ⟨g, 0, none⟩) cc (b.set k V) (wo.setCell ⟨g, k, none⟩ (.int .u8 V)).drew (by rw [List.length_set]; exact hbl) ⟨fun h => (by cases h), by rw [List.length_set]; exact hcap⟩ hrs
      rw [List.length_set] at hcs
      refine hcs.mono ?_
      rintro e w7 ⟨v7, rfl, _, hk7⟩
      have k47 : Keeps (· = g) w4 w7 := (((Keeps.mono (T := (· = g)) hkr (fun _ _ h => h.elim)).setCell ⟨g, k, none⟩ (.int .u8 V) (fun _ => rfl)).drew).trans (Keeps.mono (T := (· = g)) hk7 (fun _ _ h => h.elim))
      have hrb : RowAt (fun _ => True) .u8 w7 (some ⟨ga, oa, none⟩) b := (hrb4.keeps k47 (fun i h e => by omega)).mono (fun _ _ _ => trivial)
      have hrx : RowAt (fun _ => True) .u8 w7 ax (sha256 b) := (hrx4.keeps k47 (fun i h e => by omega)).mono (fun _ _ _ => trivial)
      have hry : RowAt (fun _ => True) .u8 w7 ay (sha512 b) := (hry.keeps k47 (fun i h e => by omega)).mono (fun _ _ _ => trivial)
      have kp7 : Keeps (fun _ => False) w w7 := (kp2.trans k24).step k47 (fun i hi e => by omega)
      clear hcs hrs hk7 hkr
      go_wp2_with fail
      rename_i K hK
      refine wp_region_relV 89 (by kernel_rfl) rfl (by kernel_rfl)
        [RowIs .u8 (sha256 b), Is (.string (strOfNums (sha256 b))), Is (.slice (some ⟨ga, oa, none⟩) b.length c), RowIs .u8 (sha256 b), Is (.string (strOfNums (sha256 b))), Is (.bool true), Is (.bool true), RowIs .u8 (sha512 b), Is (.string (strOfNums (sha512 b))), Is (.slice (some ⟨ga, oa, none⟩) b.length c), RowIs .u8 (sha512 b), Is (.string (strOfNums (sha512 b))), Is (.bool true), Is (.bool true), Is (.bool true), RowIs .u8 (sha256 b), Is (.int .i64 32), Is (.bool true), Is (.bool true), Is (.bool true), RowIs .u8 (sha512 b), Is (.int .i64 64), Is (.bool true), Is (.bool true), Is (.bool true), Is (.bool true), Is (.bool true), Is (.bool true)]
        ⟨RowIs.lasts _ _, Is.lasts _, Is.lasts _, RowIs.lasts _ _, Is.lasts _, Is.lasts _, Is.lasts _, RowIs.lasts _ _, Is.lasts _, Is.lasts _, RowIs.lasts _ _, Is.lasts _, Is.lasts _, Is.lasts _, Is.lasts _, RowIs.lasts _ _, Is.lasts _, Is.lasts _, Is.lasts _, Is.lasts _, RowIs.lasts _ _, Is.lasts _, Is.lasts _, Is.lasts _, Is.lasts _, Is.lasts _, Is.lasts _, Is.lasts _, trivial⟩
        ⟨?_, ?_, ?_, ?_, ?_, ?_, ?_, ?_, ?_, ?_, ?_, ?_, ?_, ?_, ?_, ?_, ?_, ?_, ?_, ?_, ?_, ?_, ?_, ?_, ?_, ?_, ?_, ?_, trivial⟩ ?_
      · intro A W H
        have e8 : (A.tmps[8]?).getD undef = .slice ax (sha256 b).length cx := H.slot' 8 rfl
        exact st_val rfl (v := .slice ax _ cx) (by simp [go_sem, e8]) ⟨ax, cx, rfl, hcx, hrx.keeps H.more (fun _ _ h => h)⟩
      · intro A W H
        obtain ⟨a62, c62, e62, hc62, hr62⟩ := H.has 0 62 rfl rfl
        refine st_val rfl (v := .string (strOfNums (sha256 b))) ?_ rfl
        have cv := conv_str (P := Try.prog) 22 5 9 Try.underlying22 Try.underlying5 Try.underlying9 (c := c62) hr62
        simp [go_sem, e62, cv]
      · intro A W H
        have e0 : (A.tmps[0]?).getD undef = (.slice (some ⟨ga, oa, none⟩) b.length c) := H.slot' 0 rfl
        exact st_val rfl (v := (.slice (some ⟨ga, oa, none⟩) b.length c)) (by simp [go_sem, e0]) rfl
      · intro A W H
        have e64 : (A.tmps[64]?).getD undef = (.slice (some ⟨ga, oa, none⟩) b.length c) := H.has 2 64 rfl rfl
        refine st_call rfl (f := 9) (args := #[.slice (some ⟨ga, oa, none⟩) b.length c]) (by simp [go_sem, e64]) ?_
        refine (H1.out (some ⟨ga, oa, none⟩) c b W hbl ⟨fun h => (by cases h), hc.2⟩ (hrb.keeps H.more (fun _ _ h => h))).mono ?_
        rintro e w' ⟨v, rfl, hown, hk⟩
        exact ⟨v, rfl, hk, hown.rowIs⟩
      · intro A W H
        obtain ⟨a65, c65, e65, hc65, hr65⟩ := H.has 3 65 rfl rfl
        refine st_val rfl (v := .string (strOfNums (sha256 b))) ?_ rfl
        have cv := conv_str (P := Try.prog) 22 5 9 Try.underlying22 Try.underlying5 Try.underlying9 (c := c65) hr65
        simp [go_sem, e65, cv]
      · intro A W H
        have e63 : (A.tmps[63]?).getD undef = (.string (strOfNums (sha256 b))) := H.has 1 63 rfl rfl
        have e66 : (A.tmps[66]?).getD undef = (.string (strOfNums (sha256 b))) := H.has 4 66 rfl rfl
        exact st_val rfl (v := .bool true) (by simp [go_sem, e63, e66]) rfl
      · intro A W H
        have e67 : (A.tmps[67]?).getD undef = (.bool true) := H.has 5 67 rfl rfl
        exact st_val rfl (v := (.bool true)) (by simp [go_sem, e67]) rfl
      · intro A W H
        have e9 : (A.tmps[9]?).getD undef = .slice ay (sha512 b).length cy := H.slot' 9 rfl
        exact st_val (want_of rfl rfl (H.has 6 68 rfl rfl)) (v := .slice ay _ cy) (by simp [go_sem, e9]) ⟨ay, cy, rfl, hcy, hry.keeps H.more (fun _ _ h => h)⟩
      · intro A W H
        obtain ⟨a69, c69, e69, hc69, hr69⟩ := H.has 7 69 rfl rfl
        refine st_val (want_of rfl rfl (H.has 6 68 rfl rfl)) (v := .string (strOfNums (sha512 b))) ?_ rfl
        have cv := conv_str (P := Try.prog) 22 5 9 Try.underlying22 Try.underlying5 Try.underlying9 (c := c69) hr69
        simp [go_sem, e69, cv]
      · intro A W H
        have e0 : (A.tmps[0]?).getD undef = (.slice (some ⟨ga, oa, none⟩) b.length c) := H.slot' 0 rfl
        exact st_val (want_of rfl rfl (H.has 6 68 rfl rfl)) (v := (.slice (some ⟨ga, oa, none⟩) b.length c)) (by simp [go_sem, e0]) rfl
      · intro A W H
        have e71 : (A.tmps[71]?).getD undef = (.slice (some ⟨ga, oa, none⟩) b.length c) := H.has 9 71 rfl rfl
        refine st_call (want_of rfl rfl (H.has 6 68 rfl rfl)) (f := 11) (args := #[.slice (some ⟨ga, oa, none⟩) b.length c]) (by simp [go_sem, e71]) ?_
        refine (H5.out (some ⟨ga, oa, none⟩) c b W hbl ⟨fun h => (by cases h), hc.2⟩ (hrb.keeps H.more (fun _ _ h => h))).mono ?_
        rintro e w' ⟨v, rfl, hown, hk⟩
        exact ⟨v, rfl, hk, hown.rowIs⟩
      · intro A W H
        obtain ⟨a72, c72, e72, hc72, hr72⟩ := H.has 10 72 rfl rfl
        refine st_val (want_of rfl rfl (H.has 6 68 rfl rfl)) (v := .string (strOfNums (sha512 b))) ?_ rfl
        have cv := conv_str (P := Try.prog) 22 5 9 Try.underlying22 Try.underlying5 Try.underlying9 (c := c72) hr72
        simp [go_sem, e72, cv]
      · intro A W H
        have e70 : (A.tmps[70]?).getD undef = (.string (strOfNums (sha512 b))) := H.has 8 70 rfl rfl
        have e73 : (A.tmps[73]?).getD undef = (.string (strOfNums (sha512 b))) := H.has 11 73 rfl rfl
        exact st_val (want_of rfl rfl (H.has 6 68 rfl rfl)) (v := .bool true) (by simp [go_sem, e70, e73]) rfl
      · intro A W H
        have e68 : (A.tmps[68]?).getD undef = (.bool true) := H.has 6 68 rfl rfl
        have e74 : (A.tmps[74]?).getD undef = (.bool true) := H.has 12 74 rfl rfl
        exact st_val rfl (v := .bool true) (by simp [go_sem, e68, e74]) rfl
      · intro A W H
        have e75 : (A.tmps[75]?).getD undef = (.bool true) := H.has 13 75 rfl rfl
        exact st_val rfl (v := (.bool true)) (by simp [go_sem, e75]) rfl
      · intro A W H
        have e8 : (A.tmps[8]?).getD undef = .slice ax (sha256 b).length cx := H.slot' 8 rfl
        exact st_val (want_of rfl rfl (H.has 14 76 rfl rfl)) (v := .slice ax _ cx) (by simp [go_sem, e8]) ⟨ax, cx, rfl, hcx, hrx.keeps H.more (fun _ _ h => h)⟩
      · intro A W H
        obtain ⟨a77, c77, e77, hc77, hr77⟩ := H.has 15 77 rfl rfl
        exact st_val (want_of rfl rfl (H.has 14 76 rfl rfl)) (v := (.int .i64 32)) (by simp [go_sem, e77, sha256_len]) rfl
      · intro A W H
        have e78 : (A.tmps[78]?).getD undef = (.int .i64 32) := H.has 16 78 rfl rfl
        exact st_val (want_of rfl rfl (H.has 14 76 rfl rfl)) (v := .bool true) (by simp [go_sem, e78]) rfl
      · intro A W H
        have e76 : (A.tmps[76]?).getD undef = (.bool true) := H.has 14 76 rfl rfl
        have e79 : (A.tmps[79]?).getD undef = (.bool true) := H.has 17 79 rfl rfl
        exact st_val rfl (v := .bool true) (by simp [go_sem, e76, e79]) rfl
      · intro A W H
        have e80 : (A.tmps[80]?).getD undef = (.bool true) := H.has 18 80 rfl rfl
        exact st_val rfl (v := (.bool true)) (by simp [go_sem, e80]) rfl
      · intro A W H
        have e9 : (A.tmps[9]?).getD undef = .slice ay (sha512 b).length cy := H.slot' 9 rfl
        exact st_val (want_of rfl rfl (H.has 19 81 rfl rfl)) (v := .slice ay _ cy) (by simp [go_sem, e9]) ⟨ay, cy, rfl, hcy, hry.keeps H.more (fun _ _ h => h)⟩
      · intro A W H
        obtain ⟨a82, c82, e82, hc82, hr82⟩ := H.has 20 82 rfl rfl
        exact st_val (want_of rfl rfl (H.has 19 81 rfl rfl)) (v := (.int .i64 64)) (by simp [go_sem, e82, sha512_len]) rfl
      · intro A W H
        have e83 : (A.tmps[83]?).getD undef = (.int .i64 64) := H.has 21 83 rfl rfl
        exact st_val (want_of rfl rfl (H.has 19 81 rfl rfl)) (v := .bool true) (by simp [go_sem, e83]) rfl
      · intro A W H
        have e81 : (A.tmps[81]?).getD undef = (.bool true) := H.has 19 81 rfl rfl
        have e84 : (A.tmps[84]?).getD undef = (.bool true) := H.has 22 84 rfl rfl
        exact st_val rfl (v := .bool true) (by simp [go_sem, e81, e84]) rfl
      · intro A W H
        have e85 : (A.tmps[85]?).getD undef = (.bool true) := H.has 23 85 rfl rfl
        exact st_val rfl (v := (.bool true)) (by simp [go_sem, e85]) rfl
      · intro A W H
        refine st_call (want_of rfl rfl (H.has 24 86 rfl rfl)) (f := 8) (args := #[]) (by simp [go_sem]) ?_
        exact (HA.out W).mono fun e w' ⟨he, hk⟩ => ⟨_, he, hk, rfl⟩
      · intro A W H
        have e86 : (A.tmps[86]?).getD undef = (.bool true) := H.has 24 86 rfl rfl
        have e87 : (A.tmps[87]?).getD undef = (.bool true) := H.has 25 87 rfl rfl
        exact st_val rfl (v := .bool true) (by simp [go_sem, e86, e87]) rfl
      · intro A W H
        have e88 : (A.tmps[88]?).getD undef = (.bool true) := H.has 26 88 rfl rfl
        exact st_val rfl (v := (.bool true)) (by simp [go_sem, e88]) rfl
      · intro A W H
        exact hK A W (held_ret H rfl 6 rfl (H.has 27 6 rfl trivial) ⟨rfl, Keeps.trans kp7 H.more⟩)

theorem ShaOwn_walk (h256 : PSum256) (h512 : PSum512) (hb : PBlocks256) (a : Option Addr) (c : Nat) (b : List Int) {w : World} (hw : CapOk a c b.length ∧ RowAt (fun _ => True) .u8 w a b) (at' : Int) (_ : (Lit.int .i64 at').wf = true) (by' : Int) (_ : (Lit.int .i64 by').wf = true) (w1 : World) (he : w1 = w := by rfl) :
    Calls Try.prog 7 #[.slice a b.length c, .int .i64 at', .int .i64 by'] w1 fun e w' => e = .returned (.bool true) ∧ Keeps (fun _ => False) w1 w' := by
  subst he
  exact ShaOwn_any h256 h512 hb a c b hw.1 at' by' w1 hw.2
end Go.Proofs.Ytoahgjhomnmmbaa
