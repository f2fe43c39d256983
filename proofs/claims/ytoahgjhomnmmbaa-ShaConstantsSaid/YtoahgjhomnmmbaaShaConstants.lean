/-
  ShaConstants, walked over what the program's functions promise.
-/
import Derived.Test.YtoahgjhomnmmbaaShaLaw
import Derived.Test.YtoahgjhomnmmbaaRel
import Derived.Test.YtoahgjhomnmmbaaPrimes
namespace Go.Proofs.Ytoahgjhomnmmbaa
open Go.RowKit

theorem mod_ne (P e : Nat) : (((P : Int) % (e : Int)) != 0) = (P % e != 0) := by
  rw [← Int.natCast_emod]
  rcases Nat.eq_zero_or_pos (P % e) with h | h
  · rw [h]; rfl
  · have h1 : (((P % e : Nat) : Int) != 0) = true := bne_iff_ne.2 (by omega)
    have h2 : (P % e != 0) = true := bne_iff_ne.2 (by omega)
    rw [h1, h2]

def PrimeLoop (t : Nat) (w : World) (p k : Value) (wr : World) : Prop :=
  ∃ j : Nat, p = .int .u64 ((2 + j : Nat) : Int) ∧ k = .int .i64 (cnt j) ∧ j ≤ 407 ∧ cnt j ≤ t ∧ (cnt j = t → j = 0 ∨ isP (2 + j) = true) ∧ wr = w
def DivLoop (P : Nat) (w : World) (q d : Value) (wr : World) : Prop :=
  ∃ e : Nat, d = .int .u64 e ∧ 2 ≤ e ∧ e ≤ 25 ∧ q = .bool (chk P e) ∧ ((e - 1) * (e - 1) ≤ P ∨ e = 2) ∧ wr = w
def RootLoop (P : Nat) (w : World) (v : Value) (wr : World) : Prop :=
  ∃ e : Nat, v = .int .u64 e ∧ 1 ≤ e ∧ e ≤ 8 ∧ (e * e * e ≤ P ∨ e = 1) ∧ wr = w

set_option maxHeartbeats 2000000 in
set_option maxRecDepth 100000 in
theorem ShaConstants_any (h256 : PSum256) (h512 : PSum512) (hb : PBlocks256) (t0 : Int) (a : Option Addr) (c : Nat) (b : List Int) (hc : CapOk a c b.length) (w : World) (hr : RowAt (fun _ => True) .u8 w a b) :
    Calls Try.prog 6 #[.int .i64 t0, .slice a b.length c] w fun e w' => e = .returned (.bool true) ∧ Keeps (fun _ => False) w w' := by
  have HA := hid (awake_any h256 h512 hb)
  have H5 := hid h512
  clear h256 h512 hb
  obtain ⟨t, hT⟩ := Int.eq_ofNat_of_zero_le (Int.emod_nonneg t0 (show (80 : Int) ≠ 0 by omega))
  have ht : t < 80 := by omega
  have HT := hid hT
  clear hT
  go_enter Try.func6, Try.ntmps6
  go_wp2_with fail
  refine (Mod_any t0 80 w (by omega) (by omega)).mono ?_
  rintro e w' ⟨rfl, rfl⟩
  rw [HT.out]
  go_wp2_with fail
  go_loopw [5, 6] (fun p k wr => PrimeLoop t w p k wr) (fun p _ _ => 1000 - (intOf p).toNat)
  case atStart => exact ⟨0, rfl, rfl, by omega, by simp [cnt], fun _ => .inl rfl, rfl⟩
  case round =>
    obtain ⟨j, rfl, rfl, hj, hjt, hfresh, rfl⟩ := hrel
    by_cases hlt : cnt j < t
    · have hlt' : (cnt j : Int) < (t : Int) := by omega
      have hj2 : j < 407 := cnt_lt j (by omega)
      obtain ⟨P, hP⟩ : ∃ P, P = 3 + j := ⟨_, rfl⟩
      have HPP := hid hP
      have hP2 : P < 412 := by omega
      have hP3 : 3 ≤ P := by omega
      have hPi : (((2 + j : Nat) : Int) + 1) = (P : Int) := by omega
      clear hP
      go_wp2_with fail
      rw [show (2 + (j : Int) + 1) = (P : Int) by omega]
      go_loopw [7, 8] (fun q d w2 => DivLoop P wr q d w2) (fun _ d _ => 30 - (intOf d).toNat)
      case atStart => exact ⟨2, rfl, by omega, by omega, rfl, .inr rfl, rfl⟩
      case round =>
        obtain ⟨e, rfl, he2, he25, rfl, hsq, rfl⟩ := hrel
        obtain ⟨q, hq⟩ : ∃ q, q = e * e := ⟨_, rfl⟩
        have hq625 : q ≤ 625 := by rw [hq]; exact Nat.mul_le_mul he25 he25
        have hw : IntKind.u64.wrap ((e : Int) * (e : Int)) = (q : Int) := by
          rw [hq, Int.natCast_mul, ← Int.natCast_mul, ← hq, IntKind.wrap_u64]; omega
        have HQ := hid hq
        clear hq
        by_cases hle : q ≤ P
        · have hle' : (q : Int) ≤ (P : Int) := by omega
          have he24 : e ≤ 24 := by
            rcases Nat.lt_or_ge e 25 with h | h
            · omega
            · have := HQ.out; have : e = 25 := by omega
              subst this; omega
          have hnext : e - 1 + 1 = e := by omega
          have he1 : 1 ≤ (e : Int) := by omega
          rcases hck : chk P e with _ | _
          · have HS := hid (show chk P (e + 1) = false by rw [chk_succ P e he2, hck]; rfl)
            clear hck
            go_wp2_with fail
            go_roundw
            case rel => exact ⟨e + 1, rfl, by omega, by omega, by rw [HS.out], .inl (by rw [Nat.add_sub_cancel, ← HQ.out]; exact hle), rfl⟩
            case measure => simp [intOf]; omega
          · have HS := hid (show chk P (e + 1) = (P % e != 0) by rw [chk_succ P e he2, hck]; simp)
            clear hck
            go_wp2_with fail
            exact ⟨⟨e + 1, rfl, by omega, by omega, by rw [HS.out, mod_ne], .inl (by rw [Nat.add_sub_cancel, ← HQ.out]; exact hle), rfl⟩, by simp [intOf]; omega⟩
        · have hle' : ¬ (q : Int) ≤ (P : Int) := by omega
          have hd : dOf P = e := dOf_eq ⟨P, hP2⟩ ⟨e, by omega⟩ he2 hsq (by have := HQ.out; show P < e * e; omega)
          have hc1 : cnt (j + 1) = cnt j + (if chk P e then 1 else 0) := by rw [cnt, isP, ← HPP.out, hd]
          have hp1 : isP (2 + (j + 1)) = chk P e := by rw [isP, show 2 + (j + 1) = P by have := HPP.out; omega, hd]
          have hpj : P = 2 + (j + 1) := by have := HPP.out; omega
          have HC1 := hid hc1
          have HP1 := hid hp1
          have HPJ := hid hpj
          clear hc1 hp1 hd hpj
          rcases hck : chk P e with _ | _
          · rw [hck] at HC1 HP1
            clear hck
            go_wp2_with fail
            go_roundw
            case rel =>
              refine ⟨j + 1, by rw [← HPJ.out], by rw [HC1.out]; simp, by omega, by rw [HC1.out]; simp; omega, fun h => ?_, rfl⟩
              rw [HC1.out] at h
              simp at h
              omega
            case measure => simp [intOf]; omega
          · rw [hck] at HC1 HP1
            clear hck
            go_wp2_with fail
            go_roundw
            case rel =>
              exact ⟨j + 1, by rw [← HPJ.out], by rw [HC1.out]; simp, by omega, by rw [HC1.out]; simp; omega, fun _ => .inr HP1.out, rfl⟩
            case measure => simp [intOf]; omega
    · have heq : cnt j = t := by omega
      have hlt' : ¬ (cnt j : Int) < (t : Int) := by omega
      obtain ⟨g1, g2, g3, g4⟩ := good j hj (by omega) (hfresh heq)
      rw [heq] at g1 g2 g3 g4
      obtain ⟨P, hP⟩ : ∃ P, P = 2 + j := ⟨_, rfl⟩
      rw [← hP] at g1 g2 ⊢
      have hP2 : P < 412 := by omega
      have hP1 : 2 ≤ P := by omega
      obtain ⟨v, hv⟩ : ∃ v, v = wOf P := ⟨_, rfl⟩
      rw [← hv] at g1 g2
      have HV := hid hv
      have HG := hid g1; have HG2 := hid g2
      clear hP hv hfresh g1 g2 hlt
      go_wp2_with fail
      obtain ⟨wz, rfl⟩ : ∃ wz : World, wz = wr := ⟨_, rfl⟩
      go_loopw [9] (fun v wr => RootLoop P wz v wr) (fun v _ => 20 - (intOf v).toNat)
      case atStart => exact ⟨1, rfl, by omega, by omega, .inr rfl, rfl⟩
      case round =>
        obtain ⟨e, rfl, he1, he8, hcu, rfl⟩ := hrel
        obtain ⟨f, hf⟩ : ∃ f, f = e + 1 := ⟨_, rfl⟩
        obtain ⟨q2, hq2⟩ : ∃ q2, q2 = f * f := ⟨_, rfl⟩
        obtain ⟨q3, hq3⟩ : ∃ q3, q3 = q2 * f := ⟨_, rfl⟩
        have hf9 : f ≤ 9 := by omega
        have h81 : q2 ≤ 81 := by rw [hq2]; exact Nat.mul_le_mul hf9 hf9
        have h729 : q3 ≤ 729 := by rw [hq3]; exact Nat.mul_le_mul h81 hf9
        have hw1 : IntKind.u64.wrap (((e : Int) + 1) * ((e : Int) + 1)) = (q2 : Int) := by
          rw [show ((e : Int) + 1) = (f : Int) by omega, ← Int.natCast_mul, ← hq2, IntKind.wrap_u64]; omega
        have hw2 : IntKind.u64.wrap ((q2 : Int) * ((e : Int) + 1)) = (q3 : Int) := by
          rw [show ((e : Int) + 1) = (f : Int) by omega, ← Int.natCast_mul, ← hq3, IntKind.wrap_u64]; omega
        have HF := hid hf; have HQ2 := hid hq2; have HQ3 := hid hq3
        clear hf hq2 hq3
        by_cases hle : q3 ≤ P
        · have hle' : (q3 : Int) ≤ (P : Int) := by omega
          have he7 : e ≤ 7 := by
            rcases Nat.lt_or_ge e 8 with h | h
            · omega
            · have h8 : e = 8 := by omega
              have h1 := HF.out; have h2 := HQ2.out; have h3 := HQ3.out
              subst h8; subst h1; subst h2; omega
          go_wp2_with fail
          go_roundw
          case rel => exact ⟨e + 1, rfl, by omega, by omega, .inl (by rw [← HF.out, ← HQ2.out, ← HQ3.out]; exact hle), rfl⟩
          case measure => simp [intOf]; omega
        · have hle' : ¬ (q3 : Int) ≤ (P : Int) := by omega
          have hve : v = e := by
            rw [HV.out]
            exact wOf_eq ⟨P, hP2⟩ ⟨e, by omega⟩ he1 hcu (by show P < (e + 1) * (e + 1) * (e + 1); rw [← HF.out, ← HQ2.out, ← HQ3.out]; omega)
          subst hve
          go_wp2_with fail
          clear hw1 hw2
          rename_i K hK
          have g1 := HG.out
          have g2 := HG2.out
          have hm := hr.1
          by_cases hl : b.length > 111
          · have hl' : (111 : Int) < (b.length : Int) := by omega
            refine wp_region_relV 68 (by kernel_rfl) rfl (by kernel_rfl)
              [Is (.int .u64 v), Is (.int .i64 t), Is (.int .u64 (refKs.getD t 0)), Is (.int .u64 P), Is (.bool true), Is (.bool true), Is (.slice a b.length c), Is (.int .i64 b.length), Is (.bool true), Is (.bool true), Is undef, Is undef, Is undef, Is undef, Is undef, Is undef, Is undef, Is (.bool true), Is (.bool true), Is (.bool true), Is (.bool true), Is (.bool true), Is (.bool true)]
              ⟨Is.lasts _, Is.lasts _, Is.lasts _, Is.lasts _, Is.lasts _, Is.lasts _, Is.lasts _, Is.lasts _, Is.lasts _, Is.lasts _, Is.lasts _, Is.lasts _, Is.lasts _, Is.lasts _, Is.lasts _, Is.lasts _, Is.lasts _, Is.lasts _, Is.lasts _, Is.lasts _, Is.lasts _, Is.lasts _, Is.lasts _, trivial⟩
              ⟨?_, ?_, ?_, ?_, ?_, ?_, ?_, ?_, ?_, ?_, ?_, ?_, ?_, ?_, ?_, ?_, ?_, ?_, ?_, ?_, ?_, ?_, ?_, trivial⟩ ?_
            · intro A W H
              have e9 : (A.tmps[9]?).getD undef = (.int .u64 v) := H.slot' 9 rfl
              exact st_val rfl (v := (.int .u64 v)) (by simp [go_sem, e9]) rfl
            · intro A W H
              have e0 : (A.tmps[0]?).getD undef = (.int .i64 t) := H.slot' 0 rfl
              exact st_val rfl (v := (.int .i64 t)) (by simp [go_sem, e0]) rfl
            · intro A W H
              have e47 : (A.tmps[47]?).getD undef = (.int .i64 t) := H.has 1 47 rfl rfl
              refine st_call rfl (f := 20) (args := #[.int .i64 t]) (by simp [go_sem, e47]) ?_
              exact (refConstant_any t W ht).mono fun e w' ⟨he, hk⟩ => ⟨_, he, hk, rfl⟩
            · intro A W H
              have e5 : (A.tmps[5]?).getD undef = (.int .u64 P) := H.slot' 5 rfl
              exact st_val rfl (v := (.int .u64 P)) (by simp [go_sem, e5]) rfl
            · intro A W H
              have e46 : (A.tmps[46]?).getD undef = (.int .u64 v) := H.has 0 46 rfl rfl
              have e48 : (A.tmps[48]?).getD undef = (.int .u64 (refKs.getD t 0)) := H.has 2 48 rfl rfl
              have e49 : (A.tmps[49]?).getD undef = (.int .u64 P) := H.has 3 49 rfl rfl
              refine st_call rfl (f := 19) (args := #[.int .u64 v, .int .u64 (refKs.getD t 0), .int .u64 P]) (by simp [go_sem, e46, e48, e49]) ?_
              exact (cube_any v (refKs.getD t 0) P W g3 g4 g1 g2).mono fun e w' ⟨he, hk⟩ => ⟨_, he, hk, rfl⟩
            · intro A W H
              have e50 : (A.tmps[50]?).getD undef = (.bool true) := H.has 4 50 rfl rfl
              exact st_val rfl (v := (.bool true)) (by simp [go_sem, e50]) rfl
            · intro A W H
              have e1 : (A.tmps[1]?).getD undef = (.slice a b.length c) := H.slot' 1 rfl
              exact st_val (want_of rfl rfl (H.has 5 51 rfl rfl)) (v := (.slice a b.length c)) (by simp [go_sem, e1]) rfl
            · intro A W H
              have e52 : (A.tmps[52]?).getD undef = (.slice a b.length c) := H.has 6 52 rfl rfl
              exact st_val (want_of rfl rfl (H.has 5 51 rfl rfl)) (v := (.int .i64 b.length)) (by simp [go_sem, e52]) rfl
            · intro A W H
              have e53 : (A.tmps[53]?).getD undef = (.int .i64 b.length) := H.has 7 53 rfl rfl
              exact st_val (want_of rfl rfl (H.has 5 51 rfl rfl)) (v := (.bool true)) (by simp [go_sem, e53, hl']) rfl
            · intro A W H
              have e54 : (A.tmps[54]?).getD undef = (.bool true) := H.has 8 54 rfl rfl
              exact st_val (want_of rfl rfl (H.has 5 51 rfl rfl)) (v := (.bool true)) (by simp [go_sem, e54]) rfl
            · intro A W H
              exact .inr ⟨no_want rfl rfl (H.has 9 55 rfl rfl) (by decide), rfl⟩
            · intro A W H
              exact .inr ⟨no_want rfl rfl (H.has 9 55 rfl rfl) (by decide), rfl⟩
            · intro A W H
              exact .inr ⟨no_want rfl rfl (H.has 9 55 rfl rfl) (by decide), rfl⟩
            · intro A W H
              exact .inr ⟨no_want rfl rfl (H.has 9 55 rfl rfl) (by decide), rfl⟩
            · intro A W H
              exact .inr ⟨no_want rfl rfl (H.has 9 55 rfl rfl) (by decide), rfl⟩
            · intro A W H
              exact .inr ⟨no_want rfl rfl (H.has 9 55 rfl rfl) (by decide), rfl⟩
            · intro A W H
              exact .inr ⟨no_want rfl rfl (H.has 9 55 rfl rfl) (by decide), rfl⟩
            · intro A W H
              have e55 : (A.tmps[55]?).getD undef = (.bool true) := H.has 9 55 rfl rfl
              have e62 : (A.tmps[62]?).getD undef = undef := H.has 16 62 rfl rfl
              exact st_val (want_of rfl rfl (H.has 5 51 rfl rfl)) (v := .bool true) (by simp [go_sem, e55, e62]) rfl
            · intro A W H
              have e51 : (A.tmps[51]?).getD undef = (.bool true) := H.has 5 51 rfl rfl
              have e63 : (A.tmps[63]?).getD undef = (.bool true) := H.has 17 63 rfl rfl
              exact st_val rfl (v := .bool true) (by simp [go_sem, e51, e63]) rfl
            · intro A W H
              have e64 : (A.tmps[64]?).getD undef = (.bool true) := H.has 18 64 rfl rfl
              exact st_val rfl (v := (.bool true)) (by simp [go_sem, e64]) rfl
            · intro A W H
              refine st_call (want_of rfl rfl (H.has 19 65 rfl rfl)) (f := 8) (args := #[]) (by simp [go_sem]) ?_
              exact (HA.out W).mono fun e w' ⟨he, hk⟩ => ⟨_, he, hk, rfl⟩
            · intro A W H
              have e65 : (A.tmps[65]?).getD undef = (.bool true) := H.has 19 65 rfl rfl
              have e66 : (A.tmps[66]?).getD undef = (.bool true) := H.has 20 66 rfl rfl
              exact st_val rfl (v := .bool true) (by simp [go_sem, e65, e66]) rfl
            · intro A W H
              have e67 : (A.tmps[67]?).getD undef = (.bool true) := H.has 21 67 rfl rfl
              exact st_val rfl (v := (.bool true)) (by simp [go_sem, e67]) rfl
            · intro A W H
              exact hK A W (held_ret H rfl 4 rfl (H.has 22 4 rfl trivial) ⟨rfl, H.more⟩)
          · have hl' : (b.length : Int) ≤ 111 := by omega
            refine wp_region_relV 68 (by kernel_rfl) rfl (by kernel_rfl)
              [Is (.int .u64 v), Is (.int .i64 t), Is (.int .u64 (refKs.getD t 0)), Is (.int .u64 P), Is (.bool true), Is (.bool true), Is (.slice a b.length c), Is (.int .i64 b.length), Is (.bool false), Is (.bool false), Is (.slice a b.length c), RowIs .u8 (sha512 b), Is (.string (strOfNums (sha512 b))), Is (.slice a b.length c), RowIs .u8 (sha512 b), Is (.string (strOfNums (sha512 b))), Is (.bool true), Is (.bool true), Is (.bool true), Is (.bool true), Is (.bool true), Is (.bool true), Is (.bool true)]
              ⟨Is.lasts _, Is.lasts _, Is.lasts _, Is.lasts _, Is.lasts _, Is.lasts _, Is.lasts _, Is.lasts _, Is.lasts _, Is.lasts _, Is.lasts _, RowIs.lasts _ _, Is.lasts _, Is.lasts _, RowIs.lasts _ _, Is.lasts _, Is.lasts _, Is.lasts _, Is.lasts _, Is.lasts _, Is.lasts _, Is.lasts _, Is.lasts _, trivial⟩
              ⟨?_, ?_, ?_, ?_, ?_, ?_, ?_, ?_, ?_, ?_, ?_, ?_, ?_, ?_, ?_, ?_, ?_, ?_, ?_, ?_, ?_, ?_, ?_, trivial⟩ ?_
            · intro A W H
              have e9 : (A.tmps[9]?).getD undef = (.int .u64 v) := H.slot' 9 rfl
              exact st_val rfl (v := (.int .u64 v)) (by simp [go_sem, e9]) rfl
            · intro A W H
              have e0 : (A.tmps[0]?).getD undef = (.int .i64 t) := H.slot' 0 rfl
              exact st_val rfl (v := (.int .i64 t)) (by simp [go_sem, e0]) rfl
            · intro A W H
              have e47 : (A.tmps[47]?).getD undef = (.int .i64 t) := H.has 1 47 rfl rfl
              refine st_call rfl (f := 20) (args := #[.int .i64 t]) (by simp [go_sem, e47]) ?_
              exact (refConstant_any t W ht).mono fun e w' ⟨he, hk⟩ => ⟨_, he, hk, rfl⟩
            · intro A W H
              have e5 : (A.tmps[5]?).getD undef = (.int .u64 P) := H.slot' 5 rfl
              exact st_val rfl (v := (.int .u64 P)) (by simp [go_sem, e5]) rfl
            · intro A W H
              have e46 : (A.tmps[46]?).getD undef = (.int .u64 v) := H.has 0 46 rfl rfl
              have e48 : (A.tmps[48]?).getD undef = (.int .u64 (refKs.getD t 0)) := H.has 2 48 rfl rfl
              have e49 : (A.tmps[49]?).getD undef = (.int .u64 P) := H.has 3 49 rfl rfl
              refine st_call rfl (f := 19) (args := #[.int .u64 v, .int .u64 (refKs.getD t 0), .int .u64 P]) (by simp [go_sem, e46, e48, e49]) ?_
              exact (cube_any v (refKs.getD t 0) P W g3 g4 g1 g2).mono fun e w' ⟨he, hk⟩ => ⟨_, he, hk, rfl⟩
            · intro A W H
              have e50 : (A.tmps[50]?).getD undef = (.bool true) := H.has 4 50 rfl rfl
              exact st_val rfl (v := (.bool true)) (by simp [go_sem, e50]) rfl
            · intro A W H
              have e1 : (A.tmps[1]?).getD undef = (.slice a b.length c) := H.slot' 1 rfl
              exact st_val (want_of rfl rfl (H.has 5 51 rfl rfl)) (v := (.slice a b.length c)) (by simp [go_sem, e1]) rfl
            · intro A W H
              have e52 : (A.tmps[52]?).getD undef = (.slice a b.length c) := H.has 6 52 rfl rfl
              exact st_val (want_of rfl rfl (H.has 5 51 rfl rfl)) (v := (.int .i64 b.length)) (by simp [go_sem, e52]) rfl
            · intro A W H
              have e53 : (A.tmps[53]?).getD undef = (.int .i64 b.length) := H.has 7 53 rfl rfl
              exact st_val (want_of rfl rfl (H.has 5 51 rfl rfl)) (v := (.bool false)) (by simp [go_sem, e53, hl']) rfl
            · intro A W H
              have e54 : (A.tmps[54]?).getD undef = (.bool false) := H.has 8 54 rfl rfl
              exact st_val (want_of rfl rfl (H.has 5 51 rfl rfl)) (v := (.bool false)) (by simp [go_sem, e54]) rfl
            · intro A W H
              have e1 : (A.tmps[1]?).getD undef = (.slice a b.length c) := H.slot' 1 rfl
              exact st_val (want_of rfl rfl (H.has 9 55 rfl rfl)) (v := (.slice a b.length c)) (by simp [go_sem, e1]) rfl
            · intro A W H
              have e56 : (A.tmps[56]?).getD undef = (.slice a b.length c) := H.has 10 56 rfl rfl
              refine st_call (want_of rfl rfl (H.has 9 55 rfl rfl)) (f := 11) (args := #[.slice a b.length c]) (by simp [go_sem, e56]) ?_
              refine (H5.out a c b W (by omega) hc (hr.keeps H.more (fun _ _ h => h))).mono ?_
              rintro e w' ⟨v, rfl, hown, hk⟩
              exact ⟨v, rfl, hk, hown.rowIs⟩
            · intro A W H
              obtain ⟨a57, c57, e57, hc57, hr57⟩ := H.has 11 57 rfl rfl
              refine st_val (want_of rfl rfl (H.has 9 55 rfl rfl)) (v := .string (strOfNums (sha512 b))) ?_ rfl
              have cv := conv_str (P := Try.prog) 22 5 9 Try.underlying22 Try.underlying5 Try.underlying9 (c := c57) hr57
              simp [go_sem, e57, cv]
            · intro A W H
              have e1 : (A.tmps[1]?).getD undef = (.slice a b.length c) := H.slot' 1 rfl
              exact st_val (want_of rfl rfl (H.has 9 55 rfl rfl)) (v := (.slice a b.length c)) (by simp [go_sem, e1]) rfl
            · intro A W H
              have e59 : (A.tmps[59]?).getD undef = (.slice a b.length c) := H.has 13 59 rfl rfl
              refine st_call (want_of rfl rfl (H.has 9 55 rfl rfl)) (f := 12) (args := #[.slice a b.length c]) (by simp [go_sem, e59]) ?_
              refine (refSum512_any a c b W (by omega) hc.1 (hr.keeps H.more (fun _ _ h => h))).mono ?_
              rintro e w' ⟨v, rfl, hown, hk⟩
              exact ⟨v, rfl, hk, hown.rowIs⟩
            · intro A W H
              obtain ⟨a60, c60, e60, hc60, hr60⟩ := H.has 14 60 rfl rfl
              refine st_val (want_of rfl rfl (H.has 9 55 rfl rfl)) (v := .string (strOfNums (sha512 b))) ?_ rfl
              have cv := conv_str (P := Try.prog) 22 5 9 Try.underlying22 Try.underlying5 Try.underlying9 (c := c60) hr60
              simp [go_sem, e60, cv]
            · intro A W H
              have e58 : (A.tmps[58]?).getD undef = (.string (strOfNums (sha512 b))) := H.has 12 58 rfl rfl
              have e61 : (A.tmps[61]?).getD undef = (.string (strOfNums (sha512 b))) := H.has 15 61 rfl rfl
              exact st_val (want_of rfl rfl (H.has 9 55 rfl rfl)) (v := .bool true) (by simp [go_sem, e58, e61]) rfl
            · intro A W H
              have e55 : (A.tmps[55]?).getD undef = (.bool false) := H.has 9 55 rfl rfl
              have e62 : (A.tmps[62]?).getD undef = (.bool true) := H.has 16 62 rfl rfl
              exact st_val (want_of rfl rfl (H.has 5 51 rfl rfl)) (v := .bool true) (by simp [go_sem, e55, e62]) rfl
            · intro A W H
              have e51 : (A.tmps[51]?).getD undef = (.bool true) := H.has 5 51 rfl rfl
              have e63 : (A.tmps[63]?).getD undef = (.bool true) := H.has 17 63 rfl rfl
              exact st_val rfl (v := .bool true) (by simp [go_sem, e51, e63]) rfl
            · intro A W H
              have e64 : (A.tmps[64]?).getD undef = (.bool true) := H.has 18 64 rfl rfl
              exact st_val rfl (v := (.bool true)) (by simp [go_sem, e64]) rfl
            · intro A W H
              refine st_call (want_of rfl rfl (H.has 19 65 rfl rfl)) (f := 8) (args := #[]) (by simp [go_sem]) ?_
              exact (HA.out W).mono fun e w' ⟨he, hk⟩ => ⟨_, he, hk, rfl⟩
            · intro A W H
              have e65 : (A.tmps[65]?).getD undef = (.bool true) := H.has 19 65 rfl rfl
              have e66 : (A.tmps[66]?).getD undef = (.bool true) := H.has 20 66 rfl rfl
              exact st_val rfl (v := .bool true) (by simp [go_sem, e65, e66]) rfl
            · intro A W H
              have e67 : (A.tmps[67]?).getD undef = (.bool true) := H.has 21 67 rfl rfl
              exact st_val rfl (v := (.bool true)) (by simp [go_sem, e67]) rfl
            · intro A W H
              exact hK A W (held_ret H rfl 4 rfl (H.has 22 4 rfl trivial) ⟨rfl, H.more⟩)

theorem ShaConstants_walk (h256 : PSum256) (h512 : PSum512) (hb : PBlocks256) (t0 : Int) (_ : (Lit.int .i64 t0).wf = true) (a : Option Addr) (c : Nat) (b : List Int) {w : World} (hw : CapOk a c b.length ∧ RowAt (fun _ => True) .u8 w a b) (w1 : World) (he : w1 = w := by rfl) :
    Calls Try.prog 6 #[.int .i64 t0, .slice a b.length c] w1 fun e w' => e = .returned (.bool true) ∧ Keeps (fun _ => False) w1 w' := by
  subst he
  exact ShaConstants_any h256 h512 hb t0 a c b hw.1 w1 hw.2
end Go.Proofs.Ytoahgjhomnmmbaa
