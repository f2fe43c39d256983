/-
  Layer 6: the answer's Expand and Encrypt.
-/
import Derived.Test.YtgkccfjjjamhoaaA6I
namespace Go.Proofs.Ytgkccfjjjamhoaa
open Go.RowKit

def orcS (f : Nat) (ds : List LV) : Option LRes :=
  match f with
  | 60 => match ds with
    | [.agg (.flat .u8 a), .agg (.flat .u8 [f0, f1, f2, f3])] => if a.length = 16 then some (ret1 (arr8 (rmixP a [f0, f1, f2, f3]))) else none
    | _ => none
  | 57 => match ds with
    | [] => some (ret1 (arr8 SB))
    | _ => none
  | 58 => match ds with
    | [.im 1 16 _ (.flat .u8 a), .agg (.flat .u8 t)] => if a.length = 16 ∧ t.length = 256 ∧ byteOk a = true ∧ byteOk t = true then some (LRes.one (.own 1 176 5 (.flat .u8 (WW a t)))) else none
    | _ => none
  | _ => orcR f ds
theorem orcS_ok : Known Try.prog orcS := by
  intro f ds r h
  unfold orcS at h
  split at h
  · split at h
    · split at h
      · rename_i hc
        cases h
        exact ⟨⟨_, Try.func60, name_ne _ (by kernel_rfl), rfl⟩, rmix_call _ _ _ _ _ hc⟩
      · cases h
    · cases h
  · split at h
    · cases h
      exact ⟨⟨_, Try.func57, name_ne _ (by kernel_rfl), rfl⟩, execF_ok follows_ok ER_ok Try.func57 (rsubs_exec)⟩
    · cases h
  · split at h
    · split at h
      · rename_i hc
        cases h
        exact ⟨⟨_, Try.func58, name_ne _ (by kernel_rfl), rfl⟩, execF_ok follows_ok ER_ok Try.func58 (rsched_exec _ _ _ hc.1 hc.2.1 (byteAll hc.2.2.1) (byteAll hc.2.2.2))⟩
      · cases h
    · cases h
  · exact orcR_ok f ds r h
def ES : Env := ⟨tyL, orcS, false, noWk, noOrw⟩
theorem ES_ok : EnvOk Try.prog ES := ⟨tyL_ok, orcS_ok, noOrw_ok⟩
theorem oRsched (c : Option Nat) {a t : List Int} (h1 : a.length = 16) (h2 : t.length = 256) (h3 : By a) (h4 : By t) : ES.orc 58 [.im 1 16 c (.flat .u8 a), .agg (.flat .u8 t)] = some (.one (.own 1 176 5 (.flat .u8 (WW a t)))) := if_pos ⟨h1, h2, h3.ok, h4.ok⟩
theorem oRxor (c : Option Nat) {a b : List Int} (h1 : a.length = 16) (h2 : b.length = 16) : ES.orc 59 [.agg (.flat .u8 a), .im 1 16 c (.flat .u8 b)] = some (ret1 (arr8 (plusP a b))) := if_pos ⟨h1, h2, rfl⟩
theorem oRmix {a : List Int} (f0 f1 f2 f3 : Int) (h1 : a.length = 16) : ES.orc 60 [.agg (.flat .u8 a), .agg (.flat .u8 [f0, f1, f2, f3])] = some (ret1 (arr8 (rmixP a [f0, f1, f2, f3]))) := if_pos h1

theorem oRxorN (n : Nat) (c : Option Nat) {a b : List Int} (h1 : a.length = 16) (h2 : b.length = 16) (hn : n = 16) : ES.orc 59 [.agg (.flat .u8 a), .im 1 n c (.flat .u8 b)] = some (ret1 (arr8 (plusP a b))) := if_pos ⟨h1, h2, hn⟩
def subF (a : List Int) (m : Nat) : Int := g SB (g a (4 * ((m / 4 + m % 4) % 4) + m % 4)).toNat
theorem subF_all {a : List Int} (h : a.length = 16) : upd (subF a) (List.replicate 16 0) 16 = shiftP (replP a SB) := by
  obtain ⟨a0, a1, a2, a3, a4, a5, a6, a7, a8, a9, a10, a11, a12, a13, a14, a15, rfl⟩ := len16 h
  rw [upd_all _ _ (by rw [List.length_replicate])]
  kernel_rfl
set_option maxRecDepth 100000 in
set_option maxHeartbeats 1600000 in
theorem renc_no1 (n n2 : Nat) (c c2 : Option Nat) (x x2 : Cont) (hn : n ≠ 16) : execF ES Try.f48 [.im 1 n c x, .im 1 n2 c2 x2] (no2 1) := by
  have hq : ((n : Int) != 16) = true := by simp; omega
  ((conv => whnf); repeat ((first | refine ⟨fun _ => ?_, fun h => absurd (hq.symm.trans h) (by decide)⟩ | refine ⟨fun h => absurd (hq.symm.trans h) (by decide), fun _ => ?_⟩ | refine ⟨_, rfl, ?_⟩ | refine ⟨by decide, ?_⟩ | refine ⟨rfl, ?_⟩ | refine ⟨fun _ => ?_, fun h => absurd h (by decide)⟩ | refine ⟨fun h => absurd h (by decide), fun _ => ?_⟩ | refine ⟨inI_of (by omega), ?_⟩ | refine ⟨⟨rfl, inI_of (by omega)⟩, ?_⟩ | refine ⟨⟨rfl, by decide⟩, ?_⟩ | (apply Exists.intro; refine ⟨?_, ?_⟩; ((try simp only); (try simp only [Nat.zero_add]); (try simp only [Nat.mul_one]); (try simp only [Int.toNat_natCast]); exact at_g (by omega))) | (apply Exists.intro; refine ⟨?_, ?_⟩; ((try simp only); (try simp only [Nat.zero_add]); (try simp only [Nat.mul_one]); (try simp only [Int.toNat_natCast]); exact put_flat (by omega))) | refine ⟨_, cut_all (by omega), ?_⟩ | refine ⟨_, lay_all (by omega) (by omega), ?_⟩ | refine ⟨_, lay_all (by (try simp only); (try simp only [List.length_replicate]); (try simp only [List.length_cons]); (try simp only [List.length_nil]); omega) (by omega), ?_⟩ | refine ⟨by omega, ?_⟩ | refine ⟨len_flat (by omega), ?_⟩ | refine ⟨apart_uv _ _ _, ?_⟩ | refine ⟨_, resSlot_own rfl (by omega) (by first | exact .inl rfl | exact .inr ⟨rfl, rfl⟩), ?_⟩ | refine ⟨(by kernel_rfl : regB _ = true), ?_⟩ | refine ⟨⟨rfl, inI_of (by omega), by decide⟩, ?_⟩ | (apply Exists.intro; refine ⟨?_, ?_⟩; ((try simp only); (try simp only [Nat.zero_add]); (try simp only [Nat.mul_one]); (try simp only [Int.toNat_natCast]); exact at_drop_g (by omega))) | (apply Exists.intro; refine ⟨?_, ?_⟩; ((try simp only); (try simp only [Nat.zero_add]); (try simp only [Nat.mul_one]); (try simp only [Int.toNat_natCast]); exact cut_rest (by omega)))); conv => whnf))
  rfl
set_option maxRecDepth 100000 in
set_option maxHeartbeats 1600000 in
theorem renc_no2 (n2 : Nat) (c c2 : Option Nat) (x x2 : Cont) (hn : n2 ≠ 16) : execF ES Try.f48 [.im 1 16 c x, .im 1 n2 c2 x2] (no2 1) := by
  have hq : ((n2 : Int) != 16) = true := by simp; omega
  ((conv => whnf); repeat ((first | refine ⟨fun _ => ?_, fun h => absurd (hq.symm.trans h) (by decide)⟩ | refine ⟨fun h => absurd (hq.symm.trans h) (by decide), fun _ => ?_⟩ | refine ⟨_, rfl, ?_⟩ | refine ⟨by decide, ?_⟩ | refine ⟨rfl, ?_⟩ | refine ⟨fun _ => ?_, fun h => absurd h (by decide)⟩ | refine ⟨fun h => absurd h (by decide), fun _ => ?_⟩ | refine ⟨inI_of (by omega), ?_⟩ | refine ⟨⟨rfl, inI_of (by omega)⟩, ?_⟩ | refine ⟨⟨rfl, by decide⟩, ?_⟩ | (apply Exists.intro; refine ⟨?_, ?_⟩; ((try simp only); (try simp only [Nat.zero_add]); (try simp only [Nat.mul_one]); (try simp only [Int.toNat_natCast]); exact at_g (by omega))) | (apply Exists.intro; refine ⟨?_, ?_⟩; ((try simp only); (try simp only [Nat.zero_add]); (try simp only [Nat.mul_one]); (try simp only [Int.toNat_natCast]); exact put_flat (by omega))) | refine ⟨_, cut_all (by omega), ?_⟩ | refine ⟨_, lay_all (by omega) (by omega), ?_⟩ | refine ⟨_, lay_all (by (try simp only); (try simp only [List.length_replicate]); (try simp only [List.length_cons]); (try simp only [List.length_nil]); omega) (by omega), ?_⟩ | refine ⟨by omega, ?_⟩ | refine ⟨len_flat (by omega), ?_⟩ | refine ⟨apart_uv _ _ _, ?_⟩ | refine ⟨_, resSlot_own rfl (by omega) (by first | exact .inl rfl | exact .inr ⟨rfl, rfl⟩), ?_⟩ | refine ⟨(by kernel_rfl : regB _ = true), ?_⟩ | refine ⟨⟨rfl, inI_of (by omega), by decide⟩, ?_⟩ | (apply Exists.intro; refine ⟨?_, ?_⟩; ((try simp only); (try simp only [Nat.zero_add]); (try simp only [Nat.mul_one]); (try simp only [Int.toNat_natCast]); exact at_drop_g (by omega))) | (apply Exists.intro; refine ⟨?_, ?_⟩; ((try simp only); (try simp only [Nat.zero_add]); (try simp only [Nat.mul_one]); (try simp only [Int.toNat_natCast]); exact cut_rest (by omega)))); conv => whnf))
  rfl
set_option maxRecDepth 100000 in
set_option maxHeartbeats 1600000 in
theorem renc_ok (key block : List Int) (c c2 : Option Nat) (hk : key.length = 16) (hkb : By key) (hb : block.length = 16) (hbb : By block) : execF ES Try.f48 [.im 1 16 c (.flat .u8 key), .im 1 16 c2 (.flat .u8 block)] (ret2 (.own 1 16 5 (.flat .u8 (encS key block 10))) 0) := by
  have hSl := SB_len
  have hWl := WW_len (t := SB) hk
  have hsch := oRsched c hk SB_len hkb SB_by
  have hcut : ∀ r : Nat, r ≤ 10 → (Cont.flat .u8 (WW key SB)).cut (16 * r) 16 = some (.flat .u8 (kkP key SB r)) := by
    intro r hr
    have h := flatK_cut (f := kkP key SB) (kk_len hk) (n := 11) (i := r) (by omega) []
    rw [List.append_nil] at h
    rw [cut_flat (by omega)]
    exact congrArg (fun l => some (Cont.flat IntKind.u8 l)) h
  obtain ⟨W, hW⟩ : ∃ W, W = WW key SB := ⟨_, rfl⟩
  rw [← hW] at hWl hsch hcut
  have hk0 : (kkP key SB 0).length = 16 := kk_len hk 0
  have hcut0 := hcut 0 (by omega)
  ((conv => whnf); repeat ((first | refine ⟨_, hsch, ?_⟩ | refine ⟨_, expo_sl rfl hcut0, ?_⟩ | refine ⟨_, oRxorN _ _ hb hk0 (by kernel_rfl), ?_⟩ | refine ⟨len_flat (plusP_len _ _), ?_⟩ | refine ⟨_, lay_all (plusP_len _ _).symm (by rw [plusP_len]; decide), ?_⟩ | refine ⟨_, rfl, ?_⟩ | refine ⟨by decide, ?_⟩ | refine ⟨rfl, ?_⟩ | refine ⟨fun _ => ?_, fun h => absurd h (by decide)⟩ | refine ⟨fun h => absurd h (by decide), fun _ => ?_⟩ | refine ⟨inI_of (by omega), ?_⟩ | refine ⟨⟨rfl, inI_of (by omega)⟩, ?_⟩ | refine ⟨⟨rfl, by decide⟩, ?_⟩ | (apply Exists.intro; refine ⟨?_, ?_⟩; ((try simp only); (try simp only [Nat.zero_add]); (try simp only [Nat.mul_one]); (try simp only [Int.toNat_natCast]); exact at_g (by omega))) | (apply Exists.intro; refine ⟨?_, ?_⟩; ((try simp only); (try simp only [Nat.zero_add]); (try simp only [Nat.mul_one]); (try simp only [Int.toNat_natCast]); exact put_flat (by omega))) | refine ⟨_, cut_all (by omega), ?_⟩ | refine ⟨_, lay_all (by omega) (by omega), ?_⟩ | refine ⟨_, lay_all (by (try simp only); (try simp only [List.length_replicate]); (try simp only [List.length_cons]); (try simp only [List.length_nil]); omega) (by omega), ?_⟩ | refine ⟨by omega, ?_⟩ | refine ⟨len_flat (by omega), ?_⟩ | refine ⟨apart_uv _ _ _, ?_⟩ | refine ⟨_, resSlot_own rfl (by omega) (by first | exact .inl rfl | exact .inr ⟨rfl, rfl⟩), ?_⟩ | refine ⟨(by kernel_rfl : regB _ = true), ?_⟩ | refine ⟨⟨rfl, inI_of (by omega), by decide⟩, ?_⟩ | (apply Exists.intro; refine ⟨?_, ?_⟩; ((try simp only); (try simp only [Nat.zero_add]); (try simp only [Nat.mul_one]); (try simp only [Int.toNat_natCast]); exact at_drop_g (by omega))) | (apply Exists.intro; refine ⟨?_, ?_⟩; ((try simp only); (try simp only [Nat.zero_add]); (try simp only [Nat.mul_one]); (try simp only [Int.toNat_natCast]); exact cut_rest (by omega)))); conv => whnf))
  refine .inl ⟨fun n st => ∃ i : Nat, n = 10 - i ∧ i ≤ 10 ∧ st = ⟨[.im 1 16 c (.flat .u8 key), .im 1 16 c2 (.flat .u8 block), .poison, .poison, .poison, .poison, .ptr 48 0, .sl 1 192 0 176 none, .ptr 64 0, iv .i64 (i + 1 : Nat), .poison, .poison, .poison, .poison, .poison, .poison, .poison, .poison, .poison, .poison, .poison, .poison, .poison, .poison, .poison, .poison, .poison, .poison, .poison, .poison, .poison, .poison, .poison, .poison, .poison, .poison, .poison, .poison, .poison, .poison, .poison, .poison, .poison, .poison, .poison, .poison, .poison, .poison, .poison, .poison, .poison, .poison, .poison, .poison, .poison, .poison, .poison, .poison, .poison, .poison, .poison, .poison, .poison, .poison, .poison, .poison, .poison, .poison, .poison, .poison, .poison, .poison, .poison, .poison, .poison],
    [(48, ⟨.flat .u8 SB, 51, false⟩), (192, ⟨.flat .u8 W, 5, true⟩), (64, ⟨.flat .u8 (encS key block i), 53, false⟩)]⟩,
    ⟨[2, 3, 4, 5, 10, 11, 12, 13, 14, 15, 16, 17, 18, 19, 20, 21, 22, 23, 24, 25, 26, 27, 28, 29, 30, 31, 32, 33, 34, 35, 36, 37, 38, 39, 40, 41, 42, 43, 44, 45, 46, 47, 48, 49, 50, 51, 52, 53, 54, 55, 56, 57, 58, 59, 60, 61, 62, 63, 64, 65, 66, 67, 68, 69, 70, 71, 72, 73, 74], [], 10, 0, rfl, by omega, by kernel_rfl⟩, ?_⟩
  rintro _ _ ⟨i, rfl, hi, rfl⟩
  have hel := encS_len key block i
  have heb := encS_by hkb hbb i
  obtain ⟨a, ha⟩ : ∃ a, a = encS key block i := ⟨_, rfl⟩
  rw [← ha] at hel heb ⊢
  conv => whnf
  refine ⟨fun h => ?_, fun h => ?_⟩
  · have h := of_decide_eq_true h
    ((conv => whnf); repeat ((first | refine ⟨_, rfl, ?_⟩ | refine ⟨by decide, ?_⟩ | refine ⟨rfl, ?_⟩ | refine ⟨fun _ => ?_, fun h => absurd h (by decide)⟩ | refine ⟨fun h => absurd h (by decide), fun _ => ?_⟩ | refine ⟨inI_of (by omega), ?_⟩ | refine ⟨⟨rfl, inI_of (by omega)⟩, ?_⟩ | refine ⟨⟨rfl, by decide⟩, ?_⟩ | (apply Exists.intro; refine ⟨?_, ?_⟩; ((try simp only); (try simp only [Nat.zero_add]); (try simp only [Nat.mul_one]); (try simp only [Int.toNat_natCast]); exact at_g (by omega))) | (apply Exists.intro; refine ⟨?_, ?_⟩; ((try simp only); (try simp only [Nat.zero_add]); (try simp only [Nat.mul_one]); (try simp only [Int.toNat_natCast]); exact put_flat (by omega))) | refine ⟨_, cut_all (by omega), ?_⟩ | refine ⟨_, lay_all (by omega) (by omega), ?_⟩ | refine ⟨_, lay_all (by (try simp only); (try simp only [List.length_replicate]); (try simp only [List.length_cons]); (try simp only [List.length_nil]); omega) (by omega), ?_⟩ | refine ⟨by omega, ?_⟩ | refine ⟨len_flat (by omega), ?_⟩ | refine ⟨apart_uv _ _ _, ?_⟩ | refine ⟨_, resSlot_own rfl (by omega) (by first | exact .inl rfl | exact .inr ⟨rfl, rfl⟩), ?_⟩ | refine ⟨(by kernel_rfl : regB _ = true), ?_⟩ | refine ⟨⟨rfl, inI_of (by omega), by decide⟩, ?_⟩ | (apply Exists.intro; refine ⟨?_, ?_⟩; ((try simp only); (try simp only [Nat.zero_add]); (try simp only [Nat.mul_one]); (try simp only [Int.toNat_natCast]); exact at_drop_g (by omega))) | (apply Exists.intro; refine ⟨?_, ?_⟩; ((try simp only); (try simp only [Nat.zero_add]); (try simp only [Nat.mul_one]); (try simp only [Int.toNat_natCast]); exact cut_rest (by omega)))); conv => whnf))
    refine .inl ⟨fun n st => ∃ q : Nat, n = 4 - q ∧ q ≤ 4 ∧ st = ⟨[.im 1 16 c (.flat .u8 key), .im 1 16 c2 (.flat .u8 block), .poison, .poison, .poison, .poison, .ptr 48 0, .sl 1 192 0 176 none, .ptr 64 0, iv .i64 (i + 1 : Nat), .ptr 80 0, .poison, .poison, .poison, .poison, .poison, .poison, .poison, .poison, .poison, .poison, .poison, .poison, .poison, .poison, .poison, .poison, .poison, .poison, .poison, .poison, .poison, .poison, .poison, .poison, iv .i64 q, .poison, .poison, .poison, .poison, .poison, .poison, .poison, .poison, .poison, .poison, .poison, .poison, .poison, .poison, .poison, .poison, .poison, .poison, .poison, .poison, .poison, .poison, .poison, .poison, .poison, .poison, .poison, .poison, .poison, .poison, .poison, .poison, .poison, .poison, .poison, .poison, .poison, .poison, .poison],
      [(48, ⟨.flat .u8 SB, 51, false⟩), (192, ⟨.flat .u8 W, 5, true⟩), (64, ⟨.flat .u8 a, 53, false⟩), (80, ⟨.flat .u8 (upd (subF a) (List.replicate 16 0) (4 * q)), 53, false⟩)]⟩,
      ⟨[2, 3, 4, 5, 11, 12, 13, 14, 15, 16, 17, 18, 19, 20, 21, 22, 23, 24, 25, 26, 27, 28, 29, 30, 31, 32, 33, 34, 36, 37, 38, 39, 40, 41, 42, 43, 44, 45, 46, 47, 48, 49, 50, 51, 52, 53, 54, 55, 56, 57, 58, 59, 60, 61, 62, 63, 64, 65, 66, 67, 68, 69, 70, 71, 72, 73, 74], [], 4, 0, rfl, by omega, by rw [show 4 * 0 = 0 from rfl, upd_zero]; kernel_rfl⟩, ?_⟩
    rintro _ _ ⟨q, rfl, hq, rfl⟩
    conv => whnf
    refine ⟨fun h2 => ?_, fun h2 => ?_⟩
    · have h2 := of_decide_eq_true h2
      ((conv => whnf); repeat ((first | refine ⟨_, rfl, ?_⟩ | refine ⟨by decide, ?_⟩ | refine ⟨rfl, ?_⟩ | refine ⟨fun _ => ?_, fun h => absurd h (by decide)⟩ | refine ⟨fun h => absurd h (by decide), fun _ => ?_⟩ | refine ⟨inI_of (by omega), ?_⟩ | refine ⟨⟨rfl, inI_of (by omega)⟩, ?_⟩ | refine ⟨⟨rfl, by decide⟩, ?_⟩ | (apply Exists.intro; refine ⟨?_, ?_⟩; ((try simp only); (try simp only [Nat.zero_add]); (try simp only [Nat.mul_one]); (try simp only [Int.toNat_natCast]); exact at_g (by omega))) | (apply Exists.intro; refine ⟨?_, ?_⟩; ((try simp only); (try simp only [Nat.zero_add]); (try simp only [Nat.mul_one]); (try simp only [Int.toNat_natCast]); exact put_flat (by omega))) | refine ⟨_, cut_all (by omega), ?_⟩ | refine ⟨_, lay_all (by omega) (by omega), ?_⟩ | refine ⟨_, lay_all (by (try simp only); (try simp only [List.length_replicate]); (try simp only [List.length_cons]); (try simp only [List.length_nil]); omega) (by omega), ?_⟩ | refine ⟨by omega, ?_⟩ | refine ⟨len_flat (by omega), ?_⟩ | refine ⟨apart_uv _ _ _, ?_⟩ | refine ⟨_, resSlot_own rfl (by omega) (by first | exact .inl rfl | exact .inr ⟨rfl, rfl⟩), ?_⟩ | refine ⟨(by kernel_rfl : regB _ = true), ?_⟩ | refine ⟨⟨rfl, inI_of (by omega), by decide⟩, ?_⟩ | (apply Exists.intro; refine ⟨?_, ?_⟩; ((try simp only); (try simp only [Nat.zero_add]); (try simp only [Nat.mul_one]); (try simp only [Int.toNat_natCast]); exact at_drop_g (by omega))) | (apply Exists.intro; refine ⟨?_, ?_⟩; ((try simp only); (try simp only [Nat.zero_add]); (try simp only [Nat.mul_one]); (try simp only [Int.toNat_natCast]); exact cut_rest (by omega)))); conv => whnf))
      refine .inl ⟨fun n st => ∃ r : Nat, n = 4 - r ∧ r ≤ 4 ∧ st = ⟨[.im 1 16 c (.flat .u8 key), .im 1 16 c2 (.flat .u8 block), .poison, .poison, .poison, .poison, .ptr 48 0, .sl 1 192 0 176 none, .ptr 64 0, iv .i64 (i + 1 : Nat), .ptr 80 0, iv .i64 q, .poison, .poison, .poison, .poison, .poison, .poison, .poison, .poison, .poison, .poison, .poison, .poison, .poison, .poison, .poison, .poison, .poison, .poison, .poison, .poison, .poison, .poison, .poison, iv .i64 q, .poison, .poison, iv .i64 r, .poison, .poison, .poison, .poison, .poison, .poison, .poison, .poison, .poison, .poison, .poison, .poison, .poison, .poison, .poison, .poison, .poison, .poison, .poison, .poison, .poison, .poison, .poison, .poison, .poison, .poison, .poison, .poison, .poison, .poison, .poison, .poison, .poison, .poison, .poison, .poison],
        [(48, ⟨.flat .u8 SB, 51, false⟩), (192, ⟨.flat .u8 W, 5, true⟩), (64, ⟨.flat .u8 a, 53, false⟩), (80, ⟨.flat .u8 (upd (subF a) (List.replicate 16 0) (4 * q + r)), 53, false⟩)]⟩,
        ⟨[2, 3, 4, 5, 12, 13, 14, 15, 16, 17, 18, 19, 20, 21, 22, 23, 24, 25, 26, 27, 28, 29, 30, 31, 32, 33, 34, 36, 37, 39, 40, 41, 42, 43, 44, 45, 46, 47, 48, 49, 50, 51, 52, 53, 54, 55, 56, 57, 58, 59, 60, 61, 62, 63, 64, 65, 66, 67, 68, 69, 70, 71, 72, 73, 74], [], 4, 0, rfl, by omega, by kernel_rfl⟩, ?_⟩
      rintro _ _ ⟨r, rfl, hr, rfl⟩
      have hul := upd_len (subF a) (List.replicate 16 0) (4 * q + r)
      have hz : (List.replicate 16 (0 : Int)).length = 16 := by rw [List.length_replicate]
      conv => whnf
      refine ⟨fun h3 => ?_, fun h3 => ?_⟩
      · have h3 := of_decide_eq_true h3
        have eq4 : IntKind.i64.wrap (4 * (q : Int)) = ((4 * q : Nat) : Int) := by rw [wrap64 (by omega)]; omega
        have eqr : IntKind.i64.wrap (((4 * q : Nat) : Int) + (r : Int)) = ((4 * q + r : Nat) : Int) := by rw [wrap64 (by omega)]; omega
        have es : IntKind.i64.wrap ((q : Int) + (r : Int)) = ((q + r : Nat) : Int) := by rw [wrap64 (by omega)]; omega
        have et : ((q + r : Nat) : Int).tmod 4 = (((q + r) % 4 : Nat) : Int) := tmod_nat _ _
        have e4 : IntKind.i64.wrap (4 * (((q + r) % 4 : Nat) : Int)) = ((4 * ((q + r) % 4) : Nat) : Int) := by rw [wrap64 (by omega)]; omega
        have e5 : IntKind.i64.wrap (((4 * ((q + r) % 4) : Nat) : Int) + (r : Int)) = ((4 * ((q + r) % 4) + r : Nat) : Int) := by rw [wrap64 (by omega)]; omega
        have hg := heb.g (4 * ((q + r) % 4) + r)
        have hF : subF a (4 * q + r) = g SB (g a (4 * ((q + r) % 4) + r)).toNat := by
          rw [subF, show (4 * q + r) / 4 = q by omega, show (4 * q + r) % 4 = r by omega]
        ((conv => whnf); repeat ((first | refine ⟨_, rfl, ?_⟩ | refine ⟨by decide, ?_⟩ | refine ⟨rfl, ?_⟩ | refine ⟨fun _ => ?_, fun h => absurd h (by decide)⟩ | refine ⟨fun h => absurd h (by decide), fun _ => ?_⟩ | refine ⟨inI_of (by omega), ?_⟩ | refine ⟨⟨rfl, inI_of (by omega)⟩, ?_⟩ | refine ⟨⟨rfl, by decide⟩, ?_⟩ | refine ⟨by (try simp only); (try simp only [eq4]); (try simp only [eqr]); (try simp only [es]); (try simp only [et]); (try simp only [e4]); (try simp only [e5]); exact inI_of (by omega), ?_⟩ | refine ⟨⟨rfl, by (try simp only); (try simp only [eq4]); (try simp only [eqr]); (try simp only [es]); (try simp only [et]); (try simp only [e4]); (try simp only [e5]); exact inI_of (by omega)⟩, ?_⟩ | (apply Exists.intro; refine ⟨?_, ?_⟩; ((try simp only); (try simp only [eq4]); (try simp only [eqr]); (try simp only [es]); (try simp only [et]); (try simp only [e4]); (try simp only [e5]); (try simp only [Nat.zero_add]); (try simp only [Nat.mul_one]); (try simp only [Int.toNat_natCast]); (try simp only [eq4]); (try simp only [eqr]); (try simp only [es]); (try simp only [et]); (try simp only [e4]); (try simp only [e5]); (try simp only [Nat.zero_add]); (try simp only [Nat.mul_one]); (try simp only [Int.toNat_natCast]); exact at_g (by omega))) | (apply Exists.intro; refine ⟨?_, ?_⟩; ((try simp only); (try simp only [eq4]); (try simp only [eqr]); (try simp only [es]); (try simp only [et]); (try simp only [e4]); (try simp only [e5]); (try simp only [Nat.zero_add]); (try simp only [Nat.mul_one]); (try simp only [Int.toNat_natCast]); (try simp only [eq4]); (try simp only [eqr]); (try simp only [es]); (try simp only [et]); (try simp only [e4]); (try simp only [e5]); (try simp only [Nat.zero_add]); (try simp only [Nat.mul_one]); (try simp only [Int.toNat_natCast]); exact put_flat (by omega))) | refine ⟨_, cut_all (by omega), ?_⟩ | refine ⟨_, lay_all (by omega) (by omega), ?_⟩ | refine ⟨_, lay_all (by (try simp only); (try simp only [List.length_replicate]); (try simp only [List.length_cons]); (try simp only [List.length_nil]); omega) (by omega), ?_⟩ | refine ⟨by omega, ?_⟩ | refine ⟨len_flat (by omega), ?_⟩ | refine ⟨apart_uv _ _ _, ?_⟩ | refine ⟨_, resSlot_own rfl (by omega) (by first | exact .inl rfl | exact .inr ⟨rfl, rfl⟩), ?_⟩ | refine ⟨(by kernel_rfl : regB _ = true), ?_⟩ | refine ⟨⟨rfl, inI_of (by omega), by decide⟩, ?_⟩ | refine ⟨⟨rfl, by (try simp only); (try simp only [eq4]); (try simp only [eqr]); (try simp only [es]); (try simp only [et]); (try simp only [e4]); (try simp only [e5]); exact inI_of (by omega), by decide⟩, ?_⟩ | (apply Exists.intro; refine ⟨?_, ?_⟩; ((try simp only); (try simp only [eq4]); (try simp only [eqr]); (try simp only [es]); (try simp only [et]); (try simp only [e4]); (try simp only [e5]); (try simp only [Nat.zero_add]); (try simp only [Nat.mul_one]); (try simp only [Int.toNat_natCast]); (try simp only [eq4]); (try simp only [eqr]); (try simp only [es]); (try simp only [et]); (try simp only [e4]); (try simp only [e5]); (try simp only [Nat.zero_add]); (try simp only [Nat.mul_one]); (try simp only [Int.toNat_natCast]); exact at_drop_g (by omega))) | (apply Exists.intro; refine ⟨?_, ?_⟩; ((try simp only); (try simp only [eq4]); (try simp only [eqr]); (try simp only [es]); (try simp only [et]); (try simp only [e4]); (try simp only [e5]); (try simp only [Nat.zero_add]); (try simp only [Nat.mul_one]); (try simp only [Int.toNat_natCast]); (try simp only [eq4]); (try simp only [eqr]); (try simp only [es]); (try simp only [et]); (try simp only [e4]); (try simp only [e5]); (try simp only [Nat.zero_add]); (try simp only [Nat.mul_one]); (try simp only [Int.toNat_natCast]); exact cut_rest (by omega)))); conv => whnf))
        have e1 : IntKind.i64.wrap ((r : Int) + 1) = ((r + 1 : Nat) : Int) := by rw [wrap64 (by omega)]; omega
        have e2 := upd_set (subF a) (List.replicate 16 0) (i := 4 * q + r) (by omega)
        rw [hF] at e2
        refine ⟨[2, 3, 4, 5, 12, 13, 14, 15, 16, 17, 18, 19, 20, 21, 22, 23, 24, 25, 26, 27, 28, 29, 30, 31, 32, 33, 34, 36, 37, 39, 40, 41, 42, 43, 44, 45, 46, 47, 48, 49, 50, 51, 52, 53, 54, 55, 56, 57, 58, 59, 60, 61, 62, 63, 64, 65, 66, 67, 68, 69, 70, 71, 72, 73, 74], [], _, ?_, r + 1, rfl, by omega, ?_⟩
        · omega
        · rw [← e1, ← Nat.add_assoc, ← e2]; kernel_rfl
      · have h3 := of_decide_eq_false h3
        have hr' : r = 4 := by omega
        subst hr'
        ((conv => whnf); repeat ((first | refine ⟨_, rfl, ?_⟩ | refine ⟨by decide, ?_⟩ | refine ⟨rfl, ?_⟩ | refine ⟨fun _ => ?_, fun h => absurd h (by decide)⟩ | refine ⟨fun h => absurd h (by decide), fun _ => ?_⟩ | refine ⟨inI_of (by omega), ?_⟩ | refine ⟨⟨rfl, inI_of (by omega)⟩, ?_⟩ | refine ⟨⟨rfl, by decide⟩, ?_⟩ | (apply Exists.intro; refine ⟨?_, ?_⟩; ((try simp only); (try simp only [Nat.zero_add]); (try simp only [Nat.mul_one]); (try simp only [Int.toNat_natCast]); exact at_g (by omega))) | (apply Exists.intro; refine ⟨?_, ?_⟩; ((try simp only); (try simp only [Nat.zero_add]); (try simp only [Nat.mul_one]); (try simp only [Int.toNat_natCast]); exact put_flat (by omega))) | refine ⟨_, cut_all (by omega), ?_⟩ | refine ⟨_, lay_all (by omega) (by omega), ?_⟩ | refine ⟨_, lay_all (by (try simp only); (try simp only [List.length_replicate]); (try simp only [List.length_cons]); (try simp only [List.length_nil]); omega) (by omega), ?_⟩ | refine ⟨by omega, ?_⟩ | refine ⟨len_flat (by omega), ?_⟩ | refine ⟨apart_uv _ _ _, ?_⟩ | refine ⟨_, resSlot_own rfl (by omega) (by first | exact .inl rfl | exact .inr ⟨rfl, rfl⟩), ?_⟩ | refine ⟨(by kernel_rfl : regB _ = true), ?_⟩ | refine ⟨⟨rfl, inI_of (by omega), by decide⟩, ?_⟩ | (apply Exists.intro; refine ⟨?_, ?_⟩; ((try simp only); (try simp only [Nat.zero_add]); (try simp only [Nat.mul_one]); (try simp only [Int.toNat_natCast]); exact at_drop_g (by omega))) | (apply Exists.intro; refine ⟨?_, ?_⟩; ((try simp only); (try simp only [Nat.zero_add]); (try simp only [Nat.mul_one]); (try simp only [Int.toNat_natCast]); exact cut_rest (by omega)))); conv => whnf))
        have e1 : IntKind.i64.wrap ((q : Int) + 1) = ((q + 1 : Nat) : Int) := by rw [wrap64 (by omega)]; omega
        refine ⟨[2, 3, 4, 5, 11, 12, 13, 14, 15, 16, 17, 18, 19, 20, 21, 22, 23, 24, 25, 26, 27, 28, 29, 30, 31, 32, 33, 34, 36, 37, 38, 39, 40, 41, 42, 43, 44, 45, 46, 47, 48, 49, 50, 51, 52, 53, 54, 55, 56, 57, 58, 59, 60, 61, 62, 63, 64, 65, 66, 67, 68, 69, 70, 71, 72, 73, 74], [], _, ?_, q + 1, rfl, by omega, ?_⟩
        · omega
        · rw [← e1, show 4 * (q + 1) = 4 * q + 4 by omega]; kernel_rfl
    · have h2 := of_decide_eq_false h2
      have hq' : q = 4 := by omega
      subst hq'
      rw [show 4 * 4 = 16 from rfl, subF_all hel]
      obtain ⟨b, hbd⟩ : ∃ b, b = shiftP (replP a SB) := ⟨_, rfl⟩
      have hbl : b.length = 16 := by rw [hbd]; exact shiftP_len _
      have hb8 : By b := by rw [hbd]; exact shiftP_by (replP_by SB_by)
      rw [← hbd]
      obtain ⟨k1, hk1⟩ : ∃ k1, k1 = kkP key SB (i + 1) := ⟨_, rfl⟩
      have hk1l : k1.length = 16 := by rw [hk1]; exact kk_len hk _
      have hcutI := hcut (i + 1) (by omega)
      rw [← hk1] at hcutI
      have er : IntKind.i64.wrap (16 * ((i + 1 : Nat) : Int)) = ((16 * (i + 1) : Nat) : Int) := by rw [wrap64 (by omega)]; omega
      have er2 : IntKind.i64.wrap (((16 * (i + 1) : Nat) : Int) + 16) = ((16 * (i + 1) + 16 : Nat) : Int) := by rw [wrap64 (by omega)]; omega
      have er3 : IntKind.i64.wrap (IntKind.i64.wrap (16 * ((i + 1 : Nat) : Int)) + 16) = ((16 * (i + 1) + 16 : Nat) : Int) := by rw [er, er2]
      have hlo : LV.v (.int .i64 (IntKind.i64.wrap (16 * ((i + 1 : Nat) : Int)))) = .v (.int .i64 ((16 * (i + 1) : Nat) : Int)) := by rw [er]
      have hhi : LV.v (.int .i64 (IntKind.i64.wrap (IntKind.i64.wrap (16 * ((i + 1 : Nat) : Int)) + 16))) = .v (.int .i64 ((16 * (i + 1) + 16 : Nat) : Int)) := by rw [er3]
      have hcI : (Cont.flat .u8 W).cut (0 + 16 * (i + 1) * 1) (16 * 1) = some (.flat .u8 k1) := by rw [Nat.zero_add, Nat.mul_one]; exact hcutI
      have e1 : IntKind.i64.wrap (((i + 1 : Nat) : Int) + 1) = ((i + 1 + 1 : Nat) : Int) := by rw [wrap64 (by omega)]; omega
      ((conv => whnf); repeat ((first | refine ⟨_, rfl, ?_⟩ | refine ⟨by decide, ?_⟩ | refine ⟨rfl, ?_⟩ | refine ⟨fun _ => ?_, fun h => absurd h (by decide)⟩ | refine ⟨fun h => absurd h (by decide), fun _ => ?_⟩ | refine ⟨inI_of (by omega), ?_⟩ | refine ⟨⟨rfl, inI_of (by omega)⟩, ?_⟩ | refine ⟨⟨rfl, by decide⟩, ?_⟩ | (apply Exists.intro; refine ⟨?_, ?_⟩; ((try simp only); (try simp only [Nat.zero_add]); (try simp only [Nat.mul_one]); (try simp only [Int.toNat_natCast]); exact at_g (by omega))) | (apply Exists.intro; refine ⟨?_, ?_⟩; ((try simp only); (try simp only [Nat.zero_add]); (try simp only [Nat.mul_one]); (try simp only [Int.toNat_natCast]); exact put_flat (by omega))) | refine ⟨_, cut_all (by omega), ?_⟩ | refine ⟨_, lay_all (by omega) (by omega), ?_⟩ | refine ⟨_, lay_all (by (try simp only); (try simp only [List.length_replicate]); (try simp only [List.length_cons]); (try simp only [List.length_nil]); omega) (by omega), ?_⟩ | refine ⟨by omega, ?_⟩ | refine ⟨len_flat (by omega), ?_⟩ | refine ⟨apart_uv _ _ _, ?_⟩ | refine ⟨_, resSlot_own rfl (by omega) (by first | exact .inl rfl | exact .inr ⟨rfl, rfl⟩), ?_⟩ | refine ⟨(by kernel_rfl : regB _ = true), ?_⟩ | refine ⟨⟨rfl, inI_of (by omega), by decide⟩, ?_⟩ | (apply Exists.intro; refine ⟨?_, ?_⟩; ((try simp only); (try simp only [Nat.zero_add]); (try simp only [Nat.mul_one]); (try simp only [Int.toNat_natCast]); exact at_drop_g (by omega))) | (apply Exists.intro; refine ⟨?_, ?_⟩; ((try simp only); (try simp only [Nat.zero_add]); (try simp only [Nat.mul_one]); (try simp only [Int.toNat_natCast]); exact cut_rest (by omega)))); conv => whnf))
      refine ⟨fun h9 => ?br1, fun h9 => ?br2⟩
      case' br1 =>
        have h9 := of_decide_eq_true h9
        ((conv => whnf); repeat ((first | refine ⟨_, oRmix _ _ _ _ hbl, ?_⟩ | refine ⟨_, slice_own (l := 16 * (i + 1)) (m := 16) rfl rfl hlo hhi (by omega), ?_⟩ | refine ⟨_, expo_sl rfl hcI, ?_⟩ | refine ⟨_, oRxorN _ _ len_map hk1l rfl, ?_⟩ | refine ⟨len_flat len_map, ?_⟩ | refine ⟨_, lay16 (by assumption) len_map, ?_⟩ | refine ⟨_, cut_all len_map, ?_⟩ | refine ⟨_, rfl, ?_⟩ | refine ⟨by decide, ?_⟩ | refine ⟨rfl, ?_⟩ | refine ⟨fun _ => ?_, fun h => absurd h (by decide)⟩ | refine ⟨fun h => absurd h (by decide), fun _ => ?_⟩ | refine ⟨inI_of (by omega), ?_⟩ | refine ⟨⟨rfl, inI_of (by omega)⟩, ?_⟩ | refine ⟨⟨rfl, by decide⟩, ?_⟩ | (apply Exists.intro; refine ⟨?_, ?_⟩; ((try simp only); (try simp only [Nat.zero_add]); (try simp only [Nat.mul_one]); (try simp only [Int.toNat_natCast]); exact at_g (by omega))) | (apply Exists.intro; refine ⟨?_, ?_⟩; ((try simp only); (try simp only [Nat.zero_add]); (try simp only [Nat.mul_one]); (try simp only [Int.toNat_natCast]); exact put_flat (by omega))) | refine ⟨_, cut_all (by omega), ?_⟩ | refine ⟨_, lay_all (by omega) (by omega), ?_⟩ | refine ⟨_, lay_all (by (try simp only); (try simp only [List.length_replicate]); (try simp only [List.length_cons]); (try simp only [List.length_nil]); omega) (by omega), ?_⟩ | refine ⟨by omega, ?_⟩ | refine ⟨len_flat (by omega), ?_⟩ | refine ⟨apart_uv _ _ _, ?_⟩ | refine ⟨_, resSlot_own rfl (by omega) (by first | exact .inl rfl | exact .inr ⟨rfl, rfl⟩), ?_⟩ | refine ⟨(by kernel_rfl : regB _ = true), ?_⟩ | refine ⟨⟨rfl, inI_of (by omega), by decide⟩, ?_⟩ | (apply Exists.intro; refine ⟨?_, ?_⟩; ((try simp only); (try simp only [Nat.zero_add]); (try simp only [Nat.mul_one]); (try simp only [Int.toNat_natCast]); exact at_drop_g (by omega))) | (apply Exists.intro; refine ⟨?_, ?_⟩; ((try simp only); (try simp only [Nat.zero_add]); (try simp only [Nat.mul_one]); (try simp only [Int.toNat_natCast]); exact cut_rest (by omega)))); conv => whnf))
        rw [rmix2 hbl hb8]
        have e5 : plusP (mixP b) k1 = encS key block (i + 1) := by rw [encS, if_pos (by omega), hk1, hbd, ha]
      case' br2 =>
        have h9 := of_decide_eq_false h9
        ((conv => whnf); repeat ((first | refine ⟨_, slice_own (l := 16 * (i + 1)) (m := 16) rfl rfl hlo hhi (by omega), ?_⟩ | refine ⟨_, expo_sl rfl hcI, ?_⟩ | refine ⟨_, oRxorN _ _ hbl hk1l rfl, ?_⟩ | refine ⟨len_flat len_map, ?_⟩ | refine ⟨_, lay16 (by assumption) len_map, ?_⟩ | refine ⟨_, cut_all (by with_reducible first | assumption | exact len_map), ?_⟩ | refine ⟨_, rfl, ?_⟩ | refine ⟨by decide, ?_⟩ | refine ⟨rfl, ?_⟩ | refine ⟨fun _ => ?_, fun h => absurd h (by decide)⟩ | refine ⟨fun h => absurd h (by decide), fun _ => ?_⟩ | refine ⟨inI_of (by omega), ?_⟩ | refine ⟨⟨rfl, inI_of (by omega)⟩, ?_⟩ | refine ⟨⟨rfl, by decide⟩, ?_⟩ | (apply Exists.intro; refine ⟨?_, ?_⟩; ((try simp only); (try simp only [Nat.zero_add]); (try simp only [Nat.mul_one]); (try simp only [Int.toNat_natCast]); exact at_g (by omega))) | (apply Exists.intro; refine ⟨?_, ?_⟩; ((try simp only); (try simp only [Nat.zero_add]); (try simp only [Nat.mul_one]); (try simp only [Int.toNat_natCast]); exact put_flat (by omega))) | refine ⟨_, cut_all (by omega), ?_⟩ | refine ⟨_, lay_all (by omega) (by omega), ?_⟩ | refine ⟨_, lay_all (by (try simp only); (try simp only [List.length_replicate]); (try simp only [List.length_cons]); (try simp only [List.length_nil]); omega) (by omega), ?_⟩ | refine ⟨by omega, ?_⟩ | refine ⟨len_flat (by omega), ?_⟩ | refine ⟨apart_uv _ _ _, ?_⟩ | refine ⟨_, resSlot_own rfl (by omega) (by first | exact .inl rfl | exact .inr ⟨rfl, rfl⟩), ?_⟩ | refine ⟨(by kernel_rfl : regB _ = true), ?_⟩ | refine ⟨⟨rfl, inI_of (by omega), by decide⟩, ?_⟩ | (apply Exists.intro; refine ⟨?_, ?_⟩; ((try simp only); (try simp only [Nat.zero_add]); (try simp only [Nat.mul_one]); (try simp only [Int.toNat_natCast]); exact at_drop_g (by omega))) | (apply Exists.intro; refine ⟨?_, ?_⟩; ((try simp only); (try simp only [Nat.zero_add]); (try simp only [Nat.mul_one]); (try simp only [Int.toNat_natCast]); exact cut_rest (by omega)))); conv => whnf))
        have e5 : plusP b k1 = encS key block (i + 1) := by rw [encS, if_neg (by omega), hk1, hbd, ha]
      all_goals
        rw [e5]
        refine ⟨[2, 3, 4, 5, 10, 11, 12, 13, 14, 15, 16, 17, 18, 19, 20, 21, 22, 23, 24, 25, 26, 27, 28, 29, 30, 31, 32, 33, 34, 35, 36, 37, 38, 39, 40, 41, 42, 43, 44, 45, 46, 47, 48, 49, 50, 51, 52, 53, 54, 55, 56, 57, 58, 59, 60, 61, 62, 63, 64, 65, 66, 67, 68, 69, 70, 71, 72, 73, 74], [80], _, ?_, i + 1, rfl, by omega, ?_⟩
        · omega
        · rw [← e1]; kernel_rfl
  · have h := of_decide_eq_false h
    have hi' : i = 10 := by omega
    subst hi'
    rw [← ha]
    have htk : a.take (16 * 1) = a := List.take_of_length_le (by omega)
    have hca : (Cont.flat .u8 a).cut 0 (16 * 1) = some (.flat .u8 a) := cut_all hel
    ((conv => whnf); repeat ((first | refine ⟨_, append_nil (cnt := 16) rfl rfl (shown_sl rfl hca) rfl rfl rfl (by omega) (by omega), ?_⟩ | refine ⟨_, rfl, ?_⟩ | refine ⟨by decide, ?_⟩ | refine ⟨rfl, ?_⟩ | refine ⟨fun _ => ?_, fun h => absurd h (by decide)⟩ | refine ⟨fun h => absurd h (by decide), fun _ => ?_⟩ | refine ⟨inI_of (by omega), ?_⟩ | refine ⟨⟨rfl, inI_of (by omega)⟩, ?_⟩ | refine ⟨⟨rfl, by decide⟩, ?_⟩ | (apply Exists.intro; refine ⟨?_, ?_⟩; ((try simp only); (try simp only [Nat.zero_add]); (try simp only [Nat.mul_one]); (try simp only [Int.toNat_natCast]); exact at_g (by omega))) | (apply Exists.intro; refine ⟨?_, ?_⟩; ((try simp only); (try simp only [Nat.zero_add]); (try simp only [Nat.mul_one]); (try simp only [Int.toNat_natCast]); exact put_flat (by omega))) | refine ⟨_, cut_all (by omega), ?_⟩ | refine ⟨_, lay_all (by omega) (by omega), ?_⟩ | refine ⟨_, lay_all (by (try simp only); (try simp only [List.length_replicate]); (try simp only [List.length_cons]); (try simp only [List.length_nil]); omega) (by omega), ?_⟩ | refine ⟨by omega, ?_⟩ | refine ⟨len_flat (by omega), ?_⟩ | refine ⟨apart_uv _ _ _, ?_⟩ | refine ⟨_, resSlot_own rfl (by omega) (by first | exact .inl rfl | exact .inr ⟨rfl, rfl⟩), ?_⟩ | refine ⟨(by kernel_rfl : regB _ = true), ?_⟩ | refine ⟨⟨rfl, inI_of (by omega), by decide⟩, ?_⟩ | (apply Exists.intro; refine ⟨?_, ?_⟩; ((try simp only); (try simp only [Nat.zero_add]); (try simp only [Nat.mul_one]); (try simp only [Int.toNat_natCast]); exact at_drop_g (by omega))) | (apply Exists.intro; refine ⟨?_, ?_⟩; ((try simp only); (try simp only [Nat.zero_add]); (try simp only [Nat.mul_one]); (try simp only [Int.toNat_natCast]); exact cut_rest (by omega)))); conv => whnf))
    refine Eq.trans ?_ (show ret2 (.own 1 16 5 (.flat .u8 (a.take (16 * 1)))) 0 = ret2 (.own 1 16 5 (.flat .u8 a)) 0 by rw [htk])
    rfl
end Go.Proofs.Ytgkccfjjjamhoaa

/-
  Layer 6: the answer's Decrypt.
-/
namespace Go.Proofs.Ytgkccfjjjamhoaa
open Go.RowKit

def sq (a : List Int) : Nat → List Int
  | 0 => List.replicate 16 0
  | m + 1 => (sq a m).set (4 * ((m / 4 + m % 4) % 4) + m % 4) (g IB (g a m).toNat)
theorem sq_len (a : List Int) : ∀ m, (sq a m).length = 16
  | 0 => by rw [sq, List.length_replicate]
  | m + 1 => by rw [sq, List.length_set, sq_len a m]
theorem sq_all {a : List Int} (h : a.length = 16) : sq a 16 = replP (unshiftP a) IB := by
  obtain ⟨a0, a1, a2, a3, a4, a5, a6, a7, a8, a9, a10, a11, a12, a13, a14, a15, rfl⟩ := len16 h
  kernel_rfl
end Go.Proofs.Ytgkccfjjjamhoaa
