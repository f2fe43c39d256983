/-
  Layer 8: sums, differences and products of numbers of four words.
-/
import Derived.Test.YtdeigmjbcbjgeaaGreatDoorYaF1
namespace Go.Proofs.YtdeigmjbcbjgeaaGreatDoor
open Go.RowKit

theorem isOU {f : Nat} {ds : List LV} {K : LRes → Prop} (h : ∃ y, EU.orc f ds = some y ∧ K y) : ∃ y, EU.orc f ds = some y ∧ K y := h
abbrev two (n : Nat) (c : Nat) : LRes := .many [.val (W n), .val (iv .u64 (c : Nat))]
set_option maxRecDepth 100000 in
set_option maxHeartbeats 1600000 in
theorem rplus_call (a b : Nat) (ha : a < 2 ^ 256) (hb : b < 2 ^ 256) : CallOk Tryz.prog 98 [W a, W b] (two (a + b) ((a + b) / 2 ^ 256)) := by
  obtain ⟨a0, a1, a2, a3, ea, ua0, ua1, ua2, ua3, qa⟩ := wd_split a ha
  obtain ⟨b0, b1, b2, b3, eb, ub0, ub1, ub2, ub3, qb⟩ := wd_split b hb
  obtain ⟨s0, c0, f0, us0, uc0, q0⟩ := oAdd ua0 ub0 (Or.inl rfl : (0 : Int) = 0 ∨ (0 : Int) = 1)
  obtain ⟨s1, c1, f1, us1, uc1, q1⟩ := oAdd ua1 ub1 uc0
  obtain ⟨s2, c2, f2, us2, uc2, q2⟩ := oAdd ua2 ub2 uc1
  obtain ⟨s3, c3, f3, us3, uc3, q3⟩ := oAdd ua3 ub3 uc2
  obtain ⟨er, ec⟩ := wd_of (n := a + b) (e := c3) us0 us1 us2 us3 (by omega)
  rw [two, W, W, W, ea, eb, er, ec]
  refine execF_ok follows_ok EU_ok Tryz.func98 ?_
  ((conv => whnf); repeat ((first | refine .inr ⟨5, ?_⟩ | ((with_reducible refine isOU ?_); first | refine ⟨_, f0, ?_⟩ | refine ⟨_, f1, ?_⟩ | refine ⟨_, f2, ?_⟩ | refine ⟨_, f3, ?_⟩) | refine ⟨_, rfl, ?_⟩ | refine ⟨by decide, ?_⟩ | refine ⟨rfl, ?_⟩ | refine ⟨fun _ => ?_, fun h => absurd h (by decide)⟩ | refine ⟨fun h => absurd h (by decide), fun _ => ?_⟩ | refine ⟨inI_of (by omega), ?_⟩ | refine ⟨⟨rfl, inI_of (by omega)⟩, ?_⟩ | refine ⟨⟨rfl, by decide⟩, ?_⟩ | (apply Exists.intro; refine ⟨?_, ?_⟩; ((try simp only); (try simp only [Nat.zero_add]); (try simp only [Nat.mul_one]); (try simp only [Int.toNat_natCast]); first | exact at_g (by omega) | exact put_flat (by omega))) | refine ⟨_, cut_all (by omega), ?_⟩ | refine ⟨_, lay_all (by omega) (by omega), ?_⟩ | refine ⟨_, lay_all (by (try simp only); (try simp only [List.length_replicate]); (try simp only [List.length_cons]); (try simp only [List.length_nil]); omega) (by omega), ?_⟩ | refine ⟨by omega, ?_⟩ | refine ⟨len_flat (by omega), ?_⟩ | refine ⟨apart_uv _ _ _, ?_⟩ | refine ⟨_, resSlot_own rfl (by omega) (by first | exact .inl rfl | exact .inr ⟨rfl, rfl⟩), ?_⟩ | refine ⟨(by kernel_rfl : regB _ = true), ?_⟩ | refine ⟨⟨rfl, inI_of (by omega), by decide⟩, ?_⟩ | (apply Exists.intro; refine ⟨?_, ?_⟩; ((try simp only); (try simp only [Nat.zero_add]); (try simp only [Nat.mul_one]); (try simp only [Int.toNat_natCast]); first | exact at_drop_g (by omega) | exact cut_rest (by omega)))); conv => whnf))
  rfl
set_option maxRecDepth 100000 in
set_option maxHeartbeats 1600000 in
theorem rminus_call (a b : Nat) (ha : a < 2 ^ 256) (hb : b < 2 ^ 256) : CallOk Tryz.prog 99 [W a, W b] (two (a + 2 ^ 256 - b) (if a < b then 1 else 0)) := by
  obtain ⟨a0, a1, a2, a3, ea, ua0, ua1, ua2, ua3, qa⟩ := wd_split a ha
  obtain ⟨b0, b1, b2, b3, eb, ub0, ub1, ub2, ub3, qb⟩ := wd_split b hb
  obtain ⟨s0, c0, f0, us0, uc0, q0⟩ := oSub ua0 ub0 (Or.inl rfl : (0 : Int) = 0 ∨ (0 : Int) = 1)
  obtain ⟨s1, c1, f1, us1, uc1, q1⟩ := oSub ua1 ub1 uc0
  obtain ⟨s2, c2, f2, us2, uc2, q2⟩ := oSub ua2 ub2 uc1
  obtain ⟨s3, c3, f3, us3, uc3, q3⟩ := oSub ua3 ub3 uc2
  obtain ⟨er, ec⟩ := wd_of (n := a + 2 ^ 256 - b) (e := 1 - c3) us0 us1 us2 us3 (by omega)
  have hc : (((if a < b then 1 else 0 : Nat)) : Int) = c3 := by
    unfold U at *
    by_cases h : a < b
    · rw [if_pos h]; omega
    · rw [if_neg h]; omega
  rw [two, W, W, W, ea, eb, er, hc]
  refine execF_ok follows_ok EU_ok Tryz.func99 ?_
  ((conv => whnf); repeat ((first | refine .inr ⟨5, ?_⟩ | ((with_reducible refine isOU ?_); first | refine ⟨_, f0, ?_⟩ | refine ⟨_, f1, ?_⟩ | refine ⟨_, f2, ?_⟩ | refine ⟨_, f3, ?_⟩) | refine ⟨_, rfl, ?_⟩ | refine ⟨by decide, ?_⟩ | refine ⟨rfl, ?_⟩ | refine ⟨fun _ => ?_, fun h => absurd h (by decide)⟩ | refine ⟨fun h => absurd h (by decide), fun _ => ?_⟩ | refine ⟨inI_of (by omega), ?_⟩ | refine ⟨⟨rfl, inI_of (by omega)⟩, ?_⟩ | refine ⟨⟨rfl, by decide⟩, ?_⟩ | (apply Exists.intro; refine ⟨?_, ?_⟩; ((try simp only); (try simp only [Nat.zero_add]); (try simp only [Nat.mul_one]); (try simp only [Int.toNat_natCast]); first | exact at_g (by omega) | exact put_flat (by omega))) | refine ⟨_, cut_all (by omega), ?_⟩ | refine ⟨_, lay_all (by omega) (by omega), ?_⟩ | refine ⟨_, lay_all (by (try simp only); (try simp only [List.length_replicate]); (try simp only [List.length_cons]); (try simp only [List.length_nil]); omega) (by omega), ?_⟩ | refine ⟨by omega, ?_⟩ | refine ⟨len_flat (by omega), ?_⟩ | refine ⟨apart_uv _ _ _, ?_⟩ | refine ⟨_, resSlot_own rfl (by omega) (by first | exact .inl rfl | exact .inr ⟨rfl, rfl⟩), ?_⟩ | refine ⟨(by kernel_rfl : regB _ = true), ?_⟩ | refine ⟨⟨rfl, inI_of (by omega), by decide⟩, ?_⟩ | (apply Exists.intro; refine ⟨?_, ?_⟩; ((try simp only); (try simp only [Nat.zero_add]); (try simp only [Nat.mul_one]); (try simp only [Int.toNat_natCast]); first | exact at_drop_g (by omega) | exact cut_rest (by omega)))); conv => whnf))
  rfl
set_option maxRecDepth 100000 in
set_option maxHeartbeats 1600000 in
theorem plus_call (a b : Nat) (ha : a < 2 ^ 256) (hb : b < 2 ^ 256) : CallOk Tryz.prog 100 [W a, W b] (two (a + b) ((a + b) / 2 ^ 256)) := by
  obtain ⟨a0, a1, a2, a3, ea, ua0, ua1, ua2, ua3, qa⟩ := wd_split a ha
  obtain ⟨b0, b1, b2, b3, eb, ub0, ub1, ub2, ub3, qb⟩ := wd_split b hb
  obtain ⟨s0, c0, f0, us0, uc0, q0⟩ := oAdd ua0 ub0 (Or.inl rfl : (0 : Int) = 0 ∨ (0 : Int) = 1)
  obtain ⟨s1, c1, f1, us1, uc1, q1⟩ := oAdd ua1 ub1 uc0
  obtain ⟨s2, c2, f2, us2, uc2, q2⟩ := oAdd ua2 ub2 uc1
  obtain ⟨s3, c3, f3, us3, uc3, q3⟩ := oAdd ua3 ub3 uc2
  obtain ⟨er, ec⟩ := wd_of (n := a + b) (e := c3) us0 us1 us2 us3 (by omega)
  rw [two, W, W, W, ea, eb, er, ec]
  refine execF_ok follows_ok EU_ok Tryz.func100 ?_
  ((conv => whnf); repeat ((first | refine .inr ⟨5, ?_⟩ | ((with_reducible refine isOU ?_); first | refine ⟨_, f0, ?_⟩ | refine ⟨_, f1, ?_⟩ | refine ⟨_, f2, ?_⟩ | refine ⟨_, f3, ?_⟩) | refine ⟨_, rfl, ?_⟩ | refine ⟨by decide, ?_⟩ | refine ⟨rfl, ?_⟩ | refine ⟨fun _ => ?_, fun h => absurd h (by decide)⟩ | refine ⟨fun h => absurd h (by decide), fun _ => ?_⟩ | refine ⟨inI_of (by omega), ?_⟩ | refine ⟨⟨rfl, inI_of (by omega)⟩, ?_⟩ | refine ⟨⟨rfl, by decide⟩, ?_⟩ | (apply Exists.intro; refine ⟨?_, ?_⟩; ((try simp only); (try simp only [Nat.zero_add]); (try simp only [Nat.mul_one]); (try simp only [Int.toNat_natCast]); first | exact at_g (by omega) | exact put_flat (by omega))) | refine ⟨_, cut_all (by omega), ?_⟩ | refine ⟨_, lay_all (by omega) (by omega), ?_⟩ | refine ⟨_, lay_all (by (try simp only); (try simp only [List.length_replicate]); (try simp only [List.length_cons]); (try simp only [List.length_nil]); omega) (by omega), ?_⟩ | refine ⟨by omega, ?_⟩ | refine ⟨len_flat (by omega), ?_⟩ | refine ⟨apart_uv _ _ _, ?_⟩ | refine ⟨_, resSlot_own rfl (by omega) (by first | exact .inl rfl | exact .inr ⟨rfl, rfl⟩), ?_⟩ | refine ⟨(by kernel_rfl : regB _ = true), ?_⟩ | refine ⟨⟨rfl, inI_of (by omega), by decide⟩, ?_⟩ | (apply Exists.intro; refine ⟨?_, ?_⟩; ((try simp only); (try simp only [Nat.zero_add]); (try simp only [Nat.mul_one]); (try simp only [Int.toNat_natCast]); first | exact at_drop_g (by omega) | exact cut_rest (by omega)))); conv => whnf))
  rfl
set_option maxRecDepth 100000 in
set_option maxHeartbeats 1600000 in
theorem minus_call (a b : Nat) (ha : a < 2 ^ 256) (hb : b < 2 ^ 256) : CallOk Tryz.prog 120 [W a, W b] (two (a + 2 ^ 256 - b) (if a < b then 1 else 0)) := by
  obtain ⟨a0, a1, a2, a3, ea, ua0, ua1, ua2, ua3, qa⟩ := wd_split a ha
  obtain ⟨b0, b1, b2, b3, eb, ub0, ub1, ub2, ub3, qb⟩ := wd_split b hb
  obtain ⟨s0, c0, f0, us0, uc0, q0⟩ := oSub ua0 ub0 (Or.inl rfl : (0 : Int) = 0 ∨ (0 : Int) = 1)
  obtain ⟨s1, c1, f1, us1, uc1, q1⟩ := oSub ua1 ub1 uc0
  obtain ⟨s2, c2, f2, us2, uc2, q2⟩ := oSub ua2 ub2 uc1
  obtain ⟨s3, c3, f3, us3, uc3, q3⟩ := oSub ua3 ub3 uc2
  obtain ⟨er, ec⟩ := wd_of (n := a + 2 ^ 256 - b) (e := 1 - c3) us0 us1 us2 us3 (by omega)
  have hc : (((if a < b then 1 else 0 : Nat)) : Int) = c3 := by
    unfold U at *
    by_cases h : a < b
    · rw [if_pos h]; omega
    · rw [if_neg h]; omega
  rw [two, W, W, W, ea, eb, er, hc]
  refine execF_ok follows_ok EU_ok Tryz.func120 ?_
  ((conv => whnf); repeat ((first | refine .inr ⟨5, ?_⟩ | ((with_reducible refine isOU ?_); first | refine ⟨_, f0, ?_⟩ | refine ⟨_, f1, ?_⟩ | refine ⟨_, f2, ?_⟩ | refine ⟨_, f3, ?_⟩) | refine ⟨_, rfl, ?_⟩ | refine ⟨by decide, ?_⟩ | refine ⟨rfl, ?_⟩ | refine ⟨fun _ => ?_, fun h => absurd h (by decide)⟩ | refine ⟨fun h => absurd h (by decide), fun _ => ?_⟩ | refine ⟨inI_of (by omega), ?_⟩ | refine ⟨⟨rfl, inI_of (by omega)⟩, ?_⟩ | refine ⟨⟨rfl, by decide⟩, ?_⟩ | (apply Exists.intro; refine ⟨?_, ?_⟩; ((try simp only); (try simp only [Nat.zero_add]); (try simp only [Nat.mul_one]); (try simp only [Int.toNat_natCast]); first | exact at_g (by omega) | exact put_flat (by omega))) | refine ⟨_, cut_all (by omega), ?_⟩ | refine ⟨_, lay_all (by omega) (by omega), ?_⟩ | refine ⟨_, lay_all (by (try simp only); (try simp only [List.length_replicate]); (try simp only [List.length_cons]); (try simp only [List.length_nil]); omega) (by omega), ?_⟩ | refine ⟨by omega, ?_⟩ | refine ⟨len_flat (by omega), ?_⟩ | refine ⟨apart_uv _ _ _, ?_⟩ | refine ⟨_, resSlot_own rfl (by omega) (by first | exact .inl rfl | exact .inr ⟨rfl, rfl⟩), ?_⟩ | refine ⟨(by kernel_rfl : regB _ = true), ?_⟩ | refine ⟨⟨rfl, inI_of (by omega), by decide⟩, ?_⟩ | (apply Exists.intro; refine ⟨?_, ?_⟩; ((try simp only); (try simp only [Nat.zero_add]); (try simp only [Nat.mul_one]); (try simp only [Int.toNat_natCast]); first | exact at_drop_g (by omega) | exact cut_rest (by omega)))); conv => whnf))
  rfl

/-- A product of words, with two words added. -/
def wpr (x y a b : Int) : Int := x * y + a + b
set_option maxRecDepth 100000 in
set_option maxHeartbeats 1600000 in
theorem word_call {x y a b : Int} (ux : U x) (uy : U y) (ua : U a) (ub : U b) : CallOk Tryz.prog 115 [iv .u64 x, iv .u64 y, iv .u64 a, iv .u64 b] (.many [.val (iv .u64 (wpr x y a b % 18446744073709551616)), .val (iv .u64 (wpr x y a b / 18446744073709551616))]) := by
  obtain ⟨h, l, f0, uh, ul, q0, h0⟩ := oMul ux uy
  obtain ⟨s, c, f1, us, uc, q1⟩ := oAdd ul ua (Or.inl rfl : (0 : Int) = 0 ∨ (0 : Int) = 1)
  obtain ⟨t, d, f2, ut, ud, q2⟩ := oAdd us ub (Or.inl rfl : (0 : Int) = 0 ∨ (0 : Int) = 1)
  have hp : x * y ≤ 18446744073709551615 * 18446744073709551615 := Int.mul_le_mul (by unfold U at ux; omega) (by unfold U at uy; omega) uy.1 (by omega)
  have e0 : wpr x y a b % 18446744073709551616 = t := by unfold U wpr at *; omega
  have e1 : wpr x y a b / 18446744073709551616 = IntKind.u64.wrap (IntKind.u64.wrap (h + c) + d) := by
    rw [IntKind.wrap_u64, IntKind.wrap_u64]; unfold U wpr at *; omega
  rw [e0, e1]
  refine execF_ok follows_ok EU_ok Tryz.func115 ?_
  ((conv => whnf); repeat ((first | ((with_reducible refine isOU ?_); first | refine ⟨_, f0, ?_⟩ | refine ⟨_, f1, ?_⟩ | refine ⟨_, f2, ?_⟩) | refine ⟨_, rfl, ?_⟩ | refine ⟨by decide, ?_⟩ | refine ⟨rfl, ?_⟩ | refine ⟨fun _ => ?_, fun h => absurd h (by decide)⟩ | refine ⟨fun h => absurd h (by decide), fun _ => ?_⟩ | refine ⟨inI_of (by omega), ?_⟩ | refine ⟨⟨rfl, inI_of (by omega)⟩, ?_⟩ | refine ⟨⟨rfl, by decide⟩, ?_⟩ | (apply Exists.intro; refine ⟨?_, ?_⟩; ((try simp only); (try simp only [Nat.zero_add]); (try simp only [Nat.mul_one]); (try simp only [Int.toNat_natCast]); first | exact at_g (by omega) | exact put_flat (by omega))) | refine ⟨_, cut_all (by omega), ?_⟩ | refine ⟨_, lay_all (by omega) (by omega), ?_⟩ | refine ⟨_, lay_all (by (try simp only); (try simp only [List.length_replicate]); (try simp only [List.length_cons]); (try simp only [List.length_nil]); omega) (by omega), ?_⟩ | refine ⟨by omega, ?_⟩ | refine ⟨len_flat (by omega), ?_⟩ | refine ⟨apart_uv _ _ _, ?_⟩ | refine ⟨_, resSlot_own rfl (by omega) (by first | exact .inl rfl | exact .inr ⟨rfl, rfl⟩), ?_⟩ | refine ⟨(by kernel_rfl : regB _ = true), ?_⟩ | refine ⟨⟨rfl, inI_of (by omega), by decide⟩, ?_⟩ | (apply Exists.intro; refine ⟨?_, ?_⟩; ((try simp only); (try simp only [Nat.zero_add]); (try simp only [Nat.mul_one]); (try simp only [Int.toNat_natCast]); first | exact at_drop_g (by omega) | exact cut_rest (by omega)))); conv => whnf))
  rfl
def orcV (f : Nat) (ds : List LV) : Option LRes :=
  match f with
  | 115 => match ds with
    | [.v (.int .u64 x), .v (.int .u64 y), .v (.int .u64 a), .v (.int .u64 b)] => if U x ∧ U y ∧ U a ∧ U b then some (.many [.val (iv .u64 (wpr x y a b % 18446744073709551616)), .val (iv .u64 (wpr x y a b / 18446744073709551616))]) else none
    | _ => none
  | _ => orcU f ds
theorem orcV_ok : Known Tryz.prog orcV := by
  intro f ds r h
  unfold orcV at h
  split at h
  · split at h
    · split at h
      · rename_i hc
        cases h
        exact .inl ⟨⟨_, Tryz.func115, name_ne _ (by kernel_rfl), rfl⟩, word_call hc.1 hc.2.1 hc.2.2.1 hc.2.2.2⟩
      · cases h
    · cases h
  · exact orcU_ok f ds r h
def EV : Env := ⟨tyL, orcV, false, noWk, noOrw⟩
theorem EV_ok : EnvOk Tryz.prog EV := ⟨tyL_ok, orcV_ok, noOrw_ok⟩
theorem oWord {x y a b : Int} (ux : U x) (uy : U y) (ua : U a) (ub : U b) : ∃ l h : Int, EV.orc 115 [iv .u64 x, iv .u64 y, iv .u64 a, iv .u64 b] = some (.many [.val (iv .u64 l), .val (iv .u64 h)]) ∧ U l ∧ U h ∧ l + 18446744073709551616 * h = x * y + a + b := by
  refine ⟨_, _, if_pos ⟨ux, uy, ua, ub⟩, ?_⟩
  have hn : 0 ≤ x * y := Int.mul_nonneg ux.1 uy.1
  have hp : x * y ≤ 18446744073709551615 * 18446744073709551615 := Int.mul_le_mul (by unfold U at ux; omega) (by unfold U at uy; omega) uy.1 (by omega)
  unfold U wpr at *
  generalize x * y = p at *
  omega

theorem dg_hi (n i : Nat) : dg n (i + 4) = dg (n / 2 ^ 256) i := by
  have e : n / 18446744073709551616 ^ (i + 4) = n / 2 ^ 256 / 18446744073709551616 ^ i := by
    rw [Nat.div_div_eq_div_mul, Nat.pow_add, Nat.mul_comm]
  rw [dg, dg, e]
theorem wd8_two (n : Nat) : wd8 n = wd (n % 2 ^ 256) ++ wd (n / 2 ^ 256) := by
  rw [wd_mod]
  show [dg n 0, dg n 1, dg n 2, dg n 3, dg n (0 + 4), dg n (1 + 4), dg n (2 + 4), dg n (3 + 4)] = _
  rw [dg_hi, dg_hi, dg_hi, dg_hi]
  rfl
theorem wd8_of {n : Nat} {a b c d e f g h : Int} (ha : U a) (hb : U b) (hc : U c) (hd : U d) (he : U e) (hf : U f) (hg : U g) (hh : U h)
    (q : (n : Int) = a + 18446744073709551616 * b + 340282366920938463463374607431768211456 * c + 6277101735386680763835789423207666416102355444464034512896 * d + 115792089237316195423570985008687907853269984665640564039457584007913129639936 * e + 2135987035920910082395021706169552114602704522356652769947041607822219725780640550022962086936576 * f + 39402006196394479212279040100143613805079739270465446667948293404245721771497210611414266254884915640806627990306816 * g + 726838724295606890549323807888004534353641360687318060281490199180639288113397923326191050713763565560762521606266177933534601628614656 * h) : wd8 n = [a, b, c, d, e, f, g, h] := by
  obtain ⟨L, hL⟩ : ∃ L : Int, L = a + 18446744073709551616 * b + 340282366920938463463374607431768211456 * c + 6277101735386680763835789423207666416102355444464034512896 * d := ⟨_, rfl⟩
  obtain ⟨H, hH⟩ : ∃ H : Int, H = e + 18446744073709551616 * f + 340282366920938463463374607431768211456 * g + 6277101735386680763835789423207666416102355444464034512896 * h := ⟨_, rfl⟩
  have hL1 : 0 ≤ L ∧ L < 115792089237316195423570985008687907853269984665640564039457584007913129639936 := by unfold U at *; omega
  have hH1 : 0 ≤ H := by unfold U at *; omega
  have hq : (n : Int) = L + 115792089237316195423570985008687907853269984665640564039457584007913129639936 * H := by omega
  clear q
  have e1 : ((n % 2 ^ 256 : Nat) : Int) = L := by clear hL hH; omega
  have e2 : ((n / 2 ^ 256 : Nat) : Int) = H := by clear hL hH; omega
  rw [wd8_two, (wd_of (e := 0) ha hb hc hd (by rw [e1, hL]; omega)).1, (wd_of (e := 0) he hf hg hh (by rw [e2, hH]; omega)).1]
  rfl
theorem vl_append4 (a b c d : Int) (l : List Int) : vl ([a, b, c, d] ++ l) = vl [a, b, c, d] + 2 ^ 256 * vl l := by
  simp only [List.cons_append, List.nil_append, vl]
  omega
theorem vl_wd8_lt (n : Nat) : vl (wd8 n) < 2 ^ 512 := by
  rw [wd8_two]
  show vl ([dg (n % 2 ^ 256) 0, dg (n % 2 ^ 256) 1, dg (n % 2 ^ 256) 2, dg (n % 2 ^ 256) 3] ++ wd (n / 2 ^ 256)) < _
  rw [vl_append4]
  have h1 := vl_wd_lt (n % 2 ^ 256)
  have h2 := vl_wd_lt (n / 2 ^ 256)
  change vl (wd (n % 2 ^ 256)) + 2 ^ 256 * vl (wd (n / 2 ^ 256)) < _
  omega
theorem vl8_lt {l : List Int} (h : isW8 l = true) : vl l < 2 ^ 512 := by
  have e := vl_wd8_lt (vl l)
  rwa [← isW8_eq h] at e
/-- One step of the answer's product: three calls. -/
theorem oStep {x y p q : Int} (ux : U x) (uy : U y) (up : U p) (uq : U q) : ∃ h l s c t d : Int, EU.orc 113 [iv .u64 x, iv .u64 y] = some (.many [.val (iv .u64 h), .val (iv .u64 l)]) ∧
    EU.orc 114 [iv .u64 l, iv .u64 p, iv .u64 0] = some (.many [.val (iv .u64 s), .val (iv .u64 c)]) ∧ EU.orc 114 [iv .u64 s, iv .u64 q, iv .u64 0] = some (.many [.val (iv .u64 t), .val (iv .u64 d)]) ∧
    U t ∧ U (IntKind.u64.wrap (IntKind.u64.wrap (h + c) + d)) ∧ t + 18446744073709551616 * IntKind.u64.wrap (IntKind.u64.wrap (h + c) + d) = x * y + p + q := by
  obtain ⟨h, l, f0, uh, ul, q0, h0⟩ := oMul ux uy
  obtain ⟨s, c, f1, us, uc, q1⟩ := oAdd ul up (Or.inl rfl : (0 : Int) = 0 ∨ (0 : Int) = 1)
  obtain ⟨t, d, f2, ut, ud, q2⟩ := oAdd us uq (Or.inl rfl : (0 : Int) = 0 ∨ (0 : Int) = 1)
  have hp : x * y ≤ 18446744073709551615 * 18446744073709551615 := Int.mul_le_mul (by unfold U at ux; omega) (by unfold U at uy; omega) uy.1 (by omega)
  refine ⟨h, l, s, c, t, d, f0, f1, f2, ut, ?_, ?_⟩
  · rw [IntKind.wrap_u64]; unfold U; omega
  · rw [IntKind.wrap_u64, IntKind.wrap_u64]; unfold U at *; omega
end Go.Proofs.YtdeigmjbcbjgeaaGreatDoor
