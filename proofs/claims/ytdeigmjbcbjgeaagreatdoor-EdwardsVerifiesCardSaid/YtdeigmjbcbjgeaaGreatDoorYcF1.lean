import Derived.Lib.Mul64
import Derived.Laws.Bits64b
import Derived.Shelf.Spec.BitsCarry
import Derived.Test.YtdeigmjbcbjgeaaGreatDoorYcLst
import Derived.Test.YtdeigmjbcbjgeaaGreatDoorYcTypes
namespace Go.Proofs.YtdeigmjbcbjgeaaGreatDoor
open Go.RowKit
def U (x : Int) : Prop := 0 ≤ x ∧ x < 18446744073709551616
instance (x : Int) : Decidable (U x) := inferInstanceAs (Decidable (_ ∧ _))
theorem U_zero : U 0 := ⟨by decide, by decide⟩
def dg (n i : Nat) : Int := ((n / 18446744073709551616 ^ i % 18446744073709551616 : Nat) : Int)
theorem dg_U (n i : Nat) : U (dg n i) := by unfold dg U; omega
def wd (n : Nat) : List Int := [dg n 0, dg n 1, dg n 2, dg n 3]
def wd8 (n : Nat) : List Int := [dg n 0, dg n 1, dg n 2, dg n 3, dg n 4, dg n 5, dg n 6, dg n 7]
abbrev W (n : Nat) : LV := .agg (.flat .u64 (wd n))
abbrev W8 (n : Nat) : LV := .agg (.flat .u64 (wd8 n))
def vl : List Int → Nat
 | [] => 0
 | x :: l => x.toNat + 18446744073709551616 * vl l
def isW (l : List Int) : Bool := l == wd (vl l)
def isW8 (l : List Int) : Bool := l == wd8 (vl l)
theorem isW_eq {l : List Int} (h : isW l = true) : l = wd (vl l) := by simpa [isW] using h
theorem isW8_eq {l : List Int} (h : isW8 l = true) : l = wd8 (vl l) := by simpa [isW8] using h
theorem dg_lit (n : Nat) : dg n 0 = ((n % 18446744073709551616 : Nat) : Int) ∧ dg n 1 = ((n / 18446744073709551616 % 18446744073709551616 : Nat) : Int) ∧
  dg n 2 = ((n / 340282366920938463463374607431768211456 % 18446744073709551616 : Nat) : Int) ∧ dg n 3 = ((n / 6277101735386680763835789423207666416102355444464034512896 % 18446744073709551616 : Nat) : Int) := by
 refine ⟨?_, ?_, ?_, ?_⟩ <;> simp [dg]
theorem wd_vl (n : Nat) (h : n < 2 ^ 256) : vl (wd n) = n := by
 obtain ⟨h0, h1, h2, h3⟩ := dg_lit n
 simp only [wd, vl, h0, h1, h2, h3]
 omega
theorem vl_wd_lt (n : Nat) : vl (wd n) < 2 ^ 256 := by
 obtain ⟨h0, h1, h2, h3⟩ := dg_lit n
 simp only [wd, vl, h0, h1, h2, h3]
 omega
theorem vl_lt {l : List Int} (h : isW l = true) : vl l < 2 ^ 256 := by
 have e := vl_wd_lt (vl l)
 rwa [← isW_eq h] at e
theorem isW_wd {n : Nat} (h : n < 2 ^ 256) : isW (wd n) = true := by rw [isW, wd_vl n h]; simp
theorem wd_split (n : Nat) (h : n < 2 ^ 256) : ∃ a b c d : Int, wd n = [a, b, c, d] ∧ U a ∧ U b ∧ U c ∧ U d ∧
  (n : Int) = a + 18446744073709551616 * b + 340282366920938463463374607431768211456 * c + 6277101735386680763835789423207666416102355444464034512896 * d := by
 obtain ⟨h0, h1, h2, h3⟩ := dg_lit n
 refine ⟨_, _, _, _, rfl, dg_U _ _, dg_U _ _, dg_U _ _, dg_U _ _, ?_⟩
 rw [h0, h1, h2, h3]
 omega
theorem wd_of {n : Nat} {a b c d e : Int} (ha : U a) (hb : U b) (hc : U c) (hd : U d)
  (h : (n : Int) = a + 18446744073709551616 * b + 340282366920938463463374607431768211456 * c + 6277101735386680763835789423207666416102355444464034512896 * d + 115792089237316195423570985008687907853269984665640564039457584007913129639936 * e) :
  wd n = [a, b, c, d] ∧ ((n / 2 ^ 256 : Nat) : Int) = e := by
 obtain ⟨h0, h1, h2, h3⟩ := dg_lit n
 unfold U at *
 refine ⟨?_, by omega⟩
 rw [wd, h0, h1, h2, h3]
 have e0 : ((n % 18446744073709551616 : Nat) : Int) = a := by omega
 have e1 : ((n / 18446744073709551616 % 18446744073709551616 : Nat) : Int) = b := by omega
 have e2 : ((n / 340282366920938463463374607431768211456 % 18446744073709551616 : Nat) : Int) = c := by omega
 have e3 : ((n / 6277101735386680763835789423207666416102355444464034512896 % 18446744073709551616 : Nat) : Int) = d := by omega
 rw [e0, e1, e2, e3]
theorem wd_mod (n : Nat) : wd (n % 2 ^ 256) = wd n := by
 obtain ⟨h0, h1, h2, h3⟩ := dg_lit n
 obtain ⟨g0, g1, g2, g3⟩ := dg_lit (n % 2 ^ 256)
 rw [wd, wd, h0, h1, h2, h3, g0, g1, g2, g3]
 have e0 : n % 2 ^ 256 % 18446744073709551616 = n % 18446744073709551616 := by omega
 have e1 : n % 2 ^ 256 / 18446744073709551616 % 18446744073709551616 = n / 18446744073709551616 % 18446744073709551616 := by omega
 have e2 : n % 2 ^ 256 / 340282366920938463463374607431768211456 % 18446744073709551616 = n / 340282366920938463463374607431768211456 % 18446744073709551616 := by omega
 have e3 : n % 2 ^ 256 / 6277101735386680763835789423207666416102355444464034512896 % 18446744073709551616 = n / 6277101735386680763835789423207666416102355444464034512896 % 18446744073709551616 := by omega
 rw [e0, e1, e2, e3]
theorem wd_inj {a b : Nat} (ha : a < 2 ^ 256) (hb : b < 2 ^ 256) (h : wd a = wd b) : a = b := by rw [← wd_vl a ha, h, wd_vl b hb]
theorem add64_ext {x y c : Int} (hx : U x) (hy : U y) (hc : c = 0 ∨ c = 1) : Ext Tryz.prog 114 [iv .u64 x, iv .u64 y, iv .u64 c] (.many [.val (iv .u64 ((x + y + c) % 18446744073709551616)), .val (iv .u64 ((x + y + c) / 18446744073709551616))]) := by
 unfold U at hx hy
 refine ⟨[.int .u64 x, .int .u64 y, .int .u64 c], [.int .u64 ((x + y + c) % 18446744073709551616), .int .u64 ((x + y + c) / 18446744073709551616)], rfl, rfl, by simp [plain], fun w => ?_⟩
 rw [run_callFunc_extern Tryz.func114 (by kernel_rfl) (by kernel_rfl) (by kernel_rfl) (e := add64Entry) (by kernel_rfl)]
 rw [run_add64 x y c (by omega) (by omega) (by omega) (by omega)]
 rfl
def bor (x y c : Int) : Int := if x < y + c then 1 else 0
theorem sub64_ext {x y c : Int} (hx : U x) (hy : U y) (hc : c = 0 ∨ c = 1) : Ext Tryz.prog 119 [iv .u64 x, iv .u64 y, iv .u64 c] (.many [.val (iv .u64 ((x - y - c) % 18446744073709551616)), .val (iv .u64 (bor x y c))]) := by
 unfold U at hx hy
 refine ⟨[.int .u64 x, .int .u64 y, .int .u64 c], [.int .u64 ((x - y - c) % 18446744073709551616), .int .u64 (bor x y c)], rfl, rfl, by simp [plain], fun w => ?_⟩
 rw [run_callFunc_extern Tryz.func119 (by kernel_rfl) (by kernel_rfl) (by kernel_rfl) (e := sub64Entry) (by kernel_rfl)]
 obtain ⟨X, rfl⟩ := Int.eq_ofNat_of_zero_le hx.1
 obtain ⟨Y, rfl⟩ := Int.eq_ofNat_of_zero_le hy.1
 obtain ⟨C, rfl⟩ := Int.eq_ofNat_of_zero_le (a := c) (by omega)
 have e := run_sub64 (P := Tryz.prog) X Y C (by omega) w
 have h1 : (((X + 18446744073709551616 - Y - C) % 18446744073709551616 : Nat) : Int) = ((X : Int) - (Y : Int) - (C : Int)) % 18446744073709551616 := by omega
 have h2 : (((if X < Y + C then 1 else 0 : Nat)) : Int) = bor X Y C := by
  unfold bor
  by_cases h : X < Y + C
  ·rw [if_pos h, if_pos (by omega)]; rfl
  ·rw [if_neg h, if_neg (by omega)]; rfl
 rw [h1, h2] at e
 rw [e]
 rfl
def hiW (x y : Int) : Int := x * y / 18446744073709551616
def loW (x y : Int) : Int := x * y % 18446744073709551616
theorem maskN (a : Nat) (ha : a < 18446744073709551616) : bits .and .u64 (a : Int) 4294967295 = ((a % 4294967296 : Nat) : Int) := by
 have h := bits_and_u64_nat a 4294967295 ha (by omega)
 rw [show a &&& 4294967295 = a % 4294967296 from Nat.and_two_pow_sub_one_eq_mod a 32] at h
 exact h
theorem fdivN (a : Nat) (e : Nat) (he : e = 32) : (a : Int).fdiv (2 ^ (min e IntKind.u64.bits)) = ((a / 4294967296 : Nat) : Int) := by
 subst he
 rw [show ((2 : Int) ^ (min 32 IntKind.u64.bits)) = ((4294967296 : Nat) : Int) from rfl, Int.fdiv_eq_ediv_of_nonneg _ (by omega)]
 exact (Int.natCast_ediv a 4294967296).symm
theorem mulN (a b : Nat) : (a : Int) * (b : Int) = ((a * b : Nat) : Int) := (Int.natCast_mul a b).symm
theorem addN (a b : Nat) : (a : Int) + (b : Int) = ((a + b : Nat) : Int) := (Int.natCast_add a b).symm
theorem wrapN (a : Nat) (ha : a < 18446744073709551616) : IntKind.u64.wrap (a : Int) = (a : Int) := by rw [IntKind.wrap_u64]; omega
def E0 : Env := ⟨tyL, fun _ _ => none, false, noWk, noOrw⟩
theorem E0_ok : EnvOk Tryz.prog E0 := ⟨tyL_ok, (by intro f ds r h; cases h), noOrw_ok⟩
set_option maxRecDepth 100000 in
set_option maxHeartbeats 1600000 in
theorem mul64_exec (x y : Nat) (hx : x < 18446744073709551616) (hy : y < 18446744073709551616) : execF E0 Tryz.f113 [iv .u64 x, iv .u64 y] (.many [.val (iv .u64 (hiW x y)), .val (iv .u64 (loW x y))]) := by
 obtain ⟨bd, bt, bw, hhi⟩ := Lib.mul64_hi x y hx hy
 have ba := Lib.half_mul_le (a := x / 4294967296) (b := y / 4294967296) (by omega) (by omega)
 have bb := Lib.half_mul_le (a := x / 4294967296) (b := y % 4294967296) (by omega) (by omega)
 have bc := Lib.half_mul_le (a := x % 4294967296) (b := y / 4294967296) (by omega) (by omega)
 have bh1 : x / 4294967296 * (y / 4294967296) + (x / 4294967296 * (y % 4294967296) + x % 4294967296 * (y % 4294967296) / 4294967296) / 4294967296 < 18446744073709551616 := by omega
 have bh : x / 4294967296 * (y / 4294967296) + (x / 4294967296 * (y % 4294967296) + x % 4294967296 * (y % 4294967296) / 4294967296) / 4294967296 + ((x / 4294967296 * (y % 4294967296) + x % 4294967296 * (y % 4294967296) / 4294967296) % 4294967296 + x % 4294967296 * (y / 4294967296)) / 4294967296 < 18446744073709551616 := by omega
 have e1 : hiW x y = IntKind.u64.wrap (IntKind.u64.wrap (IntKind.u64.wrap ((x : Int).fdiv (2 ^ (min (32 : Int).toNat IntKind.u64.bits)) * (y : Int).fdiv (2 ^ (min (32 : Int).toNat IntKind.u64.bits))) +
   (IntKind.u64.wrap (IntKind.u64.wrap ((x : Int).fdiv (2 ^ (min (32 : Int).toNat IntKind.u64.bits)) * bits .and .u64 y 4294967295) + (IntKind.u64.wrap (bits .and .u64 x 4294967295 * bits .and .u64 y 4294967295)).fdiv (2 ^ (min (32 : Int).toNat IntKind.u64.bits)))).fdiv (2 ^ (min (32 : Int).toNat IntKind.u64.bits))) +
   (IntKind.u64.wrap (bits .and .u64 (IntKind.u64.wrap (IntKind.u64.wrap ((x : Int).fdiv (2 ^ (min (32 : Int).toNat IntKind.u64.bits)) * bits .and .u64 y 4294967295) + (IntKind.u64.wrap (bits .and .u64 x 4294967295 * bits .and .u64 y 4294967295)).fdiv (2 ^ (min (32 : Int).toNat IntKind.u64.bits)))) 4294967295 +
    IntKind.u64.wrap (bits .and .u64 x 4294967295 * (y : Int).fdiv (2 ^ (min (32 : Int).toNat IntKind.u64.bits))))).fdiv (2 ^ (min (32 : Int).toNat IntKind.u64.bits))) := by
  have t32 : (32 : Int).toNat = 32 := rfl
  simp only [maskN x hx, maskN y hy, fdivN _ _ t32, mulN, addN, wrapN _ bd, wrapN _ (show x / 4294967296 * (y % 4294967296) < 18446744073709551616 by omega), wrapN _ bt, maskN _ bt,
   wrapN _ (show x % 4294967296 * (y / 4294967296) < 18446744073709551616 by omega), wrapN _ bw, wrapN _ (show x / 4294967296 * (y / 4294967296) < 18446744073709551616 by omega), wrapN _ bh1, wrapN _ bh]
  rw [hhi, hiW, mulN]
  omega
 have e2 : loW x y = IntKind.u64.wrap ((x : Int) * y) := by rw [loW, IntKind.wrap_u64]
 rw [e1, e2]
 ((conv => whnf); repeat ((first | refine ⟨_, rfl, ?_⟩ | refine ⟨by decide, ?_⟩ | refine ⟨rfl, ?_⟩); conv => whnf))
 rfl
theorem mul64_call {x y : Int} (hx : U x) (hy : U y) : CallOk Tryz.prog 113 [iv .u64 x, iv .u64 y] (.many [.val (iv .u64 (hiW x y)), .val (iv .u64 (loW x y))]) := by
 obtain ⟨X, rfl⟩ := Int.eq_ofNat_of_zero_le hx.1
 obtain ⟨Y, rfl⟩ := Int.eq_ofNat_of_zero_le hy.1
 unfold U at hx hy
 exact execF_ok follows_ok E0_ok Tryz.func113 (mul64_exec X Y (by omega) (by omega))
def orcU (f : Nat) (ds : List LV) : Option LRes :=
 match f with
 | 114 => match ds with
  | [.v (.int .u64 x), .v (.int .u64 y), .v (.int .u64 c)] => if U x ∧ U y ∧ (c = 0 ∨ c = 1) then some (.many [.val (iv .u64 ((x + y + c) % 18446744073709551616)), .val (iv .u64 ((x + y + c) / 18446744073709551616))]) else none
  | _ => none
 | 119 => match ds with
  | [.v (.int .u64 x), .v (.int .u64 y), .v (.int .u64 c)] => if U x ∧ U y ∧ (c = 0 ∨ c = 1) then some (.many [.val (iv .u64 ((x - y - c) % 18446744073709551616)), .val (iv .u64 (bor x y c))]) else none
  | _ => none
 | 113 => match ds with
  | [.v (.int .u64 x), .v (.int .u64 y)] => if U x ∧ U y then some (.many [.val (iv .u64 (hiW x y)), .val (iv .u64 (loW x y))]) else none
  | _ => none
 | _ => none
theorem orcU_ok : Known Tryz.prog orcU := by
 intro f ds r h
 unfold orcU at h
 split at h
 ·split at h
  ·split at h
   ·rename_i hc
    cases h
    exact .inr (add64_ext hc.1 hc.2.1 hc.2.2)
   ·cases h
  ·cases h
 ·split at h
  ·split at h
   ·rename_i hc
    cases h
    exact .inr (sub64_ext hc.1 hc.2.1 hc.2.2)
   ·cases h
  ·cases h
 ·split at h
  ·split at h
   ·rename_i hc
    cases h
    exact .inl ⟨⟨_, Tryz.func113, name_ne _ (by kernel_rfl), rfl⟩, mul64_call hc.1 hc.2⟩
   ·cases h
  ·cases h
 ·cases h
def EU : Env := ⟨tyL, orcU, false, noWk, noOrw⟩
theorem EU_ok : EnvOk Tryz.prog EU := ⟨tyL_ok, orcU_ok, noOrw_ok⟩
theorem oAdd {x y c : Int} (hx : U x) (hy : U y) (hc : c = 0 ∨ c = 1) : ∃ s d : Int, EU.orc 114 [iv .u64 x, iv .u64 y, iv .u64 c] = some (.many [.val (iv .u64 s), .val (iv .u64 d)]) ∧ U s ∧ (d = 0 ∨ d = 1) ∧ s + 18446744073709551616 * d = x + y + c := by
 refine ⟨_, _, if_pos ⟨hx, hy, hc⟩, ?_, ?_, ?_⟩ <;> unfold U at * <;> omega
theorem oSub {x y c : Int} (hx : U x) (hy : U y) (hc : c = 0 ∨ c = 1) : ∃ s d : Int, EU.orc 119 [iv .u64 x, iv .u64 y, iv .u64 c] = some (.many [.val (iv .u64 s), .val (iv .u64 d)]) ∧ U s ∧ (d = 0 ∨ d = 1) ∧ s = x - y - c + 18446744073709551616 * d := by
 refine ⟨_, _, if_pos ⟨hx, hy, hc⟩, ?_, ?_, ?_⟩ <;> unfold U at *
 ·omega
 ·unfold bor
  by_cases h : x < y + c
  ·rw [if_pos h]; exact .inr rfl
  ·rw [if_neg h]; exact .inl rfl
 ·unfold bor
  by_cases h : x < y + c
  ·rw [if_pos h]; omega
  ·rw [if_neg h]; omega
theorem oMul {x y : Int} (hx : U x) (hy : U y) : ∃ h l : Int, EU.orc 113 [iv .u64 x, iv .u64 y] = some (.many [.val (iv .u64 h), .val (iv .u64 l)]) ∧ U h ∧ U l ∧ l + 18446744073709551616 * h = x * y ∧ h ≤ 18446744073709551614 := by
 refine ⟨_, _, if_pos ⟨hx, hy⟩, ?_⟩
 unfold U at *
 have h1 : 0 ≤ x * y := Int.mul_nonneg hx.1 hy.1
 have h2 : x * y ≤ 18446744073709551615 * 18446744073709551615 := Int.mul_le_mul (by omega) (by omega) hy.1 (by omega)
 unfold hiW loW
 generalize x * y = p at *
 omega
end Go.Proofs.YtdeigmjbcbjgeaaGreatDoor
namespace Go.Proofs.YtdeigmjbcbjgeaaGreatDoor
open Go.RowKit
theorem isOU {f : Nat} {ds : List LV} {K : LRes → Prop} (h : ∃ y, EU.orc f ds = some y ∧ K y) : ∃ y, EU.orc f ds = some y ∧ K y := h
abbrev two (n : Nat) (c : Nat) : LRes := .many [.val (W n), .val (iv .u64 (c : Nat))]
set_option maxRecDepth 100000 in
set_option maxHeartbeats 1600000 in
theorem rplus_call (a b : Nat) (ha : a < 2 ^ 256) (hb : b < 2 ^ 256) : CallOk Tryz.prog 98 [W a, W b] (two (a + b) ((a + b) / 2 ^ 256)) := by
 obtain ⟨a0, a1, a2, a3, ea, ua0, ua1, ua2, ua3, qa⟩ := wd_split a ha
 obtain ⟨b0, b1, b2, b3, eb, ub0, ub1, ub2, ub3, qb⟩ := wd_split b hb
 obtain ⟨s0, c0, f0, us0, uc0, q0⟩ := oAdd ua0 ub0 (Or.inl rfl : (0 : Int) = 0 ∨ (0 : Int) = 1)
 obtain ⟨s1, c1, f1, us1, uc1, q1⟩ := oAdd ua1 ub1 uc0
 obtain ⟨s2, c2, f2, us2, uc2, q2⟩ := oAdd ua2 ub2 uc1
 obtain ⟨s3, c3, f3, us3, uc3, q3⟩ := oAdd ua3 ub3 uc2
 obtain ⟨er, ec⟩ := wd_of (n := a + b) (e := c3) us0 us1 us2 us3 (by omega)
 rw [two, W, W, W, ea, eb, er, ec]
 refine execF_ok follows_ok EU_ok Tryz.func98 ?_
 ((conv => whnf); repeat ((first | refine .inr ⟨5, ?_⟩ | ((with_reducible refine isOU ?_); first | refine ⟨_, f0, ?_⟩ | refine ⟨_, f1, ?_⟩ | refine ⟨_, f2, ?_⟩ | refine ⟨_, f3, ?_⟩) | refine ⟨_, rfl, ?_⟩ | refine ⟨by decide, ?_⟩ | refine ⟨rfl, ?_⟩ | refine ⟨fun _ => ?_, fun h => absurd h (by decide)⟩ | refine ⟨fun h => absurd h (by decide), fun _ => ?_⟩); conv => whnf))
 rfl
set_option maxRecDepth 100000 in
set_option maxHeartbeats 1600000 in
theorem rminus_call (a b : Nat) (ha : a < 2 ^ 256) (hb : b < 2 ^ 256) : CallOk Tryz.prog 99 [W a, W b] (two (a + 2 ^ 256 - b) (if a < b then 1 else 0)) := by
 obtain ⟨a0, a1, a2, a3, ea, ua0, ua1, ua2, ua3, qa⟩ := wd_split a ha
 obtain ⟨b0, b1, b2, b3, eb, ub0, ub1, ub2, ub3, qb⟩ := wd_split b hb
 obtain ⟨s0, c0, f0, us0, uc0, q0⟩ := oSub ua0 ub0 (Or.inl rfl : (0 : Int) = 0 ∨ (0 : Int) = 1)
 obtain ⟨s1, c1, f1, us1, uc1, q1⟩ := oSub ua1 ub1 uc0
 obtain ⟨s2, c2, f2, us2, uc2, q2⟩ := oSub ua2 ub2 uc1
 obtain ⟨s3, c3, f3, us3, uc3, q3⟩ := oSub ua3 ub3 uc2
 obtain ⟨er, ec⟩ := wd_of (n := a + 2 ^ 256 - b) (e := 1 - c3) us0 us1 us2 us3 (by omega)
 have hc : (((if a < b then 1 else 0 : Nat)) : Int) = c3 := by
  unfold U at *
  by_cases h : a < b
  ·rw [if_pos h]; omega
  ·rw [if_neg h]; omega
 rw [two, W, W, W, ea, eb, er, hc]
 refine execF_ok follows_ok EU_ok Tryz.func99 ?_
 ((conv => whnf); repeat ((first | refine .inr ⟨5, ?_⟩ | ((with_reducible refine isOU ?_); first | refine ⟨_, f0, ?_⟩ | refine ⟨_, f1, ?_⟩ | refine ⟨_, f2, ?_⟩ | refine ⟨_, f3, ?_⟩) | refine ⟨_, rfl, ?_⟩ | refine ⟨by decide, ?_⟩ | refine ⟨rfl, ?_⟩ | refine ⟨fun _ => ?_, fun h => absurd h (by decide)⟩ | refine ⟨fun h => absurd h (by decide), fun _ => ?_⟩); conv => whnf))
 rfl
set_option maxRecDepth 100000 in
set_option maxHeartbeats 1600000 in
theorem plus_call (a b : Nat) (ha : a < 2 ^ 256) (hb : b < 2 ^ 256) : CallOk Tryz.prog 100 [W a, W b] (two (a + b) ((a + b) / 2 ^ 256)) := by
 obtain ⟨a0, a1, a2, a3, ea, ua0, ua1, ua2, ua3, qa⟩ := wd_split a ha
 obtain ⟨b0, b1, b2, b3, eb, ub0, ub1, ub2, ub3, qb⟩ := wd_split b hb
 obtain ⟨s0, c0, f0, us0, uc0, q0⟩ := oAdd ua0 ub0 (Or.inl rfl : (0 : Int) = 0 ∨ (0 : Int) = 1)
 obtain ⟨s1, c1, f1, us1, uc1, q1⟩ := oAdd ua1 ub1 uc0
 obtain ⟨s2, c2, f2, us2, uc2, q2⟩ := oAdd ua2 ub2 uc1
 obtain ⟨s3, c3, f3, us3, uc3, q3⟩ := oAdd ua3 ub3 uc2
 obtain ⟨er, ec⟩ := wd_of (n := a + b) (e := c3) us0 us1 us2 us3 (by omega)
 rw [two, W, W, W, ea, eb, er, ec]
 refine execF_ok follows_ok EU_ok Tryz.func100 ?_
 ((conv => whnf); repeat ((first | refine .inr ⟨5, ?_⟩ | ((with_reducible refine isOU ?_); first | refine ⟨_, f0, ?_⟩ | refine ⟨_, f1, ?_⟩ | refine ⟨_, f2, ?_⟩ | refine ⟨_, f3, ?_⟩) | refine ⟨_, rfl, ?_⟩ | refine ⟨by decide, ?_⟩ | refine ⟨rfl, ?_⟩ | refine ⟨fun _ => ?_, fun h => absurd h (by decide)⟩ | refine ⟨fun h => absurd h (by decide), fun _ => ?_⟩); conv => whnf))
 rfl
set_option maxRecDepth 100000 in
set_option maxHeartbeats 1600000 in
theorem minus_call (a b : Nat) (ha : a < 2 ^ 256) (hb : b < 2 ^ 256) : CallOk Tryz.prog 120 [W a, W b] (two (a + 2 ^ 256 - b) (if a < b then 1 else 0)) := by
 obtain ⟨a0, a1, a2, a3, ea, ua0, ua1, ua2, ua3, qa⟩ := wd_split a ha
 obtain ⟨b0, b1, b2, b3, eb, ub0, ub1, ub2, ub3, qb⟩ := wd_split b hb
 obtain ⟨s0, c0, f0, us0, uc0, q0⟩ := oSub ua0 ub0 (Or.inl rfl : (0 : Int) = 0 ∨ (0 : Int) = 1)
 obtain ⟨s1, c1, f1, us1, uc1, q1⟩ := oSub ua1 ub1 uc0
 obtain ⟨s2, c2, f2, us2, uc2, q2⟩ := oSub ua2 ub2 uc1
 obtain ⟨s3, c3, f3, us3, uc3, q3⟩ := oSub ua3 ub3 uc2
 obtain ⟨er, ec⟩ := wd_of (n := a + 2 ^ 256 - b) (e := 1 - c3) us0 us1 us2 us3 (by omega)
 have hc : (((if a < b then 1 else 0 : Nat)) : Int) = c3 := by
  unfold U at *
  by_cases h : a < b
  ·rw [if_pos h]; omega
  ·rw [if_neg h]; omega
 rw [two, W, W, W, ea, eb, er, hc]
 refine execF_ok follows_ok EU_ok Tryz.func120 ?_
 ((conv => whnf); repeat ((first | refine .inr ⟨5, ?_⟩ | ((with_reducible refine isOU ?_); first | refine ⟨_, f0, ?_⟩ | refine ⟨_, f1, ?_⟩ | refine ⟨_, f2, ?_⟩ | refine ⟨_, f3, ?_⟩) | refine ⟨_, rfl, ?_⟩ | refine ⟨by decide, ?_⟩ | refine ⟨rfl, ?_⟩ | refine ⟨fun _ => ?_, fun h => absurd h (by decide)⟩ | refine ⟨fun h => absurd h (by decide), fun _ => ?_⟩); conv => whnf))
 rfl
def wpr (x y a b : Int) : Int := x * y + a + b
set_option maxRecDepth 100000 in
set_option maxHeartbeats 1600000 in
theorem word_call {x y a b : Int} (ux : U x) (uy : U y) (ua : U a) (ub : U b) : CallOk Tryz.prog 115 [iv .u64 x, iv .u64 y, iv .u64 a, iv .u64 b] (.many [.val (iv .u64 (wpr x y a b % 18446744073709551616)), .val (iv .u64 (wpr x y a b / 18446744073709551616))]) := by
 obtain ⟨h, l, f0, uh, ul, q0, h0⟩ := oMul ux uy
 obtain ⟨s, c, f1, us, uc, q1⟩ := oAdd ul ua (Or.inl rfl : (0 : Int) = 0 ∨ (0 : Int) = 1)
 obtain ⟨t, d, f2, ut, ud, q2⟩ := oAdd us ub (Or.inl rfl : (0 : Int) = 0 ∨ (0 : Int) = 1)
 have hp : x * y ≤ 18446744073709551615 * 18446744073709551615 := Int.mul_le_mul (by unfold U at ux; omega) (by unfold U at uy; omega) uy.1 (by omega)
 have e0 : wpr x y a b % 18446744073709551616 = t := by unfold U wpr at *; omega
 have e1 : wpr x y a b / 18446744073709551616 = IntKind.u64.wrap (IntKind.u64.wrap (h + c) + d) := by
  rw [IntKind.wrap_u64, IntKind.wrap_u64]; unfold U wpr at *; omega
 rw [e0, e1]
 refine execF_ok follows_ok EU_ok Tryz.func115 ?_
 ((conv => whnf); repeat ((first | ((with_reducible refine isOU ?_); first | refine ⟨_, f0, ?_⟩ | refine ⟨_, f1, ?_⟩ | refine ⟨_, f2, ?_⟩) | refine ⟨_, rfl, ?_⟩ | refine ⟨rfl, ?_⟩); conv => whnf))
 rfl
def orcV (f : Nat) (ds : List LV) : Option LRes :=
 match f with
 | 115 => match ds with
  | [.v (.int .u64 x), .v (.int .u64 y), .v (.int .u64 a), .v (.int .u64 b)] => if U x ∧ U y ∧ U a ∧ U b then some (.many [.val (iv .u64 (wpr x y a b % 18446744073709551616)), .val (iv .u64 (wpr x y a b / 18446744073709551616))]) else none
  | _ => none
 | _ => orcU f ds
theorem orcV_ok : Known Tryz.prog orcV := by
 intro f ds r h
 unfold orcV at h
 split at h
 ·split at h
  ·split at h
   ·rename_i hc
    cases h
    exact .inl ⟨⟨_, Tryz.func115, name_ne _ (by kernel_rfl), rfl⟩, word_call hc.1 hc.2.1 hc.2.2.1 hc.2.2.2⟩
   ·cases h
  ·cases h
 ·exact orcU_ok f ds r h
def EV : Env := ⟨tyL, orcV, false, noWk, noOrw⟩
theorem EV_ok : EnvOk Tryz.prog EV := ⟨tyL_ok, orcV_ok, noOrw_ok⟩
theorem oWord {x y a b : Int} (ux : U x) (uy : U y) (ua : U a) (ub : U b) : ∃ l h : Int, EV.orc 115 [iv .u64 x, iv .u64 y, iv .u64 a, iv .u64 b] = some (.many [.val (iv .u64 l), .val (iv .u64 h)]) ∧ U l ∧ U h ∧ l + 18446744073709551616 * h = x * y + a + b := by
 refine ⟨_, _, if_pos ⟨ux, uy, ua, ub⟩, ?_⟩
 have hn : 0 ≤ x * y := Int.mul_nonneg ux.1 uy.1
 have hp : x * y ≤ 18446744073709551615 * 18446744073709551615 := Int.mul_le_mul (by unfold U at ux; omega) (by unfold U at uy; omega) uy.1 (by omega)
 unfold U wpr at *
 generalize x * y = p at *
 omega
theorem dg_hi (n i : Nat) : dg n (i + 4) = dg (n / 2 ^ 256) i := by
 have e : n / 18446744073709551616 ^ (i + 4) = n / 2 ^ 256 / 18446744073709551616 ^ i := by
  rw [Nat.div_div_eq_div_mul, Nat.pow_add, Nat.mul_comm]
 rw [dg, dg, e]
theorem wd8_two (n : Nat) : wd8 n = wd (n % 2 ^ 256) ++ wd (n / 2 ^ 256) := by
 rw [wd_mod]
 show [dg n 0, dg n 1, dg n 2, dg n 3, dg n (0 + 4), dg n (1 + 4), dg n (2 + 4), dg n (3 + 4)] = _
 rw [dg_hi, dg_hi, dg_hi, dg_hi]
 rfl
theorem wd8_of {n : Nat} {a b c d e f g h : Int} (ha : U a) (hb : U b) (hc : U c) (hd : U d) (he : U e) (hf : U f) (hg : U g) (hh : U h)
  (q : (n : Int) = a + 18446744073709551616 * b + 340282366920938463463374607431768211456 * c + 6277101735386680763835789423207666416102355444464034512896 * d + 115792089237316195423570985008687907853269984665640564039457584007913129639936 * e + 2135987035920910082395021706169552114602704522356652769947041607822219725780640550022962086936576 * f + 39402006196394479212279040100143613805079739270465446667948293404245721771497210611414266254884915640806627990306816 * g + 726838724295606890549323807888004534353641360687318060281490199180639288113397923326191050713763565560762521606266177933534601628614656 * h) : wd8 n = [a, b, c, d, e, f, g, h] := by
 obtain ⟨L, hL⟩ : ∃ L : Int, L = a + 18446744073709551616 * b + 340282366920938463463374607431768211456 * c + 6277101735386680763835789423207666416102355444464034512896 * d := ⟨_, rfl⟩
 obtain ⟨H, hH⟩ : ∃ H : Int, H = e + 18446744073709551616 * f + 340282366920938463463374607431768211456 * g + 6277101735386680763835789423207666416102355444464034512896 * h := ⟨_, rfl⟩
 have hL1 : 0 ≤ L ∧ L < 115792089237316195423570985008687907853269984665640564039457584007913129639936 := by unfold U at *; omega
 have hH1 : 0 ≤ H := by unfold U at *; omega
 have hq : (n : Int) = L + 115792089237316195423570985008687907853269984665640564039457584007913129639936 * H := by omega
 clear q
 have e1 : ((n % 2 ^ 256 : Nat) : Int) = L := by clear hL hH; omega
 have e2 : ((n / 2 ^ 256 : Nat) : Int) = H := by clear hL hH; omega
 rw [wd8_two, (wd_of (e := 0) ha hb hc hd (by rw [e1, hL]; omega)).1, (wd_of (e := 0) he hf hg hh (by rw [e2, hH]; omega)).1]
 rfl
theorem vl_append4 (a b c d : Int) (l : List Int) : vl ([a, b, c, d] ++ l) = vl [a, b, c, d] + 2 ^ 256 * vl l := by
 simp only [List.cons_append, List.nil_append, vl]
 omega
theorem wd8_vl (n : Nat) (h : n < 2 ^ 512) : vl (wd8 n) = n := by
 rw [wd8_two]
 show vl ([dg (n % 2 ^ 256) 0, dg (n % 2 ^ 256) 1, dg (n % 2 ^ 256) 2, dg (n % 2 ^ 256) 3] ++ wd (n / 2 ^ 256)) = n
 rw [vl_append4]
 change vl (wd (n % 2 ^ 256)) + 2 ^ 256 * vl (wd (n / 2 ^ 256)) = n
 rw [wd_vl _ (Nat.mod_lt _ (by decide)), wd_vl _ (by omega)]
 omega
theorem isW8_wd {n : Nat} (h : n < 2 ^ 512) : isW8 (wd8 n) = true := by rw [isW8, wd8_vl n h]; simp
theorem vl_wd8_lt (n : Nat) : vl (wd8 n) < 2 ^ 512 := by
 rw [wd8_two]
 show vl ([dg (n % 2 ^ 256) 0, dg (n % 2 ^ 256) 1, dg (n % 2 ^ 256) 2, dg (n % 2 ^ 256) 3] ++ wd (n / 2 ^ 256)) < _
 rw [vl_append4]
 have h1 := vl_wd_lt (n % 2 ^ 256)
 have h2 := vl_wd_lt (n / 2 ^ 256)
 change vl (wd (n % 2 ^ 256)) + 2 ^ 256 * vl (wd (n / 2 ^ 256)) < _
 omega
theorem vl8_lt {l : List Int} (h : isW8 l = true) : vl l < 2 ^ 512 := by
 have e := vl_wd8_lt (vl l)
 rwa [← isW8_eq h] at e
theorem oStep {x y p q : Int} (ux : U x) (uy : U y) (up : U p) (uq : U q) : ∃ h l s c t d : Int, EU.orc 113 [iv .u64 x, iv .u64 y] = some (.many [.val (iv .u64 h), .val (iv .u64 l)]) ∧
  EU.orc 114 [iv .u64 l, iv .u64 p, iv .u64 0] = some (.many [.val (iv .u64 s), .val (iv .u64 c)]) ∧ EU.orc 114 [iv .u64 s, iv .u64 q, iv .u64 0] = some (.many [.val (iv .u64 t), .val (iv .u64 d)]) ∧
  U t ∧ U (IntKind.u64.wrap (IntKind.u64.wrap (h + c) + d)) ∧ t + 18446744073709551616 * IntKind.u64.wrap (IntKind.u64.wrap (h + c) + d) = x * y + p + q := by
 obtain ⟨h, l, f0, uh, ul, q0, h0⟩ := oMul ux uy
 obtain ⟨s, c, f1, us, uc, q1⟩ := oAdd ul up (Or.inl rfl : (0 : Int) = 0 ∨ (0 : Int) = 1)
 obtain ⟨t, d, f2, ut, ud, q2⟩ := oAdd us uq (Or.inl rfl : (0 : Int) = 0 ∨ (0 : Int) = 1)
 have hp : x * y ≤ 18446744073709551615 * 18446744073709551615 := Int.mul_le_mul (by unfold U at ux; omega) (by unfold U at uy; omega) uy.1 (by omega)
 refine ⟨h, l, s, c, t, d, f0, f1, f2, ut, ?_, ?_⟩
 ·rw [IntKind.wrap_u64]; unfold U; omega
 ·rw [IntKind.wrap_u64, IntKind.wrap_u64]; unfold U at *; omega
end Go.Proofs.YtdeigmjbcbjgeaaGreatDoor
namespace Go.Proofs.YtdeigmjbcbjgeaaGreatDoor
open Go.RowKit
def pP : Nat := 57896044618658097711785492504343953926634992332820282019728792003956564819949
def qQ : Nat := 7237005577332262213973186563042994240857116359379907606001950938285454250989
def lt1 (a b : Nat) : Nat := if a < b then 1 else 0
theorem lt1_yes {a b : Nat} (h : a < b) : lt1 a b = 1 := if_pos h
theorem lt1_no {a b : Nat} (h : ¬ a < b) : lt1 a b = 0 := if_neg h
theorem lt1_beq (a b : Nat) : ((lt1 a b : Int) == 1) = decide (a < b) := by
 by_cases h : a < b
 ·rw [lt1_yes h, decide_eq_true h]; rfl
 ·rw [lt1_no h, decide_eq_false h]; rfl
theorem plusN_call (a b : Nat) (ha : a < 2 ^ 256) (hb : b < 2 ^ 256) : CallOk Tryz.prog 100 [W a, W b] (two ((a + b) % 2 ^ 256) ((a + b) / 2 ^ 256)) := by
 have := plus_call a b ha hb
 rwa [two, W, W, W, ← wd_mod (a + b)] at this
theorem minusN_call (a b : Nat) (ha : a < 2 ^ 256) (hb : b < 2 ^ 256) : CallOk Tryz.prog 120 [W a, W b] (two ((a + 2 ^ 256 - b) % 2 ^ 256) (lt1 a b)) := by
 have := minus_call a b ha hb
 rwa [two, W, W, W, ← wd_mod (a + 2 ^ 256 - b)] at this
def bel (n d : Int) : Prop := (n = 255 ∧ d = 19) ∨ (n = 255 ∧ d = 21) ∨ (n = 252 ∧ d = 2) ∨ (n = 253 ∧ d = 5)
instance (n d : Int) : Decidable (bel n d) := inferInstanceAs (Decidable (_ ∨ _))
theorem below_call {n d : Int} (h : bel n d) : CallOk Tryz.prog 87 [iv .i64 n, iv .u64 d] (ret1 (W (2 ^ n.toNat - d.toNat))) := by
 rcases h with ⟨rfl, rfl⟩ | ⟨rfl, rfl⟩ | ⟨rfl, rfl⟩ | ⟨rfl, rfl⟩ <;> exact runF_ok follows_ok E0_ok Tryz.func87 (fuel := 100) (by kernel_rfl)
theorem order_call : CallOk Tryz.prog 102 [] (ret1 (W qQ)) := runF_ok follows_ok E0_ok Tryz.func102 (fuel := 100) (by kernel_rfl)
def orcF1 (f : Nat) (ds : List LV) : Option LRes :=
 match f with
 | 87 => match ds with
  | [.v (.int .i64 n), .v (.int .u64 d)] => if bel n d then some (ret1 (W (2 ^ n.toNat - d.toNat))) else none
  | _ => none
 | _ => orcV f ds
theorem orcF1_ok : Known Tryz.prog orcF1 := by
 intro f ds r h
 unfold orcF1 at h
 split at h
 ·split at h
  ·split at h
   ·rename_i hc
    cases h
    exact .inl ⟨⟨_, Tryz.func87, name_ne _ (by kernel_rfl), rfl⟩, below_call hc⟩
   ·cases h
  ·cases h
 ·exact orcV_ok f ds r h
def EF1 : Env := ⟨tyL, orcF1, false, noWk, noOrw⟩
theorem EF1_ok : EnvOk Tryz.prog EF1 := ⟨tyL_ok, orcF1_ok, noOrw_ok⟩
theorem prime_call : CallOk Tryz.prog 108 [] (ret1 (W pP)) := by
 have f : EF1.orc 87 [iv .i64 255, iv .u64 19] = some (ret1 (W pP)) := by kernel_rfl
 refine execF_ok follows_ok EF1_ok Tryz.func108 ?_
 ((conv => whnf); repeat ((first | refine ⟨_, f, ?_⟩ | refine ⟨_, rfl, ?_⟩ | refine ⟨by decide, ?_⟩); conv => whnf))
 rfl
theorem plusN_row {a b : List Int} (hc : isW a = true ∧ isW b = true) : CallOk Tryz.prog 100 [.agg (.flat .u64 a), .agg (.flat .u64 b)] (two (((vl a) + (vl b)) % 2 ^ 256) (((vl a) + (vl b)) / 2 ^ 256)) := by
 obtain ⟨h0, h1⟩ := hc
 have e0 := isW_eq h0
 have l0 := vl_lt h0
 clear h0
 generalize vl a = n0 at *
 subst e0
 have e1 := isW_eq h1
 have l1 := vl_lt h1
 clear h1
 generalize vl b = n1 at *
 subst e1
 exact plusN_call n0 n1 l0 l1
theorem minusN_row {a b : List Int} (hc : isW a = true ∧ isW b = true) : CallOk Tryz.prog 120 [.agg (.flat .u64 a), .agg (.flat .u64 b)] (two (((vl a) + 2 ^ 256 - (vl b)) % 2 ^ 256) (lt1 (vl a) (vl b))) := by
 obtain ⟨h0, h1⟩ := hc
 have e0 := isW_eq h0
 have l0 := vl_lt h0
 clear h0
 generalize vl a = n0 at *
 subst e0
 have e1 := isW_eq h1
 have l1 := vl_lt h1
 clear h1
 generalize vl b = n1 at *
 subst e1
 exact minusN_call n0 n1 l0 l1
def orcF2 (f : Nat) (ds : List LV) : Option LRes :=
 match f with
 | 100 => match ds with
  | [.agg (.flat .u64 a), .agg (.flat .u64 b)] => if isW a = true ∧ isW b = true then some (two (((vl a) + (vl b)) % 2 ^ 256) (((vl a) + (vl b)) / 2 ^ 256)) else none
  | _ => none
 | 120 => match ds with
  | [.agg (.flat .u64 a), .agg (.flat .u64 b)] => if isW a = true ∧ isW b = true then some (two (((vl a) + 2 ^ 256 - (vl b)) % 2 ^ 256) (lt1 (vl a) (vl b))) else none
  | _ => none
 | 108 => match ds with
  | [] => some (ret1 (W pP))
  | _ => none
 | 102 => match ds with
  | [] => some (ret1 (W qQ))
  | _ => none
 | _ => orcF1 f ds
theorem orcF2_ok : Known Tryz.prog orcF2 := by
 intro f ds r h
 unfold orcF2 at h
 split at h
 ·split at h
  ·split at h
   ·rename_i hc
    cases h
    exact .inl ⟨⟨_, Tryz.func100, name_ne _ (by kernel_rfl), rfl⟩, plusN_row hc⟩
   ·cases h
  ·cases h
 ·split at h
  ·split at h
   ·rename_i hc
    cases h
    exact .inl ⟨⟨_, Tryz.func120, name_ne _ (by kernel_rfl), rfl⟩, minusN_row hc⟩
   ·cases h
  ·cases h
 ·split at h
  ·cases h
   exact .inl ⟨⟨_, Tryz.func108, name_ne _ (by kernel_rfl), rfl⟩, prime_call⟩
  ·cases h
 ·split at h
  ·cases h
   exact .inl ⟨⟨_, Tryz.func102, name_ne _ (by kernel_rfl), rfl⟩, order_call⟩
  ·cases h
 ·exact orcF1_ok f ds r h
def EF2 : Env := ⟨tyL, orcF2, false, noWk, noOrw⟩
theorem EF2_ok : EnvOk Tryz.prog EF2 := ⟨tyL_ok, orcF2_ok, noOrw_ok⟩
theorem is_EF2 {f : Nat} {ds : List LV} {K : LRes → Prop} (h : ∃ y, EF2.orc f ds = some y ∧ K y) : ∃ y, EF2.orc f ds = some y ∧ K y := h
theorem o_minusN {a b : Nat} (ha : a < 2 ^ 256) (hb : b < 2 ^ 256) : EF2.orc 120 [W a, W b] = some (two ((a + 2 ^ 256 - b) % 2 ^ 256) (lt1 a b)) :=
 (if_pos ⟨isW_wd ha, isW_wd hb⟩).trans (by rw [wd_vl _ ha, wd_vl _ hb])
set_option maxRecDepth 100000 in
set_option maxHeartbeats 1600000 in
theorem less_call (a b : Nat) (ha : a < 2 ^ 256) (hb : b < 2 ^ 256) : CallOk Tryz.prog 107 [W a, W b] (ret1 (.v (.bool (decide (a < b))))) := by
 rw [← lt1_beq]
 refine execF_ok follows_ok EF2_ok Tryz.func107 ?_
 ((conv => whnf); repeat ((first | ((with_reducible refine is_EF2 ?_); first | refine ⟨_, o_minusN ha hb, ?_⟩) | refine ⟨_, rfl, ?_⟩ | refine ⟨rfl, ?_⟩); conv => whnf))
 rfl
def wi (x m : Nat) : Nat := if x < m then x else x - m
theorem wi_mod {x m : Nat} (h : x < 2 * m) : wi x m = x % m := by
 unfold wi
 by_cases h1 : x < m
 ·rw [if_pos h1, Nat.mod_eq_of_lt h1]
 ·rw [if_neg h1, Nat.mod_eq_sub_mod (by omega), Nat.mod_eq_of_lt (by omega)]
set_option maxRecDepth 100000 in
set_option maxHeartbeats 1600000 in
theorem within_call (x m : Nat) (hx : x < 2 ^ 256) (hm : m < 2 ^ 256) : CallOk Tryz.prog 101 [W x, W m] (ret1 (W (wi x m))) := by
 by_cases h : x < m
 ·have f := o_minusN hx hm
  rw [lt1_yes h] at f
  rw [wi, if_pos h]
  refine execF_ok follows_ok EF2_ok Tryz.func101 ?_
  ((conv => whnf); repeat ((first | ((with_reducible refine is_EF2 ?_); first | refine ⟨_, f, ?_⟩) | refine ⟨_, rfl, ?_⟩ | refine ⟨rfl, ?_⟩ | refine ⟨fun h => absurd h (by decide), fun _ => ?_⟩); conv => whnf))
  rfl
 ·have f := o_minusN hx hm
  rw [lt1_no h, show (x + 2 ^ 256 - m) % 2 ^ 256 = x - m by omega] at f
  rw [wi, if_neg h]
  refine execF_ok follows_ok EF2_ok Tryz.func101 ?_
  ((conv => whnf); repeat ((first | ((with_reducible refine is_EF2 ?_); first | refine ⟨_, f, ?_⟩) | refine ⟨_, rfl, ?_⟩ | refine ⟨rfl, ?_⟩ | refine ⟨fun _ => ?_, fun h => absurd h (by decide)⟩); conv => whnf))
  rfl
theorem less_row {a b : List Int} (hc : isW a = true ∧ isW b = true) : CallOk Tryz.prog 107 [.agg (.flat .u64 a), .agg (.flat .u64 b)] (ret1 (.v (.bool (decide ((vl a) < (vl b)))))) := by
 obtain ⟨h0, h1⟩ := hc
 have e0 := isW_eq h0
 have l0 := vl_lt h0
 clear h0
 generalize vl a = n0 at *
 subst e0
 have e1 := isW_eq h1
 have l1 := vl_lt h1
 clear h1
 generalize vl b = n1 at *
 subst e1
 exact less_call n0 n1 l0 l1
theorem within_row {a b : List Int} (hc : isW a = true ∧ isW b = true) : CallOk Tryz.prog 101 [.agg (.flat .u64 a), .agg (.flat .u64 b)] (ret1 (W (wi (vl a) (vl b)))) := by
 obtain ⟨h0, h1⟩ := hc
 have e0 := isW_eq h0
 have l0 := vl_lt h0
 clear h0
 generalize vl a = n0 at *
 subst e0
 have e1 := isW_eq h1
 have l1 := vl_lt h1
 clear h1
 generalize vl b = n1 at *
 subst e1
 exact within_call n0 n1 l0 l1
def orcF3 (f : Nat) (ds : List LV) : Option LRes :=
 match f with
 | 100 => match ds with
  | [.agg (.flat .u64 a), .agg (.flat .u64 b)] => if isW a = true ∧ isW b = true then some (two (((vl a) + (vl b)) % 2 ^ 256) (((vl a) + (vl b)) / 2 ^ 256)) else none
  | _ => none
 | 120 => match ds with
  | [.agg (.flat .u64 a), .agg (.flat .u64 b)] => if isW a = true ∧ isW b = true then some (two (((vl a) + 2 ^ 256 - (vl b)) % 2 ^ 256) (lt1 (vl a) (vl b))) else none
  | _ => none
 | 108 => match ds with
  | [] => some (ret1 (W pP))
  | _ => none
 | 102 => match ds with
  | [] => some (ret1 (W qQ))
  | _ => none
 | 107 => match ds with
  | [.agg (.flat .u64 a), .agg (.flat .u64 b)] => if isW a = true ∧ isW b = true then some (ret1 (.v (.bool (decide ((vl a) < (vl b)))))) else none
  | _ => none
 | 101 => match ds with
  | [.agg (.flat .u64 a), .agg (.flat .u64 b)] => if isW a = true ∧ isW b = true then some (ret1 (W (wi (vl a) (vl b)))) else none
  | _ => none
 | _ => orcF2 f ds
theorem orcF3_ok : Known Tryz.prog orcF3 := by
 intro f ds r h
 unfold orcF3 at h
 split at h
 ·split at h
  ·split at h
   ·rename_i hc
    cases h
    exact .inl ⟨⟨_, Tryz.func100, name_ne _ (by kernel_rfl), rfl⟩, plusN_row hc⟩
   ·cases h
  ·cases h
 ·split at h
  ·split at h
   ·rename_i hc
    cases h
    exact .inl ⟨⟨_, Tryz.func120, name_ne _ (by kernel_rfl), rfl⟩, minusN_row hc⟩
   ·cases h
  ·cases h
 ·split at h
  ·cases h
   exact .inl ⟨⟨_, Tryz.func108, name_ne _ (by kernel_rfl), rfl⟩, prime_call⟩
  ·cases h
 ·split at h
  ·cases h
   exact .inl ⟨⟨_, Tryz.func102, name_ne _ (by kernel_rfl), rfl⟩, order_call⟩
  ·cases h
 ·split at h
  ·split at h
   ·rename_i hc
    cases h
    exact .inl ⟨⟨_, Tryz.func107, name_ne _ (by kernel_rfl), rfl⟩, less_row hc⟩
   ·cases h
  ·cases h
 ·split at h
  ·split at h
   ·rename_i hc
    cases h
    exact .inl ⟨⟨_, Tryz.func101, name_ne _ (by kernel_rfl), rfl⟩, within_row hc⟩
   ·cases h
  ·cases h
 ·exact orcF2_ok f ds r h
def EF3 : Env := ⟨tyL, orcF3, false, noWk, noOrw⟩
theorem EF3_ok : EnvOk Tryz.prog EF3 := ⟨tyL_ok, orcF3_ok, noOrw_ok⟩
theorem is_EF3 {f : Nat} {ds : List LV} {K : LRes → Prop} (h : ∃ y, EF3.orc f ds = some y ∧ K y) : ∃ y, EF3.orc f ds = some y ∧ K y := h
theorem oo_plusN {a b : Nat} (ha : a < 2 ^ 256) (hb : b < 2 ^ 256) : EF3.orc 100 [W a, W b] = some (two ((a + b) % 2 ^ 256) ((a + b) / 2 ^ 256)) :=
 (if_pos ⟨isW_wd ha, isW_wd hb⟩).trans (by rw [wd_vl _ ha, wd_vl _ hb])
theorem oo_prime : EF3.orc 108 [] = some (ret1 (W pP)) := rfl
theorem oo_order : EF3.orc 102 [] = some (ret1 (W qQ)) := rfl
theorem o_less {a b : Nat} (ha : a < 2 ^ 256) (hb : b < 2 ^ 256) : EF3.orc 107 [W a, W b] = some (ret1 (.v (.bool (decide (a < b))))) :=
 (if_pos ⟨isW_wd ha, isW_wd hb⟩).trans (by rw [wd_vl _ ha, wd_vl _ hb])
theorem o_within {a b : Nat} (ha : a < 2 ^ 256) (hb : b < 2 ^ 256) : EF3.orc 101 [W a, W b] = some (ret1 (W (wi a b))) :=
 (if_pos ⟨isW_wd ha, isW_wd hb⟩).trans (by rw [wd_vl _ ha, wd_vl _ hb])
theorem or64 (X x y : Int) (n : Nat) (hX : X = x * 2 ^ n) (hx : 0 ≤ x) (hy : 0 ≤ y) (hn : y < 2 ^ n) (hl : X + y < 18446744073709551616) : bits .or .u64 X y = X + y := by
 obtain ⟨a, rfl⟩ := Int.eq_ofNat_of_zero_le hx
 obtain ⟨b, rfl⟩ := Int.eq_ofNat_of_zero_le hy
 have hb : b < 2 ^ n := by exact_mod_cast hn
 have hX' : X = ((2 ^ n * a : Nat) : Int) := by rw [hX]; push_cast; exact Int.mul_comm _ _
 subst hX'
 clear hX
 rw [bits_or_u64_nat _ _ (by omega) (by omega), ← Nat.two_pow_add_eq_or_of_lt hb]
 push_cast
 rfl
theorem mask63 (a : Int) (h : U a) : bits .and .u64 a 9223372036854775807 = a % 9223372036854775808 := by
 obtain ⟨n, rfl⟩ := Int.eq_ofNat_of_zero_le h.1
 have hn := h.2
 have h := bits_and_u64_nat n 9223372036854775807 (by omega) (by omega)
 rw [show n &&& 9223372036854775807 = n % 9223372036854775808 from Nat.and_two_pow_sub_one_eq_mod n 63] at h
 rw [show (9223372036854775807 : Int) = ((9223372036854775807 : Nat) : Int) from rfl, h]
 omega
theorem top63 (a : Int) (_ : U a) : a.fdiv (2 ^ min (63 : Int).toNat IntKind.u64.bits) = a / 9223372036854775808 := by
 rw [show ((2 : Int) ^ (min (63 : Int).toNat IntKind.u64.bits)) = 9223372036854775808 from rfl, Int.fdiv_eq_ediv_of_nonneg _ (by omega)]
set_option maxRecDepth 100000 in
set_option maxHeartbeats 1600000 in
theorem fold_call (a b : Nat) (ha : a < 2 ^ 256) (_ : b < 18446744073709551616) (hb : b ≤ 40) : CallOk Tryz.prog 116 [W a, iv .u64 (b : Nat)] (ret1 (W ((a + 2 ^ 256 * b) % pP))) := by
 obtain ⟨a0, a1, a2, a3, ea, u0, u1, u2, u3, qa⟩ := wd_split a ha
 have ht : bits .or .u64 (IntKind.u64.wrap ((b : Int) * 2 ^ min (1 : Int).toNat IntKind.u64.bits)) (a3.fdiv (2 ^ min (63 : Int).toNat IntKind.u64.bits)) = 2 * (b : Int) + a3 / 9223372036854775808 := by
  have e1 : IntKind.u64.wrap ((b : Int) * 2 ^ min (1 : Int).toNat IntKind.u64.bits) = 2 * (b : Int) := by
   rw [IntKind.wrap_u64, show ((2 : Int) ^ min (1 : Int).toNat IntKind.u64.bits) = 2 from rfl]; omega
  rw [e1, top63 a3 u3]
  unfold U at u3
  exact or64 _ (b : Int) _ 1 (by omega) (by omega) (by omega) (by omega) (by omega)
 have hm := mask63 a3 u3
 obtain ⟨t, et⟩ : ∃ t : Nat, (t : Int) = 2 * (b : Int) + a3 / 9223372036854775808 := ⟨(2 * (b : Int) + a3 / 9223372036854775808).toNat, by unfold U at u3; omega⟩
 have e1 : wd (a % 2 ^ 255) = [a0, a1, a2, bits .and .u64 a3 9223372036854775807] := by
  rw [hm]
  exact (wd_of (e := 0) u0 u1 u2 (by unfold U at *; omega) (by unfold U at *; omega)).1
 have e2 : wd (19 * t) = [IntKind.u64.wrap (19 * bits .or .u64 (IntKind.u64.wrap ((b : Int) * 2 ^ min (1 : Int).toNat IntKind.u64.bits)) (a3.fdiv (2 ^ min (63 : Int).toNat IntKind.u64.bits))), 0, 0, 0] := by
  rw [ht, ← et]
  exact (wd_of (e := 0) (by rw [IntKind.wrap_u64]; unfold U at *; omega) U_zero U_zero U_zero (by rw [IntKind.wrap_u64]; unfold U at *; omega)).1
 have hs : a % 2 ^ 255 + 19 * t < 2 * pP := by unfold pP U at *; omega
 have f1 := oo_plusN (a := a % 2 ^ 255) (b := 19 * t) (by omega) (by unfold pP at hs; omega)
 rw [W, W, e1, e2] at f1
 have f2 := o_within (a := (a % 2 ^ 255 + 19 * t) % 2 ^ 256) (b := pP) (by omega) (by unfold pP; omega)
 have hr : wi ((a % 2 ^ 255 + 19 * t) % 2 ^ 256) pP = (a + 2 ^ 256 * b) % pP := by
  rw [Nat.mod_eq_of_lt (by unfold pP at hs; omega), wi_mod hs]
  have : a + 2 ^ 256 * b = a % 2 ^ 255 + 19 * t + pP * t := by unfold pP U at *; omega
  rw [this, Nat.add_mul_mod_self_left]
 rw [hr] at f2
 rw [W, ea]
 refine execF_ok follows_ok EF3_ok Tryz.func116 ?_
 ((conv => whnf); repeat ((first | ((with_reducible refine is_EF3 ?_); first | refine ⟨_, f1, ?_⟩ | refine ⟨_, f2, ?_⟩ | refine ⟨_, oo_prime, ?_⟩) | refine ⟨_, rfl, ?_⟩ | refine ⟨by decide, ?_⟩ | refine ⟨rfl, ?_⟩); conv => whnf))
 rfl
theorem fold_row {a : List Int} {b : Int} (hc : isW a = true ∧ U b ∧ (b.toNat) ≤ 40) : CallOk Tryz.prog 116 [.agg (.flat .u64 a), .v (.int .u64 b)] (ret1 (W (((vl a) + 2 ^ 256 * (b.toNat)) % pP))) := by
 obtain ⟨h0, h1, h2⟩ := hc
 have e0 := isW_eq h0
 have l0 := vl_lt h0
 clear h0
 generalize vl a = n0 at *
 subst e0
 obtain ⟨n1, rfl⟩ := Int.eq_ofNat_of_zero_le h1.1
 have l1 : n1 < 18446744073709551616 := by have := h1.2; omega
 exact fold_call n0 n1 l0 l1 h2
def orcF4 (f : Nat) (ds : List LV) : Option LRes :=
 match f with
 | 100 => match ds with
  | [.agg (.flat .u64 a), .agg (.flat .u64 b)] => if isW a = true ∧ isW b = true then some (two (((vl a) + (vl b)) % 2 ^ 256) (((vl a) + (vl b)) / 2 ^ 256)) else none
  | _ => none
 | 120 => match ds with
  | [.agg (.flat .u64 a), .agg (.flat .u64 b)] => if isW a = true ∧ isW b = true then some (two (((vl a) + 2 ^ 256 - (vl b)) % 2 ^ 256) (lt1 (vl a) (vl b))) else none
  | _ => none
 | 108 => match ds with
  | [] => some (ret1 (W pP))
  | _ => none
 | 116 => match ds with
  | [.agg (.flat .u64 a), .v (.int .u64 b)] => if isW a = true ∧ U b ∧ (b.toNat) ≤ 40 then some (ret1 (W (((vl a) + 2 ^ 256 * (b.toNat)) % pP))) else none
  | _ => none
 | _ => orcF3 f ds
theorem orcF4_ok : Known Tryz.prog orcF4 := by
 intro f ds r h
 unfold orcF4 at h
 split at h
 ·split at h
  ·split at h
   ·rename_i hc
    cases h
    exact .inl ⟨⟨_, Tryz.func100, name_ne _ (by kernel_rfl), rfl⟩, plusN_row hc⟩
   ·cases h
  ·cases h
 ·split at h
  ·split at h
   ·rename_i hc
    cases h
    exact .inl ⟨⟨_, Tryz.func120, name_ne _ (by kernel_rfl), rfl⟩, minusN_row hc⟩
   ·cases h
  ·cases h
 ·split at h
  ·cases h
   exact .inl ⟨⟨_, Tryz.func108, name_ne _ (by kernel_rfl), rfl⟩, prime_call⟩
  ·cases h
 ·split at h
  ·split at h
   ·rename_i hc
    cases h
    exact .inl ⟨⟨_, Tryz.func116, name_ne _ (by kernel_rfl), rfl⟩, fold_row hc⟩
   ·cases h
  ·cases h
 ·exact orcF3_ok f ds r h
def EF4 : Env := ⟨tyL, orcF4, false, noWk, noOrw⟩
theorem EF4_ok : EnvOk Tryz.prog EF4 := ⟨tyL_ok, orcF4_ok, noOrw_ok⟩
theorem is_EF4 {f : Nat} {ds : List LV} {K : LRes → Prop} (h : ∃ y, EF4.orc f ds = some y ∧ K y) : ∃ y, EF4.orc f ds = some y ∧ K y := h
theorem o4_plusN {a b : Nat} (ha : a < 2 ^ 256) (hb : b < 2 ^ 256) : EF4.orc 100 [W a, W b] = some (two ((a + b) % 2 ^ 256) ((a + b) / 2 ^ 256)) :=
 (if_pos ⟨isW_wd ha, isW_wd hb⟩).trans (by rw [wd_vl _ ha, wd_vl _ hb])
theorem o_fold {a b : Nat} (ha : a < 2 ^ 256) (hb : b < 18446744073709551616) (x0 : b ≤ 40) : EF4.orc 116 [W a, iv .u64 (b : Nat)] = some (ret1 (W ((a + 2 ^ 256 * b) % pP))) :=
 (if_pos ⟨isW_wd ha, ⟨by omega, by omega⟩, by first | exact x0 | (rw [wd_vl _ ha, Int.toNat_natCast]; exact x0) | (rw [wd_vl _ ha]; exact x0) | (rw [Int.toNat_natCast]; exact x0)⟩).trans (by rw [wd_vl _ ha, Int.toNat_natCast])
set_option maxRecDepth 100000 in
set_option maxHeartbeats 1600000 in
theorem reduce_call (a : Nat) (ha : a < 2 ^ 256) : CallOk Tryz.prog 111 [W a] (ret1 (W (a % pP))) := by
 have f := o_fold (a := a) (b := 0) ha (by omega) (by omega)
 rw [Nat.mul_zero, Nat.add_zero] at f
 refine execF_ok follows_ok EF4_ok Tryz.func111 ?_
 ((conv => whnf); repeat ((first | ((with_reducible refine is_EF4 ?_); first | refine ⟨_, f, ?_⟩) | refine ⟨_, rfl, ?_⟩ | refine ⟨rfl, ?_⟩); conv => whnf))
 rfl
set_option maxRecDepth 100000 in
set_option maxHeartbeats 1600000 in
theorem add_call (a b : Nat) (ha : a < 2 ^ 256) (hb : b < 2 ^ 256) : CallOk Tryz.prog 109 [W a, W b] (ret1 (W ((a + b) % pP))) := by
 have f := o_fold (a := (a + b) % 2 ^ 256) (b := (a + b) / 2 ^ 256) (by omega) (by omega) (by omega)
 rw [show (a + b) % 2 ^ 256 + 2 ^ 256 * ((a + b) / 2 ^ 256) = a + b by omega] at f
 refine execF_ok follows_ok EF4_ok Tryz.func109 ?_
 ((conv => whnf); repeat ((first | ((with_reducible refine is_EF4 ?_); first | refine ⟨_, f, ?_⟩ | refine ⟨_, o4_plusN ha hb, ?_⟩) | refine ⟨_, rfl, ?_⟩ | refine ⟨rfl, ?_⟩); conv => whnf))
 rfl
theorem reduce_row {a : List Int} (hc : isW a = true) : CallOk Tryz.prog 111 [.agg (.flat .u64 a)] (ret1 (W ((vl a) % pP))) := by
 have h0 := hc
 clear hc
 have e0 := isW_eq h0
 have l0 := vl_lt h0
 clear h0
 generalize vl a = n0 at *
 subst e0
 exact reduce_call n0 l0
def orcF5 (f : Nat) (ds : List LV) : Option LRes :=
 match f with
 | 120 => match ds with
  | [.agg (.flat .u64 a), .agg (.flat .u64 b)] => if isW a = true ∧ isW b = true then some (two (((vl a) + 2 ^ 256 - (vl b)) % 2 ^ 256) (lt1 (vl a) (vl b))) else none
  | _ => none
 | 108 => match ds with
  | [] => some (ret1 (W pP))
  | _ => none
 | 111 => match ds with
  | [.agg (.flat .u64 a)] => if isW a = true then some (ret1 (W ((vl a) % pP))) else none
  | _ => none
 | _ => orcF4 f ds
theorem orcF5_ok : Known Tryz.prog orcF5 := by
 intro f ds r h
 unfold orcF5 at h
 split at h
 ·split at h
  ·split at h
   ·rename_i hc
    cases h
    exact .inl ⟨⟨_, Tryz.func120, name_ne _ (by kernel_rfl), rfl⟩, minusN_row hc⟩
   ·cases h
  ·cases h
 ·split at h
  ·cases h
   exact .inl ⟨⟨_, Tryz.func108, name_ne _ (by kernel_rfl), rfl⟩, prime_call⟩
  ·cases h
 ·split at h
  ·split at h
   ·rename_i hc
    cases h
    exact .inl ⟨⟨_, Tryz.func111, name_ne _ (by kernel_rfl), rfl⟩, reduce_row hc⟩
   ·cases h
  ·cases h
 ·exact orcF4_ok f ds r h
def EF5 : Env := ⟨tyL, orcF5, false, noWk, noOrw⟩
theorem EF5_ok : EnvOk Tryz.prog EF5 := ⟨tyL_ok, orcF5_ok, noOrw_ok⟩
theorem is_EF5 {f : Nat} {ds : List LV} {K : LRes → Prop} (h : ∃ y, EF5.orc f ds = some y ∧ K y) : ∃ y, EF5.orc f ds = some y ∧ K y := h
theorem o5_minusN {a b : Nat} (ha : a < 2 ^ 256) (hb : b < 2 ^ 256) : EF5.orc 120 [W a, W b] = some (two ((a + 2 ^ 256 - b) % 2 ^ 256) (lt1 a b)) :=
 (if_pos ⟨isW_wd ha, isW_wd hb⟩).trans (by rw [wd_vl _ ha, wd_vl _ hb])
theorem o5_prime : EF5.orc 108 [] = some (ret1 (W pP)) := rfl
theorem o_reduce {a : Nat} (ha : a < 2 ^ 256) : EF5.orc 111 [W a] = some (ret1 (W (a % pP))) :=
 (if_pos (isW_wd ha)).trans (by rw [wd_vl _ ha])
set_option maxRecDepth 100000 in
set_option maxHeartbeats 1600000 in
theorem negative_call (a : Nat) (ha : a < 2 ^ 256) : CallOk Tryz.prog 112 [W a] (ret1 (W (pP - a % pP))) := by
 have hl : a % pP < pP := Nat.mod_lt _ (by unfold pP; omega)
 have f := o5_minusN (a := pP) (b := a % pP) (by unfold pP; omega) (by unfold pP at *; omega)
 rw [show (pP + 2 ^ 256 - a % pP) % 2 ^ 256 = pP - a % pP by unfold pP at *; omega] at f
 refine execF_ok follows_ok EF5_ok Tryz.func112 ?_
 ((conv => whnf); repeat ((first | ((with_reducible refine is_EF5 ?_); first | refine ⟨_, f, ?_⟩ | refine ⟨_, o_reduce ha, ?_⟩ | refine ⟨_, o5_prime, ?_⟩) | refine ⟨_, rfl, ?_⟩ | refine ⟨by decide, ?_⟩ | refine ⟨rfl, ?_⟩); conv => whnf))
 rfl
end Go.Proofs.YtdeigmjbcbjgeaaGreatDoor
