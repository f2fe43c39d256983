/-
  Layer 8: numbers of four and of eight words; the three operations on words.
-/
import Derived.Lib.Mul64
import Derived.Laws.Bits64b
import Derived.Shelf.Spec.BitsCarry
import Derived.Test.YtdeigmjbcbjgeaaGreatDoorYdLst
import Derived.Test.YtdeigmjbcbjgeaaGreatDoorYdTypes
namespace Go.Proofs.YtdeigmjbcbjgeaaGreatDoor
open Go.RowKit

/-- A word. -/
def U (x : Int) : Prop := 0 ≤ x ∧ x < 18446744073709551616
instance (x : Int) : Decidable (U x) := inferInstanceAs (Decidable (_ ∧ _))
theorem U_zero : U 0 := ⟨by decide, by decide⟩
/-- Word i of a number. -/
def dg (n i : Nat) : Int := ((n / 18446744073709551616 ^ i % 18446744073709551616 : Nat) : Int)
theorem dg_U (n i : Nat) : U (dg n i) := by unfold dg U; omega
def wd (n : Nat) : List Int := [dg n 0, dg n 1, dg n 2, dg n 3]
def wd8 (n : Nat) : List Int := [dg n 0, dg n 1, dg n 2, dg n 3, dg n 4, dg n 5, dg n 6, dg n 7]
abbrev W (n : Nat) : LV := .agg (.flat .u64 (wd n))
abbrev W8 (n : Nat) : LV := .agg (.flat .u64 (wd8 n))
/-- The number of words. -/
def vl : List Int → Nat
  | [] => 0
  | x :: l => x.toNat + 18446744073709551616 * vl l
def isW (l : List Int) : Bool := l == wd (vl l)
def isW8 (l : List Int) : Bool := l == wd8 (vl l)
theorem isW_eq {l : List Int} (h : isW l = true) : l = wd (vl l) := by simpa [isW] using h
theorem isW8_eq {l : List Int} (h : isW8 l = true) : l = wd8 (vl l) := by simpa [isW8] using h
theorem dg_lit (n : Nat) : dg n 0 = ((n % 18446744073709551616 : Nat) : Int) ∧ dg n 1 = ((n / 18446744073709551616 % 18446744073709551616 : Nat) : Int) ∧
    dg n 2 = ((n / 340282366920938463463374607431768211456 % 18446744073709551616 : Nat) : Int) ∧ dg n 3 = ((n / 6277101735386680763835789423207666416102355444464034512896 % 18446744073709551616 : Nat) : Int) := by
  refine ⟨?_, ?_, ?_, ?_⟩ <;> simp [dg]
theorem wd_vl (n : Nat) (h : n < 2 ^ 256) : vl (wd n) = n := by
  obtain ⟨h0, h1, h2, h3⟩ := dg_lit n
  simp only [wd, vl, h0, h1, h2, h3]
  omega
theorem vl_wd_lt (n : Nat) : vl (wd n) < 2 ^ 256 := by
  obtain ⟨h0, h1, h2, h3⟩ := dg_lit n
  simp only [wd, vl, h0, h1, h2, h3]
  omega
theorem vl_lt {l : List Int} (h : isW l = true) : vl l < 2 ^ 256 := by
  have e := vl_wd_lt (vl l)
  rwa [← isW_eq h] at e
theorem isW_wd {n : Nat} (h : n < 2 ^ 256) : isW (wd n) = true := by rw [isW, wd_vl n h]; simp
theorem wd_split (n : Nat) (h : n < 2 ^ 256) : ∃ a b c d : Int, wd n = [a, b, c, d] ∧ U a ∧ U b ∧ U c ∧ U d ∧
    (n : Int) = a + 18446744073709551616 * b + 340282366920938463463374607431768211456 * c + 6277101735386680763835789423207666416102355444464034512896 * d := by
  obtain ⟨h0, h1, h2, h3⟩ := dg_lit n
  refine ⟨_, _, _, _, rfl, dg_U _ _, dg_U _ _, dg_U _ _, dg_U _ _, ?_⟩
  rw [h0, h1, h2, h3]
  omega
theorem wd_of {n : Nat} {a b c d e : Int} (ha : U a) (hb : U b) (hc : U c) (hd : U d)
    (h : (n : Int) = a + 18446744073709551616 * b + 340282366920938463463374607431768211456 * c + 6277101735386680763835789423207666416102355444464034512896 * d + 115792089237316195423570985008687907853269984665640564039457584007913129639936 * e) :
    wd n = [a, b, c, d] ∧ ((n / 2 ^ 256 : Nat) : Int) = e := by
  obtain ⟨h0, h1, h2, h3⟩ := dg_lit n
  unfold U at *
  refine ⟨?_, by omega⟩
  rw [wd, h0, h1, h2, h3]
  have e0 : ((n % 18446744073709551616 : Nat) : Int) = a := by omega
  have e1 : ((n / 18446744073709551616 % 18446744073709551616 : Nat) : Int) = b := by omega
  have e2 : ((n / 340282366920938463463374607431768211456 % 18446744073709551616 : Nat) : Int) = c := by omega
  have e3 : ((n / 6277101735386680763835789423207666416102355444464034512896 % 18446744073709551616 : Nat) : Int) = d := by omega
  rw [e0, e1, e2, e3]
theorem wd_mod (n : Nat) : wd (n % 2 ^ 256) = wd n := by
  obtain ⟨h0, h1, h2, h3⟩ := dg_lit n
  obtain ⟨g0, g1, g2, g3⟩ := dg_lit (n % 2 ^ 256)
  rw [wd, wd, h0, h1, h2, h3, g0, g1, g2, g3]
  have e0 : n % 2 ^ 256 % 18446744073709551616 = n % 18446744073709551616 := by omega
  have e1 : n % 2 ^ 256 / 18446744073709551616 % 18446744073709551616 = n / 18446744073709551616 % 18446744073709551616 := by omega
  have e2 : n % 2 ^ 256 / 340282366920938463463374607431768211456 % 18446744073709551616 = n / 340282366920938463463374607431768211456 % 18446744073709551616 := by omega
  have e3 : n % 2 ^ 256 / 6277101735386680763835789423207666416102355444464034512896 % 18446744073709551616 = n / 6277101735386680763835789423207666416102355444464034512896 % 18446744073709551616 := by omega
  rw [e0, e1, e2, e3]
theorem wd_inj {a b : Nat} (ha : a < 2 ^ 256) (hb : b < 2 ^ 256) (h : wd a = wd b) : a = b := by rw [← wd_vl a ha, h, wd_vl b hb]

/-! sums and differences of words -/
theorem add64_ext {x y c : Int} (hx : U x) (hy : U y) (hc : c = 0 ∨ c = 1) : Ext Tryz.prog 114 [iv .u64 x, iv .u64 y, iv .u64 c] (.many [.val (iv .u64 ((x + y + c) % 18446744073709551616)), .val (iv .u64 ((x + y + c) / 18446744073709551616))]) := by
  unfold U at hx hy
  refine ⟨[.int .u64 x, .int .u64 y, .int .u64 c], [.int .u64 ((x + y + c) % 18446744073709551616), .int .u64 ((x + y + c) / 18446744073709551616)], rfl, rfl, by simp [plain], fun w => ?_⟩
  rw [run_callFunc_extern Tryz.func114 (by kernel_rfl) (by kernel_rfl) (by kernel_rfl) (e := add64Entry) (by kernel_rfl)]
  rw [run_add64 x y c (by omega) (by omega) (by omega) (by omega)]
  rfl
def bor (x y c : Int) : Int := if x < y + c then 1 else 0
theorem sub64_ext {x y c : Int} (hx : U x) (hy : U y) (hc : c = 0 ∨ c = 1) : Ext Tryz.prog 119 [iv .u64 x, iv .u64 y, iv .u64 c] (.many [.val (iv .u64 ((x - y - c) % 18446744073709551616)), .val (iv .u64 (bor x y c))]) := by
  unfold U at hx hy
  refine ⟨[.int .u64 x, .int .u64 y, .int .u64 c], [.int .u64 ((x - y - c) % 18446744073709551616), .int .u64 (bor x y c)], rfl, rfl, by simp [plain], fun w => ?_⟩
  rw [run_callFunc_extern Tryz.func119 (by kernel_rfl) (by kernel_rfl) (by kernel_rfl) (e := sub64Entry) (by kernel_rfl)]
  obtain ⟨X, rfl⟩ := Int.eq_ofNat_of_zero_le hx.1
  obtain ⟨Y, rfl⟩ := Int.eq_ofNat_of_zero_le hy.1
  obtain ⟨C, rfl⟩ := Int.eq_ofNat_of_zero_le (a := c) (by omega)
  have e := run_sub64 (P := Tryz.prog) X Y C (by omega) w
  have h1 : (((X + 18446744073709551616 - Y - C) % 18446744073709551616 : Nat) : Int) = ((X : Int) - (Y : Int) - (C : Int)) % 18446744073709551616 := by omega
  have h2 : (((if X < Y + C then 1 else 0 : Nat)) : Int) = bor X Y C := by
    unfold bor
    by_cases h : X < Y + C
    · rw [if_pos h, if_pos (by omega)]; rfl
    · rw [if_neg h, if_neg (by omega)]; rfl
  rw [h1, h2] at e
  rw [e]
  rfl

/-! products of words -/
def hiW (x y : Int) : Int := x * y / 18446744073709551616
def loW (x y : Int) : Int := x * y % 18446744073709551616
theorem maskN (a : Nat) (ha : a < 18446744073709551616) : bits .and .u64 (a : Int) 4294967295 = ((a % 4294967296 : Nat) : Int) := by
  have h := bits_and_u64_nat a 4294967295 ha (by omega)
  rw [show a &&& 4294967295 = a % 4294967296 from Nat.and_two_pow_sub_one_eq_mod a 32] at h
  exact h
theorem fdivN (a : Nat) (e : Nat) (he : e = 32) : (a : Int).fdiv (2 ^ (min e IntKind.u64.bits)) = ((a / 4294967296 : Nat) : Int) := by
  subst he
  rw [show ((2 : Int) ^ (min 32 IntKind.u64.bits)) = ((4294967296 : Nat) : Int) from rfl, Int.fdiv_eq_ediv_of_nonneg _ (by omega)]
  exact (Int.natCast_ediv a 4294967296).symm
theorem mulN (a b : Nat) : (a : Int) * (b : Int) = ((a * b : Nat) : Int) := (Int.natCast_mul a b).symm
theorem addN (a b : Nat) : (a : Int) + (b : Int) = ((a + b : Nat) : Int) := (Int.natCast_add a b).symm
theorem wrapN (a : Nat) (ha : a < 18446744073709551616) : IntKind.u64.wrap (a : Int) = (a : Int) := by rw [IntKind.wrap_u64]; omega
def E0 : Env := ⟨tyL, fun _ _ => none, false, noWk, noOrw⟩
theorem E0_ok : EnvOk Tryz.prog E0 := ⟨tyL_ok, (by intro f ds r h; cases h), noOrw_ok⟩
set_option maxRecDepth 100000 in
set_option maxHeartbeats 1600000 in
theorem mul64_exec (x y : Nat) (hx : x < 18446744073709551616) (hy : y < 18446744073709551616) : execF E0 Tryz.f113 [iv .u64 x, iv .u64 y] (.many [.val (iv .u64 (hiW x y)), .val (iv .u64 (loW x y))]) := by
  obtain ⟨bd, bt, bw, hhi⟩ := Lib.mul64_hi x y hx hy
  have ba := Lib.half_mul_le (a := x / 4294967296) (b := y / 4294967296) (by omega) (by omega)
  have bb := Lib.half_mul_le (a := x / 4294967296) (b := y % 4294967296) (by omega) (by omega)
  have bc := Lib.half_mul_le (a := x % 4294967296) (b := y / 4294967296) (by omega) (by omega)
  have bh1 : x / 4294967296 * (y / 4294967296) + (x / 4294967296 * (y % 4294967296) + x % 4294967296 * (y % 4294967296) / 4294967296) / 4294967296 < 18446744073709551616 := by omega
  have bh : x / 4294967296 * (y / 4294967296) + (x / 4294967296 * (y % 4294967296) + x % 4294967296 * (y % 4294967296) / 4294967296) / 4294967296 + ((x / 4294967296 * (y % 4294967296) + x % 4294967296 * (y % 4294967296) / 4294967296) % 4294967296 + x % 4294967296 * (y / 4294967296)) / 4294967296 < 18446744073709551616 := by omega
  have e1 : hiW x y = IntKind.u64.wrap (IntKind.u64.wrap (IntKind.u64.wrap ((x : Int).fdiv (2 ^ (min (32 : Int).toNat IntKind.u64.bits)) * (y : Int).fdiv (2 ^ (min (32 : Int).toNat IntKind.u64.bits))) +
      (IntKind.u64.wrap (IntKind.u64.wrap ((x : Int).fdiv (2 ^ (min (32 : Int).toNat IntKind.u64.bits)) * bits .and .u64 y 4294967295) + (IntKind.u64.wrap (bits .and .u64 x 4294967295 * bits .and .u64 y 4294967295)).fdiv (2 ^ (min (32 : Int).toNat IntKind.u64.bits)))).fdiv (2 ^ (min (32 : Int).toNat IntKind.u64.bits))) +
      (IntKind.u64.wrap (bits .and .u64 (IntKind.u64.wrap (IntKind.u64.wrap ((x : Int).fdiv (2 ^ (min (32 : Int).toNat IntKind.u64.bits)) * bits .and .u64 y 4294967295) + (IntKind.u64.wrap (bits .and .u64 x 4294967295 * bits .and .u64 y 4294967295)).fdiv (2 ^ (min (32 : Int).toNat IntKind.u64.bits)))) 4294967295 +
        IntKind.u64.wrap (bits .and .u64 x 4294967295 * (y : Int).fdiv (2 ^ (min (32 : Int).toNat IntKind.u64.bits))))).fdiv (2 ^ (min (32 : Int).toNat IntKind.u64.bits))) := by
    have t32 : (32 : Int).toNat = 32 := rfl
    simp only [maskN x hx, maskN y hy, fdivN _ _ t32, mulN, addN, wrapN _ bd, wrapN _ (show x / 4294967296 * (y % 4294967296) < 18446744073709551616 by omega), wrapN _ bt, maskN _ bt,
      wrapN _ (show x % 4294967296 * (y / 4294967296) < 18446744073709551616 by omega), wrapN _ bw, wrapN _ (show x / 4294967296 * (y / 4294967296) < 18446744073709551616 by omega), wrapN _ bh1, wrapN _ bh]
    rw [hhi, hiW, mulN]
    omega
  have e2 : loW x y = IntKind.u64.wrap ((x : Int) * y) := by rw [loW, IntKind.wrap_u64]
  rw [e1, e2]
  ((conv => whnf); repeat ((first | refine ⟨_, rfl, ?_⟩ | refine ⟨by decide, ?_⟩ | refine ⟨rfl, ?_⟩); conv => whnf))
  rfl
theorem mul64_call {x y : Int} (hx : U x) (hy : U y) : CallOk Tryz.prog 113 [iv .u64 x, iv .u64 y] (.many [.val (iv .u64 (hiW x y)), .val (iv .u64 (loW x y))]) := by
  obtain ⟨X, rfl⟩ := Int.eq_ofNat_of_zero_le hx.1
  obtain ⟨Y, rfl⟩ := Int.eq_ofNat_of_zero_le hy.1
  unfold U at hx hy
  exact execF_ok follows_ok E0_ok Tryz.func113 (mul64_exec X Y (by omega) (by omega))
def orcU (f : Nat) (ds : List LV) : Option LRes :=
  match f with
  | 114 => match ds with
    | [.v (.int .u64 x), .v (.int .u64 y), .v (.int .u64 c)] => if U x ∧ U y ∧ (c = 0 ∨ c = 1) then some (.many [.val (iv .u64 ((x + y + c) % 18446744073709551616)), .val (iv .u64 ((x + y + c) / 18446744073709551616))]) else none
    | _ => none
  | 119 => match ds with
    | [.v (.int .u64 x), .v (.int .u64 y), .v (.int .u64 c)] => if U x ∧ U y ∧ (c = 0 ∨ c = 1) then some (.many [.val (iv .u64 ((x - y - c) % 18446744073709551616)), .val (iv .u64 (bor x y c))]) else none
    | _ => none
  | 113 => match ds with
    | [.v (.int .u64 x), .v (.int .u64 y)] => if U x ∧ U y then some (.many [.val (iv .u64 (hiW x y)), .val (iv .u64 (loW x y))]) else none
    | _ => none
  | _ => none
theorem orcU_ok : Known Tryz.prog orcU := by
  intro f ds r h
  unfold orcU at h
  split at h
  · split at h
    · split at h
      · rename_i hc
        cases h
        exact .inr (add64_ext hc.1 hc.2.1 hc.2.2)
      · cases h
    · cases h
  · split at h
    · split at h
      · rename_i hc
        cases h
        exact .inr (sub64_ext hc.1 hc.2.1 hc.2.2)
      · cases h
    · cases h
  · split at h
    · split at h
      · rename_i hc
        cases h
        exact .inl ⟨⟨_, Tryz.func113, name_ne _ (by kernel_rfl), rfl⟩, mul64_call hc.1 hc.2⟩
      · cases h
    · cases h
  · cases h
def EU : Env := ⟨tyL, orcU, false, noWk, noOrw⟩
theorem EU_ok : EnvOk Tryz.prog EU := ⟨tyL_ok, orcU_ok, noOrw_ok⟩
theorem oAdd {x y c : Int} (hx : U x) (hy : U y) (hc : c = 0 ∨ c = 1) : ∃ s d : Int, EU.orc 114 [iv .u64 x, iv .u64 y, iv .u64 c] = some (.many [.val (iv .u64 s), .val (iv .u64 d)]) ∧ U s ∧ (d = 0 ∨ d = 1) ∧ s + 18446744073709551616 * d = x + y + c := by
  refine ⟨_, _, if_pos ⟨hx, hy, hc⟩, ?_, ?_, ?_⟩ <;> unfold U at * <;> omega
theorem oSub {x y c : Int} (hx : U x) (hy : U y) (hc : c = 0 ∨ c = 1) : ∃ s d : Int, EU.orc 119 [iv .u64 x, iv .u64 y, iv .u64 c] = some (.many [.val (iv .u64 s), .val (iv .u64 d)]) ∧ U s ∧ (d = 0 ∨ d = 1) ∧ s = x - y - c + 18446744073709551616 * d := by
  refine ⟨_, _, if_pos ⟨hx, hy, hc⟩, ?_, ?_, ?_⟩ <;> unfold U at *
  · omega
  · unfold bor
    by_cases h : x < y + c
    · rw [if_pos h]; exact .inr rfl
    · rw [if_neg h]; exact .inl rfl
  · unfold bor
    by_cases h : x < y + c
    · rw [if_pos h]; omega
    · rw [if_neg h]; omega
theorem oMul {x y : Int} (hx : U x) (hy : U y) : ∃ h l : Int, EU.orc 113 [iv .u64 x, iv .u64 y] = some (.many [.val (iv .u64 h), .val (iv .u64 l)]) ∧ U h ∧ U l ∧ l + 18446744073709551616 * h = x * y ∧ h ≤ 18446744073709551614 := by
  refine ⟨_, _, if_pos ⟨hx, hy⟩, ?_⟩
  unfold U at *
  have h1 : 0 ≤ x * y := Int.mul_nonneg hx.1 hy.1
  have h2 : x * y ≤ 18446744073709551615 * 18446744073709551615 := Int.mul_le_mul (by omega) (by omega) hy.1 (by omega)
  unfold hiW loW
  generalize x * y = p at *
  omega
end Go.Proofs.YtdeigmjbcbjgeaaGreatDoor
/-
  Layer 8: sums, differences and products of numbers of four words.
-/
namespace Go.Proofs.YtdeigmjbcbjgeaaGreatDoor
open Go.RowKit

theorem isOU {f : Nat} {ds : List LV} {K : LRes → Prop} (h : ∃ y, EU.orc f ds = some y ∧ K y) : ∃ y, EU.orc f ds = some y ∧ K y := h
abbrev two (n : Nat) (c : Nat) : LRes := .many [.val (W n), .val (iv .u64 (c : Nat))]
set_option maxRecDepth 100000 in
set_option maxHeartbeats 1600000 in
theorem rplus_call (a b : Nat) (ha : a < 2 ^ 256) (hb : b < 2 ^ 256) : CallOk Tryz.prog 98 [W a, W b] (two (a + b) ((a + b) / 2 ^ 256)) := by
  obtain ⟨a0, a1, a2, a3, ea, ua0, ua1, ua2, ua3, qa⟩ := wd_split a ha
  obtain ⟨b0, b1, b2, b3, eb, ub0, ub1, ub2, ub3, qb⟩ := wd_split b hb
  obtain ⟨s0, c0, f0, us0, uc0, q0⟩ := oAdd ua0 ub0 (Or.inl rfl : (0 : Int) = 0 ∨ (0 : Int) = 1)
  obtain ⟨s1, c1, f1, us1, uc1, q1⟩ := oAdd ua1 ub1 uc0
  obtain ⟨s2, c2, f2, us2, uc2, q2⟩ := oAdd ua2 ub2 uc1
  obtain ⟨s3, c3, f3, us3, uc3, q3⟩ := oAdd ua3 ub3 uc2
  obtain ⟨er, ec⟩ := wd_of (n := a + b) (e := c3) us0 us1 us2 us3 (by omega)
  rw [two, W, W, W, ea, eb, er, ec]
  refine execF_ok follows_ok EU_ok Tryz.func98 ?_
  ((conv => whnf); repeat ((first | refine .inr ⟨5, ?_⟩ | ((with_reducible refine isOU ?_); first | refine ⟨_, f0, ?_⟩ | refine ⟨_, f1, ?_⟩ | refine ⟨_, f2, ?_⟩ | refine ⟨_, f3, ?_⟩) | refine ⟨_, rfl, ?_⟩ | refine ⟨by decide, ?_⟩ | refine ⟨rfl, ?_⟩ | refine ⟨fun _ => ?_, fun h => absurd h (by decide)⟩ | refine ⟨fun h => absurd h (by decide), fun _ => ?_⟩); conv => whnf))
  rfl
set_option maxRecDepth 100000 in
set_option maxHeartbeats 1600000 in
theorem rminus_call (a b : Nat) (ha : a < 2 ^ 256) (hb : b < 2 ^ 256) : CallOk Tryz.prog 99 [W a, W b] (two (a + 2 ^ 256 - b) (if a < b then 1 else 0)) := by
  obtain ⟨a0, a1, a2, a3, ea, ua0, ua1, ua2, ua3, qa⟩ := wd_split a ha
  obtain ⟨b0, b1, b2, b3, eb, ub0, ub1, ub2, ub3, qb⟩ := wd_split b hb
  obtain ⟨s0, c0, f0, us0, uc0, q0⟩ := oSub ua0 ub0 (Or.inl rfl : (0 : Int) = 0 ∨ (0 : Int) = 1)
  obtain ⟨s1, c1, f1, us1, uc1, q1⟩ := oSub ua1 ub1 uc0
  obtain ⟨s2, c2, f2, us2, uc2, q2⟩ := oSub ua2 ub2 uc1
  obtain ⟨s3, c3, f3, us3, uc3, q3⟩ := oSub ua3 ub3 uc2
  obtain ⟨er, ec⟩ := wd_of (n := a + 2 ^ 256 - b) (e := 1 - c3) us0 us1 us2 us3 (by omega)
  have hc : (((if a < b then 1 else 0 : Nat)) : Int) = c3 := by
    unfold U at *
    by_cases h : a < b
    · rw [if_pos h]; omega
    · rw [if_neg h]; omega
  rw [two, W, W, W, ea, eb, er, hc]
  refine execF_ok follows_ok EU_ok Tryz.func99 ?_
  ((conv => whnf); repeat ((first | refine .inr ⟨5, ?_⟩ | ((with_reducible refine isOU ?_); first | refine ⟨_, f0, ?_⟩ | refine ⟨_, f1, ?_⟩ | refine ⟨_, f2, ?_⟩ | refine ⟨_, f3, ?_⟩) | refine ⟨_, rfl, ?_⟩ | refine ⟨by decide, ?_⟩ | refine ⟨rfl, ?_⟩ | refine ⟨fun _ => ?_, fun h => absurd h (by decide)⟩ | refine ⟨fun h => absurd h (by decide), fun _ => ?_⟩); conv => whnf))
  rfl
set_option maxRecDepth 100000 in
set_option maxHeartbeats 1600000 in
theorem plus_call (a b : Nat) (ha : a < 2 ^ 256) (hb : b < 2 ^ 256) : CallOk Tryz.prog 100 [W a, W b] (two (a + b) ((a + b) / 2 ^ 256)) := by
  obtain ⟨a0, a1, a2, a3, ea, ua0, ua1, ua2, ua3, qa⟩ := wd_split a ha
  obtain ⟨b0, b1, b2, b3, eb, ub0, ub1, ub2, ub3, qb⟩ := wd_split b hb
  obtain ⟨s0, c0, f0, us0, uc0, q0⟩ := oAdd ua0 ub0 (Or.inl rfl : (0 : Int) = 0 ∨ (0 : Int) = 1)
  obtain ⟨s1, c1, f1, us1, uc1, q1⟩ := oAdd ua1 ub1 uc0
  obtain ⟨s2, c2, f2, us2, uc2, q2⟩ := oAdd ua2 ub2 uc1
  obtain ⟨s3, c3, f3, us3, uc3, q3⟩ := oAdd ua3 ub3 uc2
  obtain ⟨er, ec⟩ := wd_of (n := a + b) (e := c3) us0 us1 us2 us3 (by omega)
  rw [two, W, W, W, ea, eb, er, ec]
  refine execF_ok follows_ok EU_ok Tryz.func100 ?_
  ((conv => whnf); repeat ((first | refine .inr ⟨5, ?_⟩ | ((with_reducible refine isOU ?_); first | refine ⟨_, f0, ?_⟩ | refine ⟨_, f1, ?_⟩ | refine ⟨_, f2, ?_⟩ | refine ⟨_, f3, ?_⟩) | refine ⟨_, rfl, ?_⟩ | refine ⟨by decide, ?_⟩ | refine ⟨rfl, ?_⟩ | refine ⟨fun _ => ?_, fun h => absurd h (by decide)⟩ | refine ⟨fun h => absurd h (by decide), fun _ => ?_⟩); conv => whnf))
  rfl
set_option maxRecDepth 100000 in
set_option maxHeartbeats 1600000 in
theorem minus_call (a b : Nat) (ha : a < 2 ^ 256) (hb : b < 2 ^ 256) : CallOk Tryz.prog 120 [W a, W b] (two (a + 2 ^ 256 - b) (if a < b then 1 else 0)) := by
  obtain ⟨a0, a1, a2, a3, ea, ua0, ua1, ua2, ua3, qa⟩ := wd_split a ha
  obtain ⟨b0, b1, b2, b3, eb, ub0, ub1, ub2, ub3, qb⟩ := wd_split b hb
  obtain ⟨s0, c0, f0, us0, uc0, q0⟩ := oSub ua0 ub0 (Or.inl rfl : (0 : Int) = 0 ∨ (0 : Int) = 1)
  obtain ⟨s1, c1, f1, us1, uc1, q1⟩ := oSub ua1 ub1 uc0
  obtain ⟨s2, c2, f2, us2, uc2, q2⟩ := oSub ua2 ub2 uc1
  obtain ⟨s3, c3, f3, us3, uc3, q3⟩ := oSub ua3 ub3 uc2
  obtain ⟨er, ec⟩ := wd_of (n := a + 2 ^ 256 - b) (e := 1 - c3) us0 us1 us2 us3 (by omega)
  have hc : (((if a < b then 1 else 0 : Nat)) : Int) = c3 := by
    unfold U at *
    by_cases h : a < b
    · rw [if_pos h]; omega
    · rw [if_neg h]; omega
  rw [two, W, W, W, ea, eb, er, hc]
  refine execF_ok follows_ok EU_ok Tryz.func120 ?_
  ((conv => whnf); repeat ((first | refine .inr ⟨5, ?_⟩ | ((with_reducible refine isOU ?_); first | refine ⟨_, f0, ?_⟩ | refine ⟨_, f1, ?_⟩ | refine ⟨_, f2, ?_⟩ | refine ⟨_, f3, ?_⟩) | refine ⟨_, rfl, ?_⟩ | refine ⟨by decide, ?_⟩ | refine ⟨rfl, ?_⟩ | refine ⟨fun _ => ?_, fun h => absurd h (by decide)⟩ | refine ⟨fun h => absurd h (by decide), fun _ => ?_⟩); conv => whnf))
  rfl

/-- A product of words, with two words added. -/
def wpr (x y a b : Int) : Int := x * y + a + b
set_option maxRecDepth 100000 in
set_option maxHeartbeats 1600000 in
theorem word_call {x y a b : Int} (ux : U x) (uy : U y) (ua : U a) (ub : U b) : CallOk Tryz.prog 115 [iv .u64 x, iv .u64 y, iv .u64 a, iv .u64 b] (.many [.val (iv .u64 (wpr x y a b % 18446744073709551616)), .val (iv .u64 (wpr x y a b / 18446744073709551616))]) := by
  obtain ⟨h, l, f0, uh, ul, q0, h0⟩ := oMul ux uy
  obtain ⟨s, c, f1, us, uc, q1⟩ := oAdd ul ua (Or.inl rfl : (0 : Int) = 0 ∨ (0 : Int) = 1)
  obtain ⟨t, d, f2, ut, ud, q2⟩ := oAdd us ub (Or.inl rfl : (0 : Int) = 0 ∨ (0 : Int) = 1)
  have hp : x * y ≤ 18446744073709551615 * 18446744073709551615 := Int.mul_le_mul (by unfold U at ux; omega) (by unfold U at uy; omega) uy.1 (by omega)
  have e0 : wpr x y a b % 18446744073709551616 = t := by unfold U wpr at *; omega
  have e1 : wpr x y a b / 18446744073709551616 = IntKind.u64.wrap (IntKind.u64.wrap (h + c) + d) := by
    rw [IntKind.wrap_u64, IntKind.wrap_u64]; unfold U wpr at *; omega
  rw [e0, e1]
  refine execF_ok follows_ok EU_ok Tryz.func115 ?_
  ((conv => whnf); repeat ((first | ((with_reducible refine isOU ?_); first | refine ⟨_, f0, ?_⟩ | refine ⟨_, f1, ?_⟩ | refine ⟨_, f2, ?_⟩) | refine ⟨_, rfl, ?_⟩ | refine ⟨rfl, ?_⟩); conv => whnf))
  rfl
def orcV (f : Nat) (ds : List LV) : Option LRes :=
  match f with
  | 115 => match ds with
    | [.v (.int .u64 x), .v (.int .u64 y), .v (.int .u64 a), .v (.int .u64 b)] => if U x ∧ U y ∧ U a ∧ U b then some (.many [.val (iv .u64 (wpr x y a b % 18446744073709551616)), .val (iv .u64 (wpr x y a b / 18446744073709551616))]) else none
    | _ => none
  | _ => orcU f ds
theorem orcV_ok : Known Tryz.prog orcV := by
  intro f ds r h
  unfold orcV at h
  split at h
  · split at h
    · split at h
      · rename_i hc
        cases h
        exact .inl ⟨⟨_, Tryz.func115, name_ne _ (by kernel_rfl), rfl⟩, word_call hc.1 hc.2.1 hc.2.2.1 hc.2.2.2⟩
      · cases h
    · cases h
  · exact orcU_ok f ds r h
def EV : Env := ⟨tyL, orcV, false, noWk, noOrw⟩
theorem EV_ok : EnvOk Tryz.prog EV := ⟨tyL_ok, orcV_ok, noOrw_ok⟩
theorem oWord {x y a b : Int} (ux : U x) (uy : U y) (ua : U a) (ub : U b) : ∃ l h : Int, EV.orc 115 [iv .u64 x, iv .u64 y, iv .u64 a, iv .u64 b] = some (.many [.val (iv .u64 l), .val (iv .u64 h)]) ∧ U l ∧ U h ∧ l + 18446744073709551616 * h = x * y + a + b := by
  refine ⟨_, _, if_pos ⟨ux, uy, ua, ub⟩, ?_⟩
  have hn : 0 ≤ x * y := Int.mul_nonneg ux.1 uy.1
  have hp : x * y ≤ 18446744073709551615 * 18446744073709551615 := Int.mul_le_mul (by unfold U at ux; omega) (by unfold U at uy; omega) uy.1 (by omega)
  unfold U wpr at *
  generalize x * y = p at *
  omega

theorem dg_hi (n i : Nat) : dg n (i + 4) = dg (n / 2 ^ 256) i := by
  have e : n / 18446744073709551616 ^ (i + 4) = n / 2 ^ 256 / 18446744073709551616 ^ i := by
    rw [Nat.div_div_eq_div_mul, Nat.pow_add, Nat.mul_comm]
  rw [dg, dg, e]
theorem wd8_two (n : Nat) : wd8 n = wd (n % 2 ^ 256) ++ wd (n / 2 ^ 256) := by
  rw [wd_mod]
  show [dg n 0, dg n 1, dg n 2, dg n 3, dg n (0 + 4), dg n (1 + 4), dg n (2 + 4), dg n (3 + 4)] = _
  rw [dg_hi, dg_hi, dg_hi, dg_hi]
  rfl
theorem wd8_of {n : Nat} {a b c d e f g h : Int} (ha : U a) (hb : U b) (hc : U c) (hd : U d) (he : U e) (hf : U f) (hg : U g) (hh : U h)
    (q : (n : Int) = a + 18446744073709551616 * b + 340282366920938463463374607431768211456 * c + 6277101735386680763835789423207666416102355444464034512896 * d + 115792089237316195423570985008687907853269984665640564039457584007913129639936 * e + 2135987035920910082395021706169552114602704522356652769947041607822219725780640550022962086936576 * f + 39402006196394479212279040100143613805079739270465446667948293404245721771497210611414266254884915640806627990306816 * g + 726838724295606890549323807888004534353641360687318060281490199180639288113397923326191050713763565560762521606266177933534601628614656 * h) : wd8 n = [a, b, c, d, e, f, g, h] := by
  obtain ⟨L, hL⟩ : ∃ L : Int, L = a + 18446744073709551616 * b + 340282366920938463463374607431768211456 * c + 6277101735386680763835789423207666416102355444464034512896 * d := ⟨_, rfl⟩
  obtain ⟨H, hH⟩ : ∃ H : Int, H = e + 18446744073709551616 * f + 340282366920938463463374607431768211456 * g + 6277101735386680763835789423207666416102355444464034512896 * h := ⟨_, rfl⟩
  have hL1 : 0 ≤ L ∧ L < 115792089237316195423570985008687907853269984665640564039457584007913129639936 := by unfold U at *; omega
  have hH1 : 0 ≤ H := by unfold U at *; omega
  have hq : (n : Int) = L + 115792089237316195423570985008687907853269984665640564039457584007913129639936 * H := by omega
  clear q
  have e1 : ((n % 2 ^ 256 : Nat) : Int) = L := by clear hL hH; omega
  have e2 : ((n / 2 ^ 256 : Nat) : Int) = H := by clear hL hH; omega
  rw [wd8_two, (wd_of (e := 0) ha hb hc hd (by rw [e1, hL]; omega)).1, (wd_of (e := 0) he hf hg hh (by rw [e2, hH]; omega)).1]
  rfl
theorem vl_append4 (a b c d : Int) (l : List Int) : vl ([a, b, c, d] ++ l) = vl [a, b, c, d] + 2 ^ 256 * vl l := by
  simp only [List.cons_append, List.nil_append, vl]
  omega
theorem wd8_vl (n : Nat) (h : n < 2 ^ 512) : vl (wd8 n) = n := by
  rw [wd8_two]
  show vl ([dg (n % 2 ^ 256) 0, dg (n % 2 ^ 256) 1, dg (n % 2 ^ 256) 2, dg (n % 2 ^ 256) 3] ++ wd (n / 2 ^ 256)) = n
  rw [vl_append4]
  change vl (wd (n % 2 ^ 256)) + 2 ^ 256 * vl (wd (n / 2 ^ 256)) = n
  rw [wd_vl _ (Nat.mod_lt _ (by decide)), wd_vl _ (by omega)]
  omega
theorem isW8_wd {n : Nat} (h : n < 2 ^ 512) : isW8 (wd8 n) = true := by rw [isW8, wd8_vl n h]; simp
theorem vl_wd8_lt (n : Nat) : vl (wd8 n) < 2 ^ 512 := by
  rw [wd8_two]
  show vl ([dg (n % 2 ^ 256) 0, dg (n % 2 ^ 256) 1, dg (n % 2 ^ 256) 2, dg (n % 2 ^ 256) 3] ++ wd (n / 2 ^ 256)) < _
  rw [vl_append4]
  have h1 := vl_wd_lt (n % 2 ^ 256)
  have h2 := vl_wd_lt (n / 2 ^ 256)
  change vl (wd (n % 2 ^ 256)) + 2 ^ 256 * vl (wd (n / 2 ^ 256)) < _
  omega
theorem vl8_lt {l : List Int} (h : isW8 l = true) : vl l < 2 ^ 512 := by
  have e := vl_wd8_lt (vl l)
  rwa [← isW8_eq h] at e
/-- One step of the answer's product: three calls. -/
theorem oStep {x y p q : Int} (ux : U x) (uy : U y) (up : U p) (uq : U q) : ∃ h l s c t d : Int, EU.orc 113 [iv .u64 x, iv .u64 y] = some (.many [.val (iv .u64 h), .val (iv .u64 l)]) ∧
    EU.orc 114 [iv .u64 l, iv .u64 p, iv .u64 0] = some (.many [.val (iv .u64 s), .val (iv .u64 c)]) ∧ EU.orc 114 [iv .u64 s, iv .u64 q, iv .u64 0] = some (.many [.val (iv .u64 t), .val (iv .u64 d)]) ∧
    U t ∧ U (IntKind.u64.wrap (IntKind.u64.wrap (h + c) + d)) ∧ t + 18446744073709551616 * IntKind.u64.wrap (IntKind.u64.wrap (h + c) + d) = x * y + p + q := by
  obtain ⟨h, l, f0, uh, ul, q0, h0⟩ := oMul ux uy
  obtain ⟨s, c, f1, us, uc, q1⟩ := oAdd ul up (Or.inl rfl : (0 : Int) = 0 ∨ (0 : Int) = 1)
  obtain ⟨t, d, f2, ut, ud, q2⟩ := oAdd us uq (Or.inl rfl : (0 : Int) = 0 ∨ (0 : Int) = 1)
  have hp : x * y ≤ 18446744073709551615 * 18446744073709551615 := Int.mul_le_mul (by unfold U at ux; omega) (by unfold U at uy; omega) uy.1 (by omega)
  refine ⟨h, l, s, c, t, d, f0, f1, f2, ut, ?_, ?_⟩
  · rw [IntKind.wrap_u64]; unfold U; omega
  · rw [IntKind.wrap_u64, IntKind.wrap_u64]; unfold U at *; omega
end Go.Proofs.YtdeigmjbcbjgeaaGreatDoor
