/-
  Layer 8: numbers of four and of eight words; the three operations on words.
-/
import Derived.Lib.Mul64
import Derived.Laws.Bits64b
import Derived.Shelf.Spec.BitsCarry
import Derived.Test.YtdeigmjbcbjgeaaDoorQLst
import Derived.Test.YtdeigmjbcbjgeaaDoorQTypes
namespace Go.Proofs.YtdeigmjbcbjgeaaDoor
open Go.RowKit

/-- A word. -/
def U (x : Int) : Prop := 0 ≤ x ∧ x < 18446744073709551616
instance (x : Int) : Decidable (U x) := inferInstanceAs (Decidable (_ ∧ _))
theorem U_zero : U 0 := ⟨by decide, by decide⟩
/-- Word i of a number. -/
def dg (n i : Nat) : Int := ((n / 18446744073709551616 ^ i % 18446744073709551616 : Nat) : Int)
theorem dg_U (n i : Nat) : U (dg n i) := by unfold dg U; omega
def wd (n : Nat) : List Int := [dg n 0, dg n 1, dg n 2, dg n 3]
def wd8 (n : Nat) : List Int := [dg n 0, dg n 1, dg n 2, dg n 3, dg n 4, dg n 5, dg n 6, dg n 7]
abbrev W (n : Nat) : LV := .agg (.flat .u64 (wd n))
abbrev W8 (n : Nat) : LV := .agg (.flat .u64 (wd8 n))
/-- The number of words. -/
def vl : List Int → Nat
  | [] => 0
  | x :: l => x.toNat + 18446744073709551616 * vl l
def isW (l : List Int) : Bool := l == wd (vl l)
def isW8 (l : List Int) : Bool := l == wd8 (vl l)
theorem isW_eq {l : List Int} (h : isW l = true) : l = wd (vl l) := by simpa [isW] using h
theorem isW8_eq {l : List Int} (h : isW8 l = true) : l = wd8 (vl l) := by simpa [isW8] using h
theorem dg_lit (n : Nat) : dg n 0 = ((n % 18446744073709551616 : Nat) : Int) ∧ dg n 1 = ((n / 18446744073709551616 % 18446744073709551616 : Nat) : Int) ∧
    dg n 2 = ((n / 340282366920938463463374607431768211456 % 18446744073709551616 : Nat) : Int) ∧ dg n 3 = ((n / 6277101735386680763835789423207666416102355444464034512896 % 18446744073709551616 : Nat) : Int) := by
  refine ⟨?_, ?_, ?_, ?_⟩ <;> simp [dg]
theorem wd_vl (n : Nat) (h : n < 2 ^ 256) : vl (wd n) = n := by
  obtain ⟨h0, h1, h2, h3⟩ := dg_lit n
  simp only [wd, vl, h0, h1, h2, h3]
  omega
theorem vl_wd_lt (n : Nat) : vl (wd n) < 2 ^ 256 := by
  obtain ⟨h0, h1, h2, h3⟩ := dg_lit n
  simp only [wd, vl, h0, h1, h2, h3]
  omega
theorem vl_lt {l : List Int} (h : isW l = true) : vl l < 2 ^ 256 := by
  have e := vl_wd_lt (vl l)
  rwa [← isW_eq h] at e
theorem isW_wd {n : Nat} (h : n < 2 ^ 256) : isW (wd n) = true := by rw [isW, wd_vl n h]; simp
theorem wd_split (n : Nat) (h : n < 2 ^ 256) : ∃ a b c d : Int, wd n = [a, b, c, d] ∧ U a ∧ U b ∧ U c ∧ U d ∧
    (n : Int) = a + 18446744073709551616 * b + 340282366920938463463374607431768211456 * c + 6277101735386680763835789423207666416102355444464034512896 * d := by
  obtain ⟨h0, h1, h2, h3⟩ := dg_lit n
  refine ⟨_, _, _, _, rfl, dg_U _ _, dg_U _ _, dg_U _ _, dg_U _ _, ?_⟩
  rw [h0, h1, h2, h3]
  omega
theorem wd_of {n : Nat} {a b c d e : Int} (ha : U a) (hb : U b) (hc : U c) (hd : U d)
    (h : (n : Int) = a + 18446744073709551616 * b + 340282366920938463463374607431768211456 * c + 6277101735386680763835789423207666416102355444464034512896 * d + 115792089237316195423570985008687907853269984665640564039457584007913129639936 * e) :
    wd n = [a, b, c, d] ∧ ((n / 2 ^ 256 : Nat) : Int) = e := by
  obtain ⟨h0, h1, h2, h3⟩ := dg_lit n
  unfold U at *
  refine ⟨?_, by omega⟩
  rw [wd, h0, h1, h2, h3]
  have e0 : ((n % 18446744073709551616 : Nat) : Int) = a := by omega
  have e1 : ((n / 18446744073709551616 % 18446744073709551616 : Nat) : Int) = b := by omega
  have e2 : ((n / 340282366920938463463374607431768211456 % 18446744073709551616 : Nat) : Int) = c := by omega
  have e3 : ((n / 6277101735386680763835789423207666416102355444464034512896 % 18446744073709551616 : Nat) : Int) = d := by omega
  rw [e0, e1, e2, e3]
theorem wd_mod (n : Nat) : wd (n % 2 ^ 256) = wd n := by
  obtain ⟨h0, h1, h2, h3⟩ := dg_lit n
  obtain ⟨g0, g1, g2, g3⟩ := dg_lit (n % 2 ^ 256)
  rw [wd, wd, h0, h1, h2, h3, g0, g1, g2, g3]
  have e0 : n % 2 ^ 256 % 18446744073709551616 = n % 18446744073709551616 := by omega
  have e1 : n % 2 ^ 256 / 18446744073709551616 % 18446744073709551616 = n / 18446744073709551616 % 18446744073709551616 := by omega
  have e2 : n % 2 ^ 256 / 340282366920938463463374607431768211456 % 18446744073709551616 = n / 340282366920938463463374607431768211456 % 18446744073709551616 := by omega
  have e3 : n % 2 ^ 256 / 6277101735386680763835789423207666416102355444464034512896 % 18446744073709551616 = n / 6277101735386680763835789423207666416102355444464034512896 % 18446744073709551616 := by omega
  rw [e0, e1, e2, e3]
theorem wd_inj {a b : Nat} (ha : a < 2 ^ 256) (hb : b < 2 ^ 256) (h : wd a = wd b) : a = b := by rw [← wd_vl a ha, h, wd_vl b hb]

/-! sums and differences of words -/
theorem add64_ext {x y c : Int} (hx : U x) (hy : U y) (hc : c = 0 ∨ c = 1) : Ext Tryd.prog 71 [iv .u64 x, iv .u64 y, iv .u64 c] (.many [.val (iv .u64 ((x + y + c) % 18446744073709551616)), .val (iv .u64 ((x + y + c) / 18446744073709551616))]) := by
  unfold U at hx hy
  refine ⟨[.int .u64 x, .int .u64 y, .int .u64 c], [.int .u64 ((x + y + c) % 18446744073709551616), .int .u64 ((x + y + c) / 18446744073709551616)], rfl, rfl, by simp [plain], fun w => ?_⟩
  rw [run_callFunc_extern Tryd.func71 (by kernel_rfl) (by kernel_rfl) (by kernel_rfl) (e := add64Entry) (by kernel_rfl)]
  rw [run_add64 x y c (by omega) (by omega) (by omega) (by omega)]
  rfl
def bor (x y c : Int) : Int := if x < y + c then 1 else 0
theorem sub64_ext {x y c : Int} (hx : U x) (hy : U y) (hc : c = 0 ∨ c = 1) : Ext Tryd.prog 82 [iv .u64 x, iv .u64 y, iv .u64 c] (.many [.val (iv .u64 ((x - y - c) % 18446744073709551616)), .val (iv .u64 (bor x y c))]) := by
  unfold U at hx hy
  refine ⟨[.int .u64 x, .int .u64 y, .int .u64 c], [.int .u64 ((x - y - c) % 18446744073709551616), .int .u64 (bor x y c)], rfl, rfl, by simp [plain], fun w => ?_⟩
  rw [run_callFunc_extern Tryd.func82 (by kernel_rfl) (by kernel_rfl) (by kernel_rfl) (e := sub64Entry) (by kernel_rfl)]
  obtain ⟨X, rfl⟩ := Int.eq_ofNat_of_zero_le hx.1
  obtain ⟨Y, rfl⟩ := Int.eq_ofNat_of_zero_le hy.1
  obtain ⟨C, rfl⟩ := Int.eq_ofNat_of_zero_le (a := c) (by omega)
  have e := run_sub64 (P := Tryd.prog) X Y C (by omega) w
  have h1 : (((X + 18446744073709551616 - Y - C) % 18446744073709551616 : Nat) : Int) = ((X : Int) - (Y : Int) - (C : Int)) % 18446744073709551616 := by omega
  have h2 : (((if X < Y + C then 1 else 0 : Nat)) : Int) = bor X Y C := by
    unfold bor
    by_cases h : X < Y + C
    · rw [if_pos h, if_pos (by omega)]; rfl
    · rw [if_neg h, if_neg (by omega)]; rfl
  rw [h1, h2] at e
  rw [e]
  rfl

/-! products of words -/
def hiW (x y : Int) : Int := x * y / 18446744073709551616
def loW (x y : Int) : Int := x * y % 18446744073709551616
theorem maskN (a : Nat) (ha : a < 18446744073709551616) : bits .and .u64 (a : Int) 4294967295 = ((a % 4294967296 : Nat) : Int) := by
  have h := bits_and_u64_nat a 4294967295 ha (by omega)
  rw [show a &&& 4294967295 = a % 4294967296 from Nat.and_two_pow_sub_one_eq_mod a 32] at h
  exact h
theorem fdivN (a : Nat) (e : Nat) (he : e = 32) : (a : Int).fdiv (2 ^ (min e IntKind.u64.bits)) = ((a / 4294967296 : Nat) : Int) := by
  subst he
  rw [show ((2 : Int) ^ (min 32 IntKind.u64.bits)) = ((4294967296 : Nat) : Int) from rfl, Int.fdiv_eq_ediv_of_nonneg _ (by omega)]
  exact (Int.natCast_ediv a 4294967296).symm
theorem mulN (a b : Nat) : (a : Int) * (b : Int) = ((a * b : Nat) : Int) := (Int.natCast_mul a b).symm
theorem addN (a b : Nat) : (a : Int) + (b : Int) = ((a + b : Nat) : Int) := (Int.natCast_add a b).symm
theorem wrapN (a : Nat) (ha : a < 18446744073709551616) : IntKind.u64.wrap (a : Int) = (a : Int) := by rw [IntKind.wrap_u64]; omega
def E0 : Env := ⟨tyL, fun _ _ => none, false, noWk, noOrw⟩
theorem E0_ok : EnvOk Tryd.prog E0 := ⟨tyL_ok, (by intro f ds r h; cases h), noOrw_ok⟩
set_option maxRecDepth 100000 in
set_option maxHeartbeats 1600000 in
theorem mul64_exec (x y : Nat) (hx : x < 18446744073709551616) (hy : y < 18446744073709551616) : execF E0 Tryd.f73 [iv .u64 x, iv .u64 y] (.many [.val (iv .u64 (hiW x y)), .val (iv .u64 (loW x y))]) := by
  obtain ⟨bd, bt, bw, hhi⟩ := Lib.mul64_hi x y hx hy
  have ba := Lib.half_mul_le (a := x / 4294967296) (b := y / 4294967296) (by omega) (by omega)
  have bb := Lib.half_mul_le (a := x / 4294967296) (b := y % 4294967296) (by omega) (by omega)
  have bc := Lib.half_mul_le (a := x % 4294967296) (b := y / 4294967296) (by omega) (by omega)
  have bh1 : x / 4294967296 * (y / 4294967296) + (x / 4294967296 * (y % 4294967296) + x % 4294967296 * (y % 4294967296) / 4294967296) / 4294967296 < 18446744073709551616 := by omega
  have bh : x / 4294967296 * (y / 4294967296) + (x / 4294967296 * (y % 4294967296) + x % 4294967296 * (y % 4294967296) / 4294967296) / 4294967296 + ((x / 4294967296 * (y % 4294967296) + x % 4294967296 * (y % 4294967296) / 4294967296) % 4294967296 + x % 4294967296 * (y / 4294967296)) / 4294967296 < 18446744073709551616 := by omega
  have e1 : hiW x y = IntKind.u64.wrap (IntKind.u64.wrap (IntKind.u64.wrap ((x : Int).fdiv (2 ^ (min (32 : Int).toNat IntKind.u64.bits)) * (y : Int).fdiv (2 ^ (min (32 : Int).toNat IntKind.u64.bits))) +
      (IntKind.u64.wrap (IntKind.u64.wrap ((x : Int).fdiv (2 ^ (min (32 : Int).toNat IntKind.u64.bits)) * bits .and .u64 y 4294967295) + (IntKind.u64.wrap (bits .and .u64 x 4294967295 * bits .and .u64 y 4294967295)).fdiv (2 ^ (min (32 : Int).toNat IntKind.u64.bits)))).fdiv (2 ^ (min (32 : Int).toNat IntKind.u64.bits))) +
      (IntKind.u64.wrap (bits .and .u64 (IntKind.u64.wrap (IntKind.u64.wrap ((x : Int).fdiv (2 ^ (min (32 : Int).toNat IntKind.u64.bits)) * bits .and .u64 y 4294967295) + (IntKind.u64.wrap (bits .and .u64 x 4294967295 * bits .and .u64 y 4294967295)).fdiv (2 ^ (min (32 : Int).toNat IntKind.u64.bits)))) 4294967295 +
        IntKind.u64.wrap (bits .and .u64 x 4294967295 * (y : Int).fdiv (2 ^ (min (32 : Int).toNat IntKind.u64.bits))))).fdiv (2 ^ (min (32 : Int).toNat IntKind.u64.bits))) := by
    have t32 : (32 : Int).toNat = 32 := rfl
    simp only [maskN x hx, maskN y hy, fdivN _ _ t32, mulN, addN, wrapN _ bd, wrapN _ (show x / 4294967296 * (y % 4294967296) < 18446744073709551616 by omega), wrapN _ bt, maskN _ bt,
      wrapN _ (show x % 4294967296 * (y / 4294967296) < 18446744073709551616 by omega), wrapN _ bw, wrapN _ (show x / 4294967296 * (y / 4294967296) < 18446744073709551616 by omega), wrapN _ bh1, wrapN _ bh]
    rw [hhi, hiW, mulN]
    omega
  have e2 : loW x y = IntKind.u64.wrap ((x : Int) * y) := by rw [loW, IntKind.wrap_u64]
  rw [e1, e2]
  ((conv => whnf); repeat ((first | refine ⟨_, rfl, ?_⟩ | refine ⟨by decide, ?_⟩ | refine ⟨rfl, ?_⟩); conv => whnf))
  rfl
theorem mul64_call {x y : Int} (hx : U x) (hy : U y) : CallOk Tryd.prog 73 [iv .u64 x, iv .u64 y] (.many [.val (iv .u64 (hiW x y)), .val (iv .u64 (loW x y))]) := by
  obtain ⟨X, rfl⟩ := Int.eq_ofNat_of_zero_le hx.1
  obtain ⟨Y, rfl⟩ := Int.eq_ofNat_of_zero_le hy.1
  unfold U at hx hy
  exact execF_ok follows_ok E0_ok Tryd.func73 (mul64_exec X Y (by omega) (by omega))
def orcU (f : Nat) (ds : List LV) : Option LRes :=
  match f with
  | 71 => match ds with
    | [.v (.int .u64 x), .v (.int .u64 y), .v (.int .u64 c)] => if U x ∧ U y ∧ (c = 0 ∨ c = 1) then some (.many [.val (iv .u64 ((x + y + c) % 18446744073709551616)), .val (iv .u64 ((x + y + c) / 18446744073709551616))]) else none
    | _ => none
  | 82 => match ds with
    | [.v (.int .u64 x), .v (.int .u64 y), .v (.int .u64 c)] => if U x ∧ U y ∧ (c = 0 ∨ c = 1) then some (.many [.val (iv .u64 ((x - y - c) % 18446744073709551616)), .val (iv .u64 (bor x y c))]) else none
    | _ => none
  | 73 => match ds with
    | [.v (.int .u64 x), .v (.int .u64 y)] => if U x ∧ U y then some (.many [.val (iv .u64 (hiW x y)), .val (iv .u64 (loW x y))]) else none
    | _ => none
  | _ => none
theorem orcU_ok : Known Tryd.prog orcU := by
  intro f ds r h
  unfold orcU at h
  split at h
  · split at h
    · split at h
      · rename_i hc
        cases h
        exact .inr (add64_ext hc.1 hc.2.1 hc.2.2)
      · cases h
    · cases h
  · split at h
    · split at h
      · rename_i hc
        cases h
        exact .inr (sub64_ext hc.1 hc.2.1 hc.2.2)
      · cases h
    · cases h
  · split at h
    · split at h
      · rename_i hc
        cases h
        exact .inl ⟨⟨_, Tryd.func73, name_ne _ (by kernel_rfl), rfl⟩, mul64_call hc.1 hc.2⟩
      · cases h
    · cases h
  · cases h
def EU : Env := ⟨tyL, orcU, false, noWk, noOrw⟩
theorem EU_ok : EnvOk Tryd.prog EU := ⟨tyL_ok, orcU_ok, noOrw_ok⟩
theorem oAdd {x y c : Int} (hx : U x) (hy : U y) (hc : c = 0 ∨ c = 1) : ∃ s d : Int, EU.orc 71 [iv .u64 x, iv .u64 y, iv .u64 c] = some (.many [.val (iv .u64 s), .val (iv .u64 d)]) ∧ U s ∧ (d = 0 ∨ d = 1) ∧ s + 18446744073709551616 * d = x + y + c := by
  refine ⟨_, _, if_pos ⟨hx, hy, hc⟩, ?_, ?_, ?_⟩ <;> unfold U at * <;> omega
theorem oSub {x y c : Int} (hx : U x) (hy : U y) (hc : c = 0 ∨ c = 1) : ∃ s d : Int, EU.orc 82 [iv .u64 x, iv .u64 y, iv .u64 c] = some (.many [.val (iv .u64 s), .val (iv .u64 d)]) ∧ U s ∧ (d = 0 ∨ d = 1) ∧ s = x - y - c + 18446744073709551616 * d := by
  refine ⟨_, _, if_pos ⟨hx, hy, hc⟩, ?_, ?_, ?_⟩ <;> unfold U at *
  · omega
  · unfold bor
    by_cases h : x < y + c
    · rw [if_pos h]; exact .inr rfl
    · rw [if_neg h]; exact .inl rfl
  · unfold bor
    by_cases h : x < y + c
    · rw [if_pos h]; omega
    · rw [if_neg h]; omega
theorem oMul {x y : Int} (hx : U x) (hy : U y) : ∃ h l : Int, EU.orc 73 [iv .u64 x, iv .u64 y] = some (.many [.val (iv .u64 h), .val (iv .u64 l)]) ∧ U h ∧ U l ∧ l + 18446744073709551616 * h = x * y ∧ h ≤ 18446744073709551614 := by
  refine ⟨_, _, if_pos ⟨hx, hy⟩, ?_⟩
  unfold U at *
  have h1 : 0 ≤ x * y := Int.mul_nonneg hx.1 hy.1
  have h2 : x * y ≤ 18446744073709551615 * 18446744073709551615 := Int.mul_le_mul (by omega) (by omega) hy.1 (by omega)
  unfold hiW loW
  generalize x * y = p at *
  omega
end Go.Proofs.YtdeigmjbcbjgeaaDoor
/-
  Layer 8: sums, differences and products of numbers of four words.
-/
namespace Go.Proofs.YtdeigmjbcbjgeaaDoor
open Go.RowKit

theorem isOU {f : Nat} {ds : List LV} {K : LRes → Prop} (h : ∃ y, EU.orc f ds = some y ∧ K y) : ∃ y, EU.orc f ds = some y ∧ K y := h
abbrev two (n : Nat) (c : Nat) : LRes := .many [.val (W n), .val (iv .u64 (c : Nat))]
set_option maxRecDepth 100000 in
set_option maxHeartbeats 1600000 in
theorem plus_call (a b : Nat) (ha : a < 2 ^ 256) (hb : b < 2 ^ 256) : CallOk Tryd.prog 51 [W a, W b] (two (a + b) ((a + b) / 2 ^ 256)) := by
  obtain ⟨a0, a1, a2, a3, ea, ua0, ua1, ua2, ua3, qa⟩ := wd_split a ha
  obtain ⟨b0, b1, b2, b3, eb, ub0, ub1, ub2, ub3, qb⟩ := wd_split b hb
  obtain ⟨s0, c0, f0, us0, uc0, q0⟩ := oAdd ua0 ub0 (Or.inl rfl : (0 : Int) = 0 ∨ (0 : Int) = 1)
  obtain ⟨s1, c1, f1, us1, uc1, q1⟩ := oAdd ua1 ub1 uc0
  obtain ⟨s2, c2, f2, us2, uc2, q2⟩ := oAdd ua2 ub2 uc1
  obtain ⟨s3, c3, f3, us3, uc3, q3⟩ := oAdd ua3 ub3 uc2
  obtain ⟨er, ec⟩ := wd_of (n := a + b) (e := c3) us0 us1 us2 us3 (by omega)
  rw [two, W, W, W, ea, eb, er, ec]
  refine execF_ok follows_ok EU_ok Tryd.func51 ?_
  ((conv => whnf); repeat ((first | refine .inr ⟨5, ?_⟩ | ((with_reducible refine isOU ?_); first | refine ⟨_, f0, ?_⟩ | refine ⟨_, f1, ?_⟩ | refine ⟨_, f2, ?_⟩ | refine ⟨_, f3, ?_⟩) | refine ⟨_, rfl, ?_⟩ | refine ⟨by decide, ?_⟩ | refine ⟨rfl, ?_⟩ | refine ⟨fun _ => ?_, fun h => absurd h (by decide)⟩ | refine ⟨fun h => absurd h (by decide), fun _ => ?_⟩); conv => whnf))
  rfl
set_option maxRecDepth 100000 in
set_option maxHeartbeats 1600000 in
theorem minus_call (a b : Nat) (ha : a < 2 ^ 256) (hb : b < 2 ^ 256) : CallOk Tryd.prog 72 [W a, W b] (two (a + 2 ^ 256 - b) (if a < b then 1 else 0)) := by
  obtain ⟨a0, a1, a2, a3, ea, ua0, ua1, ua2, ua3, qa⟩ := wd_split a ha
  obtain ⟨b0, b1, b2, b3, eb, ub0, ub1, ub2, ub3, qb⟩ := wd_split b hb
  obtain ⟨s0, c0, f0, us0, uc0, q0⟩ := oSub ua0 ub0 (Or.inl rfl : (0 : Int) = 0 ∨ (0 : Int) = 1)
  obtain ⟨s1, c1, f1, us1, uc1, q1⟩ := oSub ua1 ub1 uc0
  obtain ⟨s2, c2, f2, us2, uc2, q2⟩ := oSub ua2 ub2 uc1
  obtain ⟨s3, c3, f3, us3, uc3, q3⟩ := oSub ua3 ub3 uc2
  obtain ⟨er, ec⟩ := wd_of (n := a + 2 ^ 256 - b) (e := 1 - c3) us0 us1 us2 us3 (by omega)
  have hc : (((if a < b then 1 else 0 : Nat)) : Int) = c3 := by
    unfold U at *
    by_cases h : a < b
    · rw [if_pos h]; omega
    · rw [if_neg h]; omega
  rw [two, W, W, W, ea, eb, er, hc]
  refine execF_ok follows_ok EU_ok Tryd.func72 ?_
  ((conv => whnf); repeat ((first | refine .inr ⟨5, ?_⟩ | ((with_reducible refine isOU ?_); first | refine ⟨_, f0, ?_⟩ | refine ⟨_, f1, ?_⟩ | refine ⟨_, f2, ?_⟩ | refine ⟨_, f3, ?_⟩) | refine ⟨_, rfl, ?_⟩ | refine ⟨by decide, ?_⟩ | refine ⟨rfl, ?_⟩ | refine ⟨fun _ => ?_, fun h => absurd h (by decide)⟩ | refine ⟨fun h => absurd h (by decide), fun _ => ?_⟩); conv => whnf))
  rfl

/-- A product of words, with two words added. -/
def wpr (x y a b : Int) : Int := x * y + a + b
set_option maxRecDepth 100000 in
set_option maxHeartbeats 1600000 in
theorem word_call {x y a b : Int} (ux : U x) (uy : U y) (ua : U a) (ub : U b) : CallOk Tryd.prog 54 [iv .u64 x, iv .u64 y, iv .u64 a, iv .u64 b] (.many [.val (iv .u64 (wpr x y a b % 18446744073709551616)), .val (iv .u64 (wpr x y a b / 18446744073709551616))]) := by
  obtain ⟨h, l, f0, uh, ul, q0, h0⟩ := oMul ux uy
  obtain ⟨s, c, f1, us, uc, q1⟩ := oAdd ul ua (Or.inl rfl : (0 : Int) = 0 ∨ (0 : Int) = 1)
  obtain ⟨t, d, f2, ut, ud, q2⟩ := oAdd us ub (Or.inl rfl : (0 : Int) = 0 ∨ (0 : Int) = 1)
  have hp : x * y ≤ 18446744073709551615 * 18446744073709551615 := Int.mul_le_mul (by unfold U at ux; omega) (by unfold U at uy; omega) uy.1 (by omega)
  have e0 : wpr x y a b % 18446744073709551616 = t := by unfold U wpr at *; omega
  have e1 : wpr x y a b / 18446744073709551616 = IntKind.u64.wrap (IntKind.u64.wrap (h + c) + d) := by
    rw [IntKind.wrap_u64, IntKind.wrap_u64]; unfold U wpr at *; omega
  rw [e0, e1]
  refine execF_ok follows_ok EU_ok Tryd.func54 ?_
  ((conv => whnf); repeat ((first | ((with_reducible refine isOU ?_); first | refine ⟨_, f0, ?_⟩ | refine ⟨_, f1, ?_⟩ | refine ⟨_, f2, ?_⟩) | refine ⟨_, rfl, ?_⟩ | refine ⟨rfl, ?_⟩); conv => whnf))
  rfl
def orcV (f : Nat) (ds : List LV) : Option LRes :=
  match f with
  | 54 => match ds with
    | [.v (.int .u64 x), .v (.int .u64 y), .v (.int .u64 a), .v (.int .u64 b)] => if U x ∧ U y ∧ U a ∧ U b then some (.many [.val (iv .u64 (wpr x y a b % 18446744073709551616)), .val (iv .u64 (wpr x y a b / 18446744073709551616))]) else none
    | _ => none
  | _ => orcU f ds
theorem orcV_ok : Known Tryd.prog orcV := by
  intro f ds r h
  unfold orcV at h
  split at h
  · split at h
    · split at h
      · rename_i hc
        cases h
        exact .inl ⟨⟨_, Tryd.func54, name_ne _ (by kernel_rfl), rfl⟩, word_call hc.1 hc.2.1 hc.2.2.1 hc.2.2.2⟩
      · cases h
    · cases h
  · exact orcU_ok f ds r h
def EV : Env := ⟨tyL, orcV, false, noWk, noOrw⟩
theorem EV_ok : EnvOk Tryd.prog EV := ⟨tyL_ok, orcV_ok, noOrw_ok⟩
theorem oWord {x y a b : Int} (ux : U x) (uy : U y) (ua : U a) (ub : U b) : ∃ l h : Int, EV.orc 54 [iv .u64 x, iv .u64 y, iv .u64 a, iv .u64 b] = some (.many [.val (iv .u64 l), .val (iv .u64 h)]) ∧ U l ∧ U h ∧ l + 18446744073709551616 * h = x * y + a + b := by
  refine ⟨_, _, if_pos ⟨ux, uy, ua, ub⟩, ?_⟩
  have hn : 0 ≤ x * y := Int.mul_nonneg ux.1 uy.1
  have hp : x * y ≤ 18446744073709551615 * 18446744073709551615 := Int.mul_le_mul (by unfold U at ux; omega) (by unfold U at uy; omega) uy.1 (by omega)
  unfold U wpr at *
  generalize x * y = p at *
  omega

theorem dg_hi (n i : Nat) : dg n (i + 4) = dg (n / 2 ^ 256) i := by
  have e : n / 18446744073709551616 ^ (i + 4) = n / 2 ^ 256 / 18446744073709551616 ^ i := by
    rw [Nat.div_div_eq_div_mul, Nat.pow_add, Nat.mul_comm]
  rw [dg, dg, e]
theorem wd8_two (n : Nat) : wd8 n = wd (n % 2 ^ 256) ++ wd (n / 2 ^ 256) := by
  rw [wd_mod]
  show [dg n 0, dg n 1, dg n 2, dg n 3, dg n (0 + 4), dg n (1 + 4), dg n (2 + 4), dg n (3 + 4)] = _
  rw [dg_hi, dg_hi, dg_hi, dg_hi]
  rfl
theorem wd8_of {n : Nat} {a b c d e f g h : Int} (ha : U a) (hb : U b) (hc : U c) (hd : U d) (he : U e) (hf : U f) (hg : U g) (hh : U h)
    (q : (n : Int) = a + 18446744073709551616 * b + 340282366920938463463374607431768211456 * c + 6277101735386680763835789423207666416102355444464034512896 * d + 115792089237316195423570985008687907853269984665640564039457584007913129639936 * e + 2135987035920910082395021706169552114602704522356652769947041607822219725780640550022962086936576 * f + 39402006196394479212279040100143613805079739270465446667948293404245721771497210611414266254884915640806627990306816 * g + 726838724295606890549323807888004534353641360687318060281490199180639288113397923326191050713763565560762521606266177933534601628614656 * h) : wd8 n = [a, b, c, d, e, f, g, h] := by
  obtain ⟨L, hL⟩ : ∃ L : Int, L = a + 18446744073709551616 * b + 340282366920938463463374607431768211456 * c + 6277101735386680763835789423207666416102355444464034512896 * d := ⟨_, rfl⟩
  obtain ⟨H, hH⟩ : ∃ H : Int, H = e + 18446744073709551616 * f + 340282366920938463463374607431768211456 * g + 6277101735386680763835789423207666416102355444464034512896 * h := ⟨_, rfl⟩
  have hL1 : 0 ≤ L ∧ L < 115792089237316195423570985008687907853269984665640564039457584007913129639936 := by unfold U at *; omega
  have hH1 : 0 ≤ H := by unfold U at *; omega
  have hq : (n : Int) = L + 115792089237316195423570985008687907853269984665640564039457584007913129639936 * H := by omega
  clear q
  have e1 : ((n % 2 ^ 256 : Nat) : Int) = L := by clear hL hH; omega
  have e2 : ((n / 2 ^ 256 : Nat) : Int) = H := by clear hL hH; omega
  rw [wd8_two, (wd_of (e := 0) ha hb hc hd (by rw [e1, hL]; omega)).1, (wd_of (e := 0) he hf hg hh (by rw [e2, hH]; omega)).1]
  rfl
theorem vl_append4 (a b c d : Int) (l : List Int) : vl ([a, b, c, d] ++ l) = vl [a, b, c, d] + 2 ^ 256 * vl l := by
  simp only [List.cons_append, List.nil_append, vl]
  omega
theorem wd8_vl (n : Nat) (h : n < 2 ^ 512) : vl (wd8 n) = n := by
  rw [wd8_two]
  show vl ([dg (n % 2 ^ 256) 0, dg (n % 2 ^ 256) 1, dg (n % 2 ^ 256) 2, dg (n % 2 ^ 256) 3] ++ wd (n / 2 ^ 256)) = n
  rw [vl_append4]
  change vl (wd (n % 2 ^ 256)) + 2 ^ 256 * vl (wd (n / 2 ^ 256)) = n
  rw [wd_vl _ (Nat.mod_lt _ (by decide)), wd_vl _ (by omega)]
  omega
theorem isW8_wd {n : Nat} (h : n < 2 ^ 512) : isW8 (wd8 n) = true := by rw [isW8, wd8_vl n h]; simp
theorem vl_wd8_lt (n : Nat) : vl (wd8 n) < 2 ^ 512 := by
  rw [wd8_two]
  show vl ([dg (n % 2 ^ 256) 0, dg (n % 2 ^ 256) 1, dg (n % 2 ^ 256) 2, dg (n % 2 ^ 256) 3] ++ wd (n / 2 ^ 256)) < _
  rw [vl_append4]
  have h1 := vl_wd_lt (n % 2 ^ 256)
  have h2 := vl_wd_lt (n / 2 ^ 256)
  change vl (wd (n % 2 ^ 256)) + 2 ^ 256 * vl (wd (n / 2 ^ 256)) < _
  omega
theorem vl8_lt {l : List Int} (h : isW8 l = true) : vl l < 2 ^ 512 := by
  have e := vl_wd8_lt (vl l)
  rwa [← isW8_eq h] at e
end Go.Proofs.YtdeigmjbcbjgeaaDoor
/-
  Layer 8: products of numbers of four words.
-/
namespace Go.Proofs.YtdeigmjbcbjgeaaDoor
open Go.RowKit

/-! words as a number, over any base -/
def V (M : Int) : List Int → Int
  | [] => 0
  | x :: l => x + M * V M l
theorem V_set (M : Int) : ∀ (l : List Int) (k : Nat) (x : Int), k < l.length → V M (l.set k x) = V M l + (x - g l k) * M ^ k
  | [], k, x, h => by simp at h
  | y :: l, 0, x, _ => by
    simp only [List.set_cons_zero, V, Int.pow_zero, Int.mul_one]
    have : g (y :: l) 0 = y := rfl
    rw [this]; omega
  | y :: l, k + 1, x, h => by
    simp only [List.set_cons_succ, V]
    rw [V_set M l k x (by simpa using h)]
    have e : g (y :: l) (k + 1) = g l k := by simp [g]
    rw [e, Int.mul_add, Int.pow_succ, Int.mul_left_comm M, Int.mul_comm M (M ^ k)]
    omega
theorem V_take (M : Int) : ∀ (l : List Int) (i : Nat), i < l.length → V M (l.take (i + 1)) = V M (l.take i) + g l i * M ^ i
  | [], i, h => by simp at h
  | y :: l, 0, _ => by
    have : g (y :: l) 0 = y := rfl
    simp [V, this]
  | y :: l, i + 1, h => by
    have ih := V_take M l i (by simpa using h)
    have e : g (y :: l) (i + 1) = g l i := by simp [g]
    rw [List.take_succ_cons, List.take_succ_cons, V, V, ih, e, Int.mul_add, Int.pow_succ, Int.mul_left_comm M, Int.mul_comm M (M ^ i)]
    omega
def UL (l : List Int) : Prop := ∀ x ∈ l, U x
theorem UL.g {l : List Int} (h : UL l) (i : Nat) : U (g l i) := by
  unfold Proofs.YtdeigmjbcbjgeaaDoor.g
  by_cases hi : i < l.length
  · rw [List.getD_eq_getElem?_getD, List.getElem?_eq_getElem hi]
    exact h _ (List.getElem_mem hi)
  · rw [List.getD_eq_getElem?_getD, List.getElem?_eq_none (by omega)]
    exact U_zero
theorem UL.set {l : List Int} (h : UL l) {x : Int} (hx : U x) (k : Nat) : UL (l.set k x) := by
  intro y hy
  rcases List.mem_or_eq_of_mem_set hy with hy | rfl
  · exact h y hy
  · exact hx
theorem prod_step (M x y o c l h V0 P K : Int) (e : l + M * h = x * y + o + c) (hv : V0 + c * P = K) : V0 + (l - o) * P + h * (P * M) = K + x * y * P := by
  have e1 := congrArg (· * P) e
  simp only [Int.add_mul] at e1
  have e2 : h * (P * M) = M * h * P := by rw [Int.mul_comm M h, Int.mul_assoc, Int.mul_comm M P]
  rw [Int.sub_mul, e2]
  omega
abbrev Mw : Int := 18446744073709551616
theorem isOV {f : Nat} {ds : List LV} {K : LRes → Prop} (h : ∃ y, EV.orc f ds = some y ∧ K y) : ∃ y, EV.orc f ds = some y ∧ K y := h
theorem list4 {l : List Int} (h : l.length = 4) : ∃ a b c d, l = [a, b, c, d] := by
  match l, h with
  | [a, b, c, d], _ => exact ⟨a, b, c, d, rfl⟩
theorem list8 {l : List Int} (h : l.length = 8) : ∃ a b c d e f g h, l = [a, b, c, d, e, f, g, h] := by
  match l, h with
  | [a, b, c, d, e, f, g, h], _ => exact ⟨a, b, c, d, e, f, g, h, rfl⟩
theorem wd8_V {l : List Int} {n : Nat} (h : l.length = 8) (hu : UL l) (hv : V Mw l = n) : l = wd8 n := by
  obtain ⟨a, b, c, d, e, f, g, k, rfl⟩ := list8 h
  refine (wd8_of (hu a (by simp)) (hu b (by simp)) (hu c (by simp)) (hu d (by simp)) (hu e (by simp)) (hu f (by simp)) (hu g (by simp)) (hu k (by simp)) ?_).symm
  rw [← hv]
  simp only [V, Mw]
  omega
theorem V_wd (n : Nat) (h : n < 2 ^ 256) : V Mw (wd n) = n := by
  obtain ⟨a, b, c, d, e, _, _, _, _, q⟩ := wd_split n h
  rw [e, q]
  simp only [V, Mw]
  omega
theorem UL_wd (n : Nat) : UL (wd n) := by
  intro x hx
  simp only [wd, List.mem_cons, List.not_mem_nil, or_false] at hx
  rcases hx with rfl | rfl | rfl | rfl <;> exact dg_U _ _
theorem wd_len (n : Nat) : (wd n).length = 4 := rfl
/-- The rounds of the inner loop, and of the outer one. -/
theorem prod_in {M A B K c l h : Int} {o : List Int} {i j : Nat} (hi : i + j < o.length) (e : l + M * h = A * B + g o (i + j) + c) {S : Int} (hv : V M o + c * M ^ (i + j) = K + A * S * M ^ i) :
    V M (o.set (i + j) l) + h * M ^ (i + (j + 1)) = K + A * (S + B * M ^ j) * M ^ i := by
  rw [V_set M o (i + j) l hi, show i + (j + 1) = i + j + 1 from rfl, Int.pow_succ]
  rw [prod_step M A B (g o (i + j)) c l h (V M o) (M ^ (i + j)) _ e hv, Int.mul_add, Int.add_mul, ← Int.add_assoc]
  congr 1
  rw [Int.pow_add, Int.mul_assoc A, Int.mul_assoc A, Int.mul_assoc B, Int.mul_comm (M ^ i)]
theorem prod_out {M A K c S T : Int} {o : List Int} {i : Nat} (hi : i + 4 < o.length) (h0 : g o (i + 4) = 0) (hv : V M o + c * M ^ (i + 4) = K + T * S + A * S * M ^ i) :
    V M (o.set (i + 4) c) = K + (T + A * M ^ i) * S := by
  rw [V_set M o (i + 4) c hi, h0, Int.sub_zero, hv, Int.add_mul, ← Int.add_assoc, Int.mul_right_comm A]
set_option maxRecDepth 100000 in
set_option maxHeartbeats 1600000 in
theorem product_exec (a b c : List Int) (n : Nat) (ha : a.length = 4) (hb : b.length = 4) (hc : c.length = 4) (ua : UL a) (ub : UL b) (uc : UL c) (hn : (n : Int) = V Mw c + V Mw a * V Mw b) :
    execF EV Tryd.f35 [.agg (.flat .u64 a), .agg (.flat .u64 b), .agg (.flat .u64 c)] (ret1 (W8 n)) := by
  obtain ⟨c0, c1, c2, c3, rfl⟩ := list4 hc
  ((conv => whnf); repeat ((first | refine ⟨_, rfl, ?_⟩ | refine ⟨by decide, ?_⟩ | refine ⟨rfl, ?_⟩ | refine ⟨_, cut_all (by omega), ?_⟩); conv => whnf))
  refine .inl ⟨fun m st => ∃ (i : Nat) (o : List Int), m = 4 - i ∧ i ≤ 4 ∧ o.length = 8 ∧ UL o ∧ (∀ k, i + 4 ≤ k → g o k = 0) ∧ V Mw o = V Mw [c0, c1, c2, c3] + V Mw (a.take i) * V Mw b ∧
      st = ⟨[.poison, .poison, .poison, .ptr 24 0, .ptr 32 0, .ptr 40 0, .ptr 48 0, .ptr 56 0, .poison, .poison, .poison, .poison, .poison, .poison, .poison, .poison, .poison, .poison, .poison, .poison, .poison, .poison, .agg (.flat .u64 a), iv .i64 i, .poison, .poison, .poison, .poison, .poison, .poison, .poison, .poison, .poison, .poison, .poison, .poison, .poison, .poison, .poison, .poison, .poison, .poison, .poison, .poison, .poison, .poison, .poison, .poison, .poison, .poison, .poison, .poison, .poison, .poison, .poison],
      [(24, ⟨.flat .u64 a, 63, false⟩), (32, ⟨.flat .u64 b, 63, false⟩), (40, ⟨.flat .u64 [c0, c1, c2, c3], 63, false⟩), (48, ⟨.flat .u64 [0, 0, 0, 0, 0, 0, 0, 0], 66, false⟩), (56, ⟨.flat .u64 o, 66, false⟩)]⟩,
      ⟨[0, 1, 2, 8, 9, 10, 11, 12, 13, 14, 15, 16, 17, 18, 19, 20, 21, 24, 25, 26, 27, 28, 29, 30, 31, 32, 33, 34, 35, 36, 37, 38, 39, 40, 41, 42, 43, 44, 45, 46, 47, 48, 49, 50, 51, 52, 53, 54], [], 4, 0, [c0, c1, c2, c3, 0, 0, 0, 0], rfl, by omega, rfl, ?_, ?_, ?_, by kernel_rfl⟩, ?_⟩
  · intro x hx
    simp only [List.mem_cons, List.not_mem_nil, or_false] at hx
    rcases hx with rfl | rfl | rfl | rfl | rfl | rfl | rfl | rfl <;> first | exact U_zero | exact uc _ (by simp)
  · intro k hk
    rcases Nat.lt_or_ge k 8 with h | h
    · have : k = 4 ∨ k = 5 ∨ k = 6 ∨ k = 7 := by omega
      rcases this with rfl | rfl | rfl | rfl <;> rfl
    · simp only [g, List.getD_eq_getElem?_getD]
      rw [List.getElem?_eq_none (by simpa using h)]
      rfl
  · simp only [V, Mw, List.take_zero]
    omega
  rintro _ _ ⟨i, o, rfl, hi, hol, uo, ho, hv, rfl⟩
  conv => whnf
  refine ⟨fun h => ?_, fun h => ?_⟩
  · have h := of_decide_eq_true h
    have h4 : i < 4 := by omega
    ((conv => whnf); repeat ((first | refine ⟨inI_of (by omega), ?_⟩ | (apply Exists.intro; refine ⟨?_, ?_⟩; ((try simp only); (try simp only [Nat.zero_add]); (try simp only [Nat.mul_one]); (try simp only [Int.toNat_natCast]); first | exact at_g (by omega) | exact put_flat (by omega))) | refine ⟨_, cut_all (by omega), ?_⟩); conv => whnf))
    refine .inl ⟨fun m st => ∃ (j : Nat) (p : List Int) (cy : Int), m = 4 - j ∧ j ≤ 4 ∧ p.length = 8 ∧ UL p ∧ U cy ∧ (∀ k, i + 4 ≤ k → g p k = 0) ∧ V Mw p + cy * Mw ^ (i + j) = V Mw o + g a i * V Mw (b.take j) * Mw ^ i ∧
      st = ⟨[.poison, .poison, .poison, .ptr 24 0, .ptr 32 0, .ptr 40 0, .ptr 48 0, .ptr 56 0, iv .i64 i, iv .u64 (g a i), iv .u64 cy, .poison, .poison, .poison, .poison, .poison, .poison, .poison, .poison, .poison, .poison, .poison, .agg (.flat .u64 a), iv .i64 i, .poison, .poison, .poison, .agg (.flat .u64 b), iv .i64 j, .poison, .poison, .poison, .poison, .poison, .poison, .poison, .poison, .poison, .poison, .poison, .poison, .poison, .poison, .poison, .poison, .poison, .poison, .poison, .poison, .poison, .poison, .poison, .poison, .poison, .poison],
      [(24, ⟨.flat .u64 a, 63, false⟩), (32, ⟨.flat .u64 b, 63, false⟩), (40, ⟨.flat .u64 [c0, c1, c2, c3], 63, false⟩), (48, ⟨.flat .u64 [0, 0, 0, 0, 0, 0, 0, 0], 66, false⟩), (56, ⟨.flat .u64 p, 66, false⟩)]⟩,
      ⟨[0, 1, 2, 11, 12, 13, 14, 15, 16, 17, 18, 19, 20, 21, 24, 25, 26, 29, 30, 31, 32, 33, 34, 35, 36, 37, 38, 39, 40, 41, 42, 43, 44, 45, 46, 47, 48, 49, 50, 51, 52, 53, 54], [], 4, 0, o, 0, rfl, by omega, hol, uo, U_zero, ho, ?_, by kernel_rfl⟩, ?_⟩
    · simp [V]
    rintro _ _ ⟨j, p, cy, rfl, hj, hpl, up, ucy, hp, hvp, rfl⟩
    conv => whnf
    refine ⟨fun h => ?_, fun h => ?_⟩
    · have h := of_decide_eq_true h
      have j4 : j < 4 := by omega
      have e1 : IntKind.i64.wrap ((i : Int) + (j : Int)) = ((i + j : Nat) : Int) := by rw [wrap64 (by omega)]; omega
      obtain ⟨l, hh, f, ul, uh, q⟩ := oWord (ua.g i) (ub.g j) (up.g (i + j)) ucy
      ((conv => whnf); repeat ((first | ((with_reducible refine isOV ?_); refine ⟨_, f, ?_⟩) | refine ⟨_, rfl, ?_⟩ | refine ⟨rfl, ?_⟩ | refine ⟨inI_of (by omega), ?_⟩ | (apply Exists.intro; refine ⟨?_, ?_⟩; ((try simp only); (try simp only [e1]); (try simp only [Nat.zero_add]); (try simp only [Nat.mul_one]); (try simp only [Int.toNat_natCast]); (try simp only [e1]); (try simp only [Nat.zero_add]); (try simp only [Nat.mul_one]); (try simp only [Int.toNat_natCast]); first | exact at_g (by omega) | exact put_flat (by omega)))); conv => whnf))
      have e2 : IntKind.i64.wrap ((j : Int) + 1) = ((j + 1 : Nat) : Int) := by rw [wrap64 (by omega)]; omega
      refine ⟨[0, 1, 2, 11, 12, 13, 14, 15, 16, 17, 18, 19, 20, 21, 24, 25, 26, 29, 30, 31, 32, 33, 34, 35, 36, 37, 38, 39, 40, 41, 42, 43, 44, 45, 46, 47, 48, 49, 50, 51, 52, 53, 54], [], 4 - (j + 1), ?_, j + 1, p.set (i + j) l, hh, rfl, by omega, by rw [List.length_set, hpl], up.set ul _, uh, fun k hk => ?_, ?_, ?_⟩
      · omega
      · rw [g_set (by omega), if_neg (by omega)]
        exact hp k hk
      · rw [V_take _ _ _ (by omega)]
        exact prod_in (by omega) q hvp
      · rw [← e2]; kernel_rfl
    · have h := of_decide_eq_false h
      have hj4 : j = 4 := by omega
      subst hj4
      have e1 : IntKind.i64.wrap ((i : Int) + 4) = ((i + 4 : Nat) : Int) := by rw [wrap64 (by omega)]; omega
      have e2 : IntKind.i64.wrap ((i : Int) + 1) = ((i + 1 : Nat) : Int) := by rw [wrap64 (by omega)]; omega
      ((conv => whnf); repeat ((first | refine ⟨rfl, ?_⟩ | refine ⟨inI_of (by omega), ?_⟩ | (apply Exists.intro; refine ⟨?_, ?_⟩; ((try simp only); (try simp only [e1]); (try simp only [Nat.zero_add]); (try simp only [Nat.mul_one]); (try simp only [Int.toNat_natCast]); (try simp only [e1]); (try simp only [Nat.zero_add]); (try simp only [Nat.mul_one]); (try simp only [Int.toNat_natCast]); first | exact at_g (by omega) | exact put_flat (by omega)))); conv => whnf))
      refine ⟨[0, 1, 2, 8, 9, 10, 11, 12, 13, 14, 15, 16, 17, 18, 19, 20, 21, 24, 25, 26, 27, 28, 29, 30, 31, 32, 33, 34, 35, 36, 37, 38, 39, 40, 41, 42, 43, 44, 45, 46, 47, 48, 49, 50, 51, 52, 53, 54], [], 4 - (i + 1), ?_, i + 1, p.set (i + 4) cy, rfl, by omega, by rw [List.length_set, hpl], up.set ucy _, fun k hk => ?_, ?_, ?_⟩
      · omega
      · rw [g_set (by omega), if_neg (by omega)]
        exact hp k (by omega)
      · rw [V_take _ _ _ (by omega)]
        refine prod_out (by omega) (hp _ (Nat.le_refl _)) ?_
        rw [hvp, hv, List.take_of_length_le (Nat.le_of_eq hb)]
      · rw [← e2]; kernel_rfl
  · have h := of_decide_eq_false h
    have hi4 : i = 4 := by omega
    subst hi4
    have er : o = wd8 n := wd8_V hol uo (by rw [hv, List.take_of_length_le (Nat.le_of_eq ha), hn])
    ((conv => whnf); repeat ((first | refine ⟨_, rfl, ?_⟩ | refine ⟨rfl, ?_⟩ | refine ⟨_, cut_all (by omega), ?_⟩ | refine ⟨_, lay_all (by (try simp only); (try simp only [List.length_replicate]); (try simp only [List.length_cons]); (try simp only [List.length_nil]); omega) (by omega), ?_⟩ | refine ⟨len_flat (by omega), ?_⟩); conv => whnf))
    rw [er]
    rfl
theorem product_call (a b c : Nat) (ha : a < 2 ^ 256) (hb : b < 2 ^ 256) (hc : c < 2 ^ 256) : CallOk Tryd.prog 35 [W a, W b, W c] (ret1 (W8 (a * b + c))) :=
  execF_ok follows_ok EV_ok Tryd.func35 (product_exec _ _ _ _ (wd_len a) (wd_len b) (wd_len c) (UL_wd a) (UL_wd b) (UL_wd c) (by rw [V_wd a ha, V_wd b hb, V_wd c hc]; push_cast; omega))
end Go.Proofs.YtdeigmjbcbjgeaaDoor
