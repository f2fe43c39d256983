/-
  Layer 8: the program's functions on numbers that multiply nothing.
-/
import Derived.Test.YtdeigmjbcbjgeaaGreatDoorYdF1
namespace Go.Proofs.YtdeigmjbcbjgeaaGreatDoor
open Go.RowKit

def pP : Nat := 57896044618658097711785492504343953926634992332820282019728792003956564819949
def qQ : Nat := 7237005577332262213973186563042994240857116359379907606001950938285454250989
/-- Whether a < b, as a number. -/
def lt1 (a b : Nat) : Nat := if a < b then 1 else 0
theorem lt1_yes {a b : Nat} (h : a < b) : lt1 a b = 1 := if_pos h
theorem lt1_no {a b : Nat} (h : ¬ a < b) : lt1 a b = 0 := if_neg h
theorem lt1_beq (a b : Nat) : ((lt1 a b : Int) == 1) = decide (a < b) := by
  by_cases h : a < b
  · rw [lt1_yes h, decide_eq_true h]; rfl
  · rw [lt1_no h, decide_eq_false h]; rfl
theorem plusN_call (a b : Nat) (ha : a < 2 ^ 256) (hb : b < 2 ^ 256) : CallOk Tryz.prog 100 [W a, W b] (two ((a + b) % 2 ^ 256) ((a + b) / 2 ^ 256)) := by
  have := plus_call a b ha hb
  rwa [two, W, W, W, ← wd_mod (a + b)] at this
theorem minusN_call (a b : Nat) (ha : a < 2 ^ 256) (hb : b < 2 ^ 256) : CallOk Tryz.prog 120 [W a, W b] (two ((a + 2 ^ 256 - b) % 2 ^ 256) (lt1 a b)) := by
  have := minus_call a b ha hb
  rwa [two, W, W, W, ← wd_mod (a + 2 ^ 256 - b)] at this
/-! constants -/
def bel (n d : Int) : Prop := (n = 255 ∧ d = 19) ∨ (n = 255 ∧ d = 21) ∨ (n = 252 ∧ d = 2) ∨ (n = 253 ∧ d = 5)
instance (n d : Int) : Decidable (bel n d) := inferInstanceAs (Decidable (_ ∨ _))
theorem below_call {n d : Int} (h : bel n d) : CallOk Tryz.prog 87 [iv .i64 n, iv .u64 d] (ret1 (W (2 ^ n.toNat - d.toNat))) := by
  rcases h with ⟨rfl, rfl⟩ | ⟨rfl, rfl⟩ | ⟨rfl, rfl⟩ | ⟨rfl, rfl⟩ <;> exact runF_ok follows_ok E0_ok Tryz.func87 (fuel := 100) (by kernel_rfl)
theorem order_call : CallOk Tryz.prog 102 [] (ret1 (W qQ)) := runF_ok follows_ok E0_ok Tryz.func102 (fuel := 100) (by kernel_rfl)
def orcF1 (f : Nat) (ds : List LV) : Option LRes :=
  match f with
  | 87 => match ds with
    | [.v (.int .i64 n), .v (.int .u64 d)] => if bel n d then some (ret1 (W (2 ^ n.toNat - d.toNat))) else none
    | _ => none
  | _ => orcV f ds
theorem orcF1_ok : Known Tryz.prog orcF1 := by
  intro f ds r h
  unfold orcF1 at h
  split at h
  · split at h
    · split at h
      · rename_i hc
        cases h
        exact .inl ⟨⟨_, Tryz.func87, name_ne _ (by kernel_rfl), rfl⟩, below_call hc⟩
      · cases h
    · cases h
  · exact orcV_ok f ds r h
def EF1 : Env := ⟨tyL, orcF1, false, noWk, noOrw⟩
theorem EF1_ok : EnvOk Tryz.prog EF1 := ⟨tyL_ok, orcF1_ok, noOrw_ok⟩
theorem prime_call : CallOk Tryz.prog 108 [] (ret1 (W pP)) := by
  have f : EF1.orc 87 [iv .i64 255, iv .u64 19] = some (ret1 (W pP)) := by kernel_rfl
  refine execF_ok follows_ok EF1_ok Tryz.func108 ?_
  ((conv => whnf); repeat ((first | refine ⟨_, f, ?_⟩ | refine ⟨_, rfl, ?_⟩ | refine ⟨by decide, ?_⟩); conv => whnf))
  rfl
theorem plusN_row {a b : List Int} (hc : isW a = true ∧ isW b = true) : CallOk Tryz.prog 100 [.agg (.flat .u64 a), .agg (.flat .u64 b)] (two (((vl a) + (vl b)) % 2 ^ 256) (((vl a) + (vl b)) / 2 ^ 256)) := by
  obtain ⟨h0, h1⟩ := hc
  have e0 := isW_eq h0
  have l0 := vl_lt h0
  clear h0
  generalize vl a = n0 at *
  subst e0
  have e1 := isW_eq h1
  have l1 := vl_lt h1
  clear h1
  generalize vl b = n1 at *
  subst e1
  exact plusN_call n0 n1 l0 l1 
theorem minusN_row {a b : List Int} (hc : isW a = true ∧ isW b = true) : CallOk Tryz.prog 120 [.agg (.flat .u64 a), .agg (.flat .u64 b)] (two (((vl a) + 2 ^ 256 - (vl b)) % 2 ^ 256) (lt1 (vl a) (vl b))) := by
  obtain ⟨h0, h1⟩ := hc
  have e0 := isW_eq h0
  have l0 := vl_lt h0
  clear h0
  generalize vl a = n0 at *
  subst e0
  have e1 := isW_eq h1
  have l1 := vl_lt h1
  clear h1
  generalize vl b = n1 at *
  subst e1
  exact minusN_call n0 n1 l0 l1 
def orcF2 (f : Nat) (ds : List LV) : Option LRes :=
  match f with
  | 100 => match ds with
    | [.agg (.flat .u64 a), .agg (.flat .u64 b)] => if isW a = true ∧ isW b = true then some (two (((vl a) + (vl b)) % 2 ^ 256) (((vl a) + (vl b)) / 2 ^ 256)) else none
    | _ => none
  | 120 => match ds with
    | [.agg (.flat .u64 a), .agg (.flat .u64 b)] => if isW a = true ∧ isW b = true then some (two (((vl a) + 2 ^ 256 - (vl b)) % 2 ^ 256) (lt1 (vl a) (vl b))) else none
    | _ => none
  | 108 => match ds with
    | [] => some (ret1 (W pP))
    | _ => none
  | 102 => match ds with
    | [] => some (ret1 (W qQ))
    | _ => none
  | _ => orcF1 f ds
theorem orcF2_ok : Known Tryz.prog orcF2 := by
  intro f ds r h
  unfold orcF2 at h
  split at h
  · split at h
    · split at h
      · rename_i hc
        cases h
        exact .inl ⟨⟨_, Tryz.func100, name_ne _ (by kernel_rfl), rfl⟩, plusN_row hc⟩
      · cases h
    · cases h
  · split at h
    · split at h
      · rename_i hc
        cases h
        exact .inl ⟨⟨_, Tryz.func120, name_ne _ (by kernel_rfl), rfl⟩, minusN_row hc⟩
      · cases h
    · cases h
  · split at h
    · cases h
      exact .inl ⟨⟨_, Tryz.func108, name_ne _ (by kernel_rfl), rfl⟩, prime_call⟩
    · cases h
  · split at h
    · cases h
      exact .inl ⟨⟨_, Tryz.func102, name_ne _ (by kernel_rfl), rfl⟩, order_call⟩
    · cases h
  · exact orcF1_ok f ds r h
def EF2 : Env := ⟨tyL, orcF2, false, noWk, noOrw⟩
theorem EF2_ok : EnvOk Tryz.prog EF2 := ⟨tyL_ok, orcF2_ok, noOrw_ok⟩
theorem is_EF2 {f : Nat} {ds : List LV} {K : LRes → Prop} (h : ∃ y, EF2.orc f ds = some y ∧ K y) : ∃ y, EF2.orc f ds = some y ∧ K y := h
theorem o_minusN {a b : Nat} (ha : a < 2 ^ 256) (hb : b < 2 ^ 256) : EF2.orc 120 [W a, W b] = some (two ((a + 2 ^ 256 - b) % 2 ^ 256) (lt1 a b)) :=
  (if_pos ⟨isW_wd ha, isW_wd hb⟩).trans (by rw [wd_vl _ ha, wd_vl _ hb])
set_option maxRecDepth 100000 in
set_option maxHeartbeats 1600000 in
theorem less_call (a b : Nat) (ha : a < 2 ^ 256) (hb : b < 2 ^ 256) : CallOk Tryz.prog 107 [W a, W b] (ret1 (.v (.bool (decide (a < b))))) := by
  rw [← lt1_beq]
  refine execF_ok follows_ok EF2_ok Tryz.func107 ?_
  ((conv => whnf); repeat ((first | ((with_reducible refine is_EF2 ?_); first | refine ⟨_, o_minusN ha hb, ?_⟩) | refine ⟨_, rfl, ?_⟩ | refine ⟨rfl, ?_⟩); conv => whnf))
  rfl
/-- x modulo m, for an x less than 2 m. -/
def wi (x m : Nat) : Nat := if x < m then x else x - m
theorem wi_mod {x m : Nat} (h : x < 2 * m) : wi x m = x % m := by
  unfold wi
  by_cases h1 : x < m
  · rw [if_pos h1, Nat.mod_eq_of_lt h1]
  · rw [if_neg h1, Nat.mod_eq_sub_mod (by omega), Nat.mod_eq_of_lt (by omega)]
set_option maxRecDepth 100000 in
set_option maxHeartbeats 1600000 in
theorem within_call (x m : Nat) (hx : x < 2 ^ 256) (hm : m < 2 ^ 256) : CallOk Tryz.prog 101 [W x, W m] (ret1 (W (wi x m))) := by
  by_cases h : x < m
  · have f := o_minusN hx hm
    rw [lt1_yes h] at f
    rw [wi, if_pos h]
    refine execF_ok follows_ok EF2_ok Tryz.func101 ?_
    ((conv => whnf); repeat ((first | ((with_reducible refine is_EF2 ?_); first | refine ⟨_, f, ?_⟩) | refine ⟨_, rfl, ?_⟩ | refine ⟨rfl, ?_⟩ | refine ⟨fun h => absurd h (by decide), fun _ => ?_⟩); conv => whnf))
    rfl
  · have f := o_minusN hx hm
    rw [lt1_no h, show (x + 2 ^ 256 - m) % 2 ^ 256 = x - m by omega] at f
    rw [wi, if_neg h]
    refine execF_ok follows_ok EF2_ok Tryz.func101 ?_
    ((conv => whnf); repeat ((first | ((with_reducible refine is_EF2 ?_); first | refine ⟨_, f, ?_⟩) | refine ⟨_, rfl, ?_⟩ | refine ⟨rfl, ?_⟩ | refine ⟨fun _ => ?_, fun h => absurd h (by decide)⟩); conv => whnf))
    rfl
theorem less_row {a b : List Int} (hc : isW a = true ∧ isW b = true) : CallOk Tryz.prog 107 [.agg (.flat .u64 a), .agg (.flat .u64 b)] (ret1 (.v (.bool (decide ((vl a) < (vl b)))))) := by
  obtain ⟨h0, h1⟩ := hc
  have e0 := isW_eq h0
  have l0 := vl_lt h0
  clear h0
  generalize vl a = n0 at *
  subst e0
  have e1 := isW_eq h1
  have l1 := vl_lt h1
  clear h1
  generalize vl b = n1 at *
  subst e1
  exact less_call n0 n1 l0 l1 
theorem within_row {a b : List Int} (hc : isW a = true ∧ isW b = true) : CallOk Tryz.prog 101 [.agg (.flat .u64 a), .agg (.flat .u64 b)] (ret1 (W (wi (vl a) (vl b)))) := by
  obtain ⟨h0, h1⟩ := hc
  have e0 := isW_eq h0
  have l0 := vl_lt h0
  clear h0
  generalize vl a = n0 at *
  subst e0
  have e1 := isW_eq h1
  have l1 := vl_lt h1
  clear h1
  generalize vl b = n1 at *
  subst e1
  exact within_call n0 n1 l0 l1 
def orcF3 (f : Nat) (ds : List LV) : Option LRes :=
  match f with
  | 100 => match ds with
    | [.agg (.flat .u64 a), .agg (.flat .u64 b)] => if isW a = true ∧ isW b = true then some (two (((vl a) + (vl b)) % 2 ^ 256) (((vl a) + (vl b)) / 2 ^ 256)) else none
    | _ => none
  | 120 => match ds with
    | [.agg (.flat .u64 a), .agg (.flat .u64 b)] => if isW a = true ∧ isW b = true then some (two (((vl a) + 2 ^ 256 - (vl b)) % 2 ^ 256) (lt1 (vl a) (vl b))) else none
    | _ => none
  | 108 => match ds with
    | [] => some (ret1 (W pP))
    | _ => none
  | 102 => match ds with
    | [] => some (ret1 (W qQ))
    | _ => none
  | 107 => match ds with
    | [.agg (.flat .u64 a), .agg (.flat .u64 b)] => if isW a = true ∧ isW b = true then some (ret1 (.v (.bool (decide ((vl a) < (vl b)))))) else none
    | _ => none
  | 101 => match ds with
    | [.agg (.flat .u64 a), .agg (.flat .u64 b)] => if isW a = true ∧ isW b = true then some (ret1 (W (wi (vl a) (vl b)))) else none
    | _ => none
  | _ => orcF2 f ds
theorem orcF3_ok : Known Tryz.prog orcF3 := by
  intro f ds r h
  unfold orcF3 at h
  split at h
  · split at h
    · split at h
      · rename_i hc
        cases h
        exact .inl ⟨⟨_, Tryz.func100, name_ne _ (by kernel_rfl), rfl⟩, plusN_row hc⟩
      · cases h
    · cases h
  · split at h
    · split at h
      · rename_i hc
        cases h
        exact .inl ⟨⟨_, Tryz.func120, name_ne _ (by kernel_rfl), rfl⟩, minusN_row hc⟩
      · cases h
    · cases h
  · split at h
    · cases h
      exact .inl ⟨⟨_, Tryz.func108, name_ne _ (by kernel_rfl), rfl⟩, prime_call⟩
    · cases h
  · split at h
    · cases h
      exact .inl ⟨⟨_, Tryz.func102, name_ne _ (by kernel_rfl), rfl⟩, order_call⟩
    · cases h
  · split at h
    · split at h
      · rename_i hc
        cases h
        exact .inl ⟨⟨_, Tryz.func107, name_ne _ (by kernel_rfl), rfl⟩, less_row hc⟩
      · cases h
    · cases h
  · split at h
    · split at h
      · rename_i hc
        cases h
        exact .inl ⟨⟨_, Tryz.func101, name_ne _ (by kernel_rfl), rfl⟩, within_row hc⟩
      · cases h
    · cases h
  · exact orcF2_ok f ds r h
def EF3 : Env := ⟨tyL, orcF3, false, noWk, noOrw⟩
theorem EF3_ok : EnvOk Tryz.prog EF3 := ⟨tyL_ok, orcF3_ok, noOrw_ok⟩
theorem is_EF3 {f : Nat} {ds : List LV} {K : LRes → Prop} (h : ∃ y, EF3.orc f ds = some y ∧ K y) : ∃ y, EF3.orc f ds = some y ∧ K y := h
theorem oo_plusN {a b : Nat} (ha : a < 2 ^ 256) (hb : b < 2 ^ 256) : EF3.orc 100 [W a, W b] = some (two ((a + b) % 2 ^ 256) ((a + b) / 2 ^ 256)) :=
  (if_pos ⟨isW_wd ha, isW_wd hb⟩).trans (by rw [wd_vl _ ha, wd_vl _ hb])
theorem oo_prime : EF3.orc 108 [] = some (ret1 (W pP)) := rfl
theorem oo_order : EF3.orc 102 [] = some (ret1 (W qQ)) := rfl
theorem o_less {a b : Nat} (ha : a < 2 ^ 256) (hb : b < 2 ^ 256) : EF3.orc 107 [W a, W b] = some (ret1 (.v (.bool (decide (a < b))))) :=
  (if_pos ⟨isW_wd ha, isW_wd hb⟩).trans (by rw [wd_vl _ ha, wd_vl _ hb])
theorem o_within {a b : Nat} (ha : a < 2 ^ 256) (hb : b < 2 ^ 256) : EF3.orc 101 [W a, W b] = some (ret1 (W (wi a b))) :=
  (if_pos ⟨isW_wd ha, isW_wd hb⟩).trans (by rw [wd_vl _ ha, wd_vl _ hb])
/-! fold -/
theorem or64 (X x y : Int) (n : Nat) (hX : X = x * 2 ^ n) (hx : 0 ≤ x) (hy : 0 ≤ y) (hn : y < 2 ^ n) (hl : X + y < 18446744073709551616) : bits .or .u64 X y = X + y := by
  obtain ⟨a, rfl⟩ := Int.eq_ofNat_of_zero_le hx
  obtain ⟨b, rfl⟩ := Int.eq_ofNat_of_zero_le hy
  have hb : b < 2 ^ n := by exact_mod_cast hn
  have hX' : X = ((2 ^ n * a : Nat) : Int) := by rw [hX]; push_cast; exact Int.mul_comm _ _
  subst hX'
  clear hX
  rw [bits_or_u64_nat _ _ (by omega) (by omega), ← Nat.two_pow_add_eq_or_of_lt hb]
  push_cast
  rfl
theorem mask63 (a : Int) (h : U a) : bits .and .u64 a 9223372036854775807 = a % 9223372036854775808 := by
  obtain ⟨n, rfl⟩ := Int.eq_ofNat_of_zero_le h.1
  have hn := h.2
  have h := bits_and_u64_nat n 9223372036854775807 (by omega) (by omega)
  rw [show n &&& 9223372036854775807 = n % 9223372036854775808 from Nat.and_two_pow_sub_one_eq_mod n 63] at h
  rw [show (9223372036854775807 : Int) = ((9223372036854775807 : Nat) : Int) from rfl, h]
  omega
theorem top63 (a : Int) (_ : U a) : a.fdiv (2 ^ min (63 : Int).toNat IntKind.u64.bits) = a / 9223372036854775808 := by
  rw [show ((2 : Int) ^ (min (63 : Int).toNat IntKind.u64.bits)) = 9223372036854775808 from rfl, Int.fdiv_eq_ediv_of_nonneg _ (by omega)]
set_option maxRecDepth 100000 in
set_option maxHeartbeats 1600000 in
theorem fold_call (a b : Nat) (ha : a < 2 ^ 256) (_ : b < 18446744073709551616) (hb : b ≤ 40) : CallOk Tryz.prog 116 [W a, iv .u64 (b : Nat)] (ret1 (W ((a + 2 ^ 256 * b) % pP))) := by
  obtain ⟨a0, a1, a2, a3, ea, u0, u1, u2, u3, qa⟩ := wd_split a ha
  have ht : bits .or .u64 (IntKind.u64.wrap ((b : Int) * 2 ^ min (1 : Int).toNat IntKind.u64.bits)) (a3.fdiv (2 ^ min (63 : Int).toNat IntKind.u64.bits)) = 2 * (b : Int) + a3 / 9223372036854775808 := by
    have e1 : IntKind.u64.wrap ((b : Int) * 2 ^ min (1 : Int).toNat IntKind.u64.bits) = 2 * (b : Int) := by
      rw [IntKind.wrap_u64, show ((2 : Int) ^ min (1 : Int).toNat IntKind.u64.bits) = 2 from rfl]; omega
    rw [e1, top63 a3 u3]
    unfold U at u3
    exact or64 _ (b : Int) _ 1 (by omega) (by omega) (by omega) (by omega) (by omega)
  have hm := mask63 a3 u3
  obtain ⟨t, et⟩ : ∃ t : Nat, (t : Int) = 2 * (b : Int) + a3 / 9223372036854775808 := ⟨(2 * (b : Int) + a3 / 9223372036854775808).toNat, by unfold U at u3; omega⟩
  have e1 : wd (a % 2 ^ 255) = [a0, a1, a2, bits .and .u64 a3 9223372036854775807] := by
    rw [hm]
    exact (wd_of (e := 0) u0 u1 u2 (by unfold U at *; omega) (by unfold U at *; omega)).1
  have e2 : wd (19 * t) = [IntKind.u64.wrap (19 * bits .or .u64 (IntKind.u64.wrap ((b : Int) * 2 ^ min (1 : Int).toNat IntKind.u64.bits)) (a3.fdiv (2 ^ min (63 : Int).toNat IntKind.u64.bits))), 0, 0, 0] := by
    rw [ht, ← et]
    exact (wd_of (e := 0) (by rw [IntKind.wrap_u64]; unfold U at *; omega) U_zero U_zero U_zero (by rw [IntKind.wrap_u64]; unfold U at *; omega)).1
  have hs : a % 2 ^ 255 + 19 * t < 2 * pP := by unfold pP U at *; omega
  have f1 := oo_plusN (a := a % 2 ^ 255) (b := 19 * t) (by omega) (by unfold pP at hs; omega)
  rw [W, W, e1, e2] at f1
  have f2 := o_within (a := (a % 2 ^ 255 + 19 * t) % 2 ^ 256) (b := pP) (by omega) (by unfold pP; omega)
  have hr : wi ((a % 2 ^ 255 + 19 * t) % 2 ^ 256) pP = (a + 2 ^ 256 * b) % pP := by
    rw [Nat.mod_eq_of_lt (by unfold pP at hs; omega), wi_mod hs]
    have : a + 2 ^ 256 * b = a % 2 ^ 255 + 19 * t + pP * t := by unfold pP U at *; omega
    rw [this, Nat.add_mul_mod_self_left]
  rw [hr] at f2
  rw [W, ea]
  refine execF_ok follows_ok EF3_ok Tryz.func116 ?_
  ((conv => whnf); repeat ((first | ((with_reducible refine is_EF3 ?_); first | refine ⟨_, f1, ?_⟩ | refine ⟨_, f2, ?_⟩ | refine ⟨_, oo_prime, ?_⟩) | refine ⟨_, rfl, ?_⟩ | refine ⟨by decide, ?_⟩ | refine ⟨rfl, ?_⟩); conv => whnf))
  rfl
theorem fold_row {a : List Int} {b : Int} (hc : isW a = true ∧ U b ∧ (b.toNat) ≤ 40) : CallOk Tryz.prog 116 [.agg (.flat .u64 a), .v (.int .u64 b)] (ret1 (W (((vl a) + 2 ^ 256 * (b.toNat)) % pP))) := by
  obtain ⟨h0, h1, h2⟩ := hc
  have e0 := isW_eq h0
  have l0 := vl_lt h0
  clear h0
  generalize vl a = n0 at *
  subst e0
  obtain ⟨n1, rfl⟩ := Int.eq_ofNat_of_zero_le h1.1
  have l1 : n1 < 18446744073709551616 := by have := h1.2; omega
  exact fold_call n0 n1 l0 l1 h2
def orcF4 (f : Nat) (ds : List LV) : Option LRes :=
  match f with
  | 100 => match ds with
    | [.agg (.flat .u64 a), .agg (.flat .u64 b)] => if isW a = true ∧ isW b = true then some (two (((vl a) + (vl b)) % 2 ^ 256) (((vl a) + (vl b)) / 2 ^ 256)) else none
    | _ => none
  | 120 => match ds with
    | [.agg (.flat .u64 a), .agg (.flat .u64 b)] => if isW a = true ∧ isW b = true then some (two (((vl a) + 2 ^ 256 - (vl b)) % 2 ^ 256) (lt1 (vl a) (vl b))) else none
    | _ => none
  | 108 => match ds with
    | [] => some (ret1 (W pP))
    | _ => none
  | 116 => match ds with
    | [.agg (.flat .u64 a), .v (.int .u64 b)] => if isW a = true ∧ U b ∧ (b.toNat) ≤ 40 then some (ret1 (W (((vl a) + 2 ^ 256 * (b.toNat)) % pP))) else none
    | _ => none
  | _ => orcF3 f ds
theorem orcF4_ok : Known Tryz.prog orcF4 := by
  intro f ds r h
  unfold orcF4 at h
  split at h
  · split at h
    · split at h
      · rename_i hc
        cases h
        exact .inl ⟨⟨_, Tryz.func100, name_ne _ (by kernel_rfl), rfl⟩, plusN_row hc⟩
      · cases h
    · cases h
  · split at h
    · split at h
      · rename_i hc
        cases h
        exact .inl ⟨⟨_, Tryz.func120, name_ne _ (by kernel_rfl), rfl⟩, minusN_row hc⟩
      · cases h
    · cases h
  · split at h
    · cases h
      exact .inl ⟨⟨_, Tryz.func108, name_ne _ (by kernel_rfl), rfl⟩, prime_call⟩
    · cases h
  · split at h
    · split at h
      · rename_i hc
        cases h
        exact .inl ⟨⟨_, Tryz.func116, name_ne _ (by kernel_rfl), rfl⟩, fold_row hc⟩
      · cases h
    · cases h
  · exact orcF3_ok f ds r h
def EF4 : Env := ⟨tyL, orcF4, false, noWk, noOrw⟩
theorem EF4_ok : EnvOk Tryz.prog EF4 := ⟨tyL_ok, orcF4_ok, noOrw_ok⟩
theorem is_EF4 {f : Nat} {ds : List LV} {K : LRes → Prop} (h : ∃ y, EF4.orc f ds = some y ∧ K y) : ∃ y, EF4.orc f ds = some y ∧ K y := h
theorem o4_plusN {a b : Nat} (ha : a < 2 ^ 256) (hb : b < 2 ^ 256) : EF4.orc 100 [W a, W b] = some (two ((a + b) % 2 ^ 256) ((a + b) / 2 ^ 256)) :=
  (if_pos ⟨isW_wd ha, isW_wd hb⟩).trans (by rw [wd_vl _ ha, wd_vl _ hb])
theorem o_fold {a b : Nat} (ha : a < 2 ^ 256) (hb : b < 18446744073709551616) (x0 : b ≤ 40) : EF4.orc 116 [W a, iv .u64 (b : Nat)] = some (ret1 (W ((a + 2 ^ 256 * b) % pP))) :=
  (if_pos ⟨isW_wd ha, ⟨by omega, by omega⟩, by first | exact x0 | (rw [wd_vl _ ha, Int.toNat_natCast]; exact x0) | (rw [wd_vl _ ha]; exact x0) | (rw [Int.toNat_natCast]; exact x0)⟩).trans (by rw [wd_vl _ ha, Int.toNat_natCast])
set_option maxRecDepth 100000 in
set_option maxHeartbeats 1600000 in
theorem reduce_call (a : Nat) (ha : a < 2 ^ 256) : CallOk Tryz.prog 111 [W a] (ret1 (W (a % pP))) := by
  have f := o_fold (a := a) (b := 0) ha (by omega) (by omega)
  rw [Nat.mul_zero, Nat.add_zero] at f
  refine execF_ok follows_ok EF4_ok Tryz.func111 ?_
  ((conv => whnf); repeat ((first | ((with_reducible refine is_EF4 ?_); first | refine ⟨_, f, ?_⟩) | refine ⟨_, rfl, ?_⟩ | refine ⟨rfl, ?_⟩); conv => whnf))
  rfl
set_option maxRecDepth 100000 in
set_option maxHeartbeats 1600000 in
theorem add_call (a b : Nat) (ha : a < 2 ^ 256) (hb : b < 2 ^ 256) : CallOk Tryz.prog 109 [W a, W b] (ret1 (W ((a + b) % pP))) := by
  have f := o_fold (a := (a + b) % 2 ^ 256) (b := (a + b) / 2 ^ 256) (by omega) (by omega) (by omega)
  rw [show (a + b) % 2 ^ 256 + 2 ^ 256 * ((a + b) / 2 ^ 256) = a + b by omega] at f
  refine execF_ok follows_ok EF4_ok Tryz.func109 ?_
  ((conv => whnf); repeat ((first | ((with_reducible refine is_EF4 ?_); first | refine ⟨_, f, ?_⟩ | refine ⟨_, o4_plusN ha hb, ?_⟩) | refine ⟨_, rfl, ?_⟩ | refine ⟨rfl, ?_⟩); conv => whnf))
  rfl
theorem reduce_row {a : List Int} (hc : isW a = true) : CallOk Tryz.prog 111 [.agg (.flat .u64 a)] (ret1 (W ((vl a) % pP))) := by
  have h0 := hc
  clear hc
  have e0 := isW_eq h0
  have l0 := vl_lt h0
  clear h0
  generalize vl a = n0 at *
  subst e0
  exact reduce_call n0 l0 
def orcF5 (f : Nat) (ds : List LV) : Option LRes :=
  match f with
  | 120 => match ds with
    | [.agg (.flat .u64 a), .agg (.flat .u64 b)] => if isW a = true ∧ isW b = true then some (two (((vl a) + 2 ^ 256 - (vl b)) % 2 ^ 256) (lt1 (vl a) (vl b))) else none
    | _ => none
  | 108 => match ds with
    | [] => some (ret1 (W pP))
    | _ => none
  | 111 => match ds with
    | [.agg (.flat .u64 a)] => if isW a = true then some (ret1 (W ((vl a) % pP))) else none
    | _ => none
  | _ => orcF4 f ds
theorem orcF5_ok : Known Tryz.prog orcF5 := by
  intro f ds r h
  unfold orcF5 at h
  split at h
  · split at h
    · split at h
      · rename_i hc
        cases h
        exact .inl ⟨⟨_, Tryz.func120, name_ne _ (by kernel_rfl), rfl⟩, minusN_row hc⟩
      · cases h
    · cases h
  · split at h
    · cases h
      exact .inl ⟨⟨_, Tryz.func108, name_ne _ (by kernel_rfl), rfl⟩, prime_call⟩
    · cases h
  · split at h
    · split at h
      · rename_i hc
        cases h
        exact .inl ⟨⟨_, Tryz.func111, name_ne _ (by kernel_rfl), rfl⟩, reduce_row hc⟩
      · cases h
    · cases h
  · exact orcF4_ok f ds r h
def EF5 : Env := ⟨tyL, orcF5, false, noWk, noOrw⟩
theorem EF5_ok : EnvOk Tryz.prog EF5 := ⟨tyL_ok, orcF5_ok, noOrw_ok⟩
theorem is_EF5 {f : Nat} {ds : List LV} {K : LRes → Prop} (h : ∃ y, EF5.orc f ds = some y ∧ K y) : ∃ y, EF5.orc f ds = some y ∧ K y := h
theorem o5_minusN {a b : Nat} (ha : a < 2 ^ 256) (hb : b < 2 ^ 256) : EF5.orc 120 [W a, W b] = some (two ((a + 2 ^ 256 - b) % 2 ^ 256) (lt1 a b)) :=
  (if_pos ⟨isW_wd ha, isW_wd hb⟩).trans (by rw [wd_vl _ ha, wd_vl _ hb])
theorem o5_prime : EF5.orc 108 [] = some (ret1 (W pP)) := rfl
theorem o_reduce {a : Nat} (ha : a < 2 ^ 256) : EF5.orc 111 [W a] = some (ret1 (W (a % pP))) :=
  (if_pos (isW_wd ha)).trans (by rw [wd_vl _ ha])
set_option maxRecDepth 100000 in
set_option maxHeartbeats 1600000 in
theorem negative_call (a : Nat) (ha : a < 2 ^ 256) : CallOk Tryz.prog 112 [W a] (ret1 (W (pP - a % pP))) := by
  have hl : a % pP < pP := Nat.mod_lt _ (by unfold pP; omega)
  have f := o5_minusN (a := pP) (b := a % pP) (by unfold pP; omega) (by unfold pP at *; omega)
  rw [show (pP + 2 ^ 256 - a % pP) % 2 ^ 256 = pP - a % pP by unfold pP at *; omega] at f
  refine execF_ok follows_ok EF5_ok Tryz.func112 ?_
  ((conv => whnf); repeat ((first | ((with_reducible refine is_EF5 ?_); first | refine ⟨_, f, ?_⟩ | refine ⟨_, o_reduce ha, ?_⟩ | refine ⟨_, o5_prime, ?_⟩) | refine ⟨_, rfl, ?_⟩ | refine ⟨by decide, ?_⟩ | refine ⟨rfl, ?_⟩); conv => whnf))
  rfl
end Go.Proofs.YtdeigmjbcbjgeaaGreatDoor
