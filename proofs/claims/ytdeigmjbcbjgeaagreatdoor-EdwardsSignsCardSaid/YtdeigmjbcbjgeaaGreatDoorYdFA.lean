/-
  Layer 8: the program's root and its exported functions.
-/
import Derived.Test.YtdeigmjbcbjgeaaGreatDoorYdF8
namespace Go.Proofs.YtdeigmjbcbjgeaaGreatDoor
open Go.RowKit

def e1P : Nat := 2 ^ 252 - 2
def e2P : Nat := 2 ^ 253 - 5
def e3P : Nat := 2 ^ 255 - 21
theorem e1P_lt : e1P < 2 ^ 256 := by unfold e1P; omega
theorem e2P_lt : e2P < 2 ^ 256 := by unfold e2P; omega
theorem e3P_lt : e3P < 2 ^ 256 := by unfold e3P; omega
theorem beq_wd {a b : Nat} (ha : a < 2 ^ 256) (hb : b < 2 ^ 256) : (wd a == wd b) = decide (a = b) := by
  by_cases h : a = b
  · rw [h, decide_eq_true rfl]; simp
  · rw [decide_eq_false h]
    simp only [beq_eq_false_iff_ne, ne_eq]
    exact fun e => h (wd_inj ha hb e)
theorem beq_by {a b : Nat} (ha : a < 2 ^ 256) (hb : b < 2 ^ 256) : (by32 a == by32 b) = decide (a = b) := by
  by_cases h : a = b
  · rw [h, decide_eq_true rfl]; simp
  · rw [decide_eq_false h]
    simp only [beq_eq_false_iff_ne, ne_eq]
    exact fun e => h (by32_inj ha hb e)
/-- A root of x, if there is one. -/
def rootP (x : Nat) : Nat × Bool :=
  if pw x e1P * pw x e1P % pP = x then (pw x e1P, true) else (pw x e1P * pw 2 e2P % pP, decide (pw x e1P * pw 2 e2P % pP * (pw x e1P * pw 2 e2P % pP) % pP = x))
theorem rootP_lt (x : Nat) : (rootP x).1 < 2 ^ 256 := by
  unfold rootP
  split
  · exact pw_lt x e1P
  · exact mod_lt256 (pw x e1P * pw 2 e2P)
theorem power_row {a b : List Int} (hc : isW a = true ∧ isW b = true) : CallOk Tryz.prog 86 [.agg (.flat .u64 a), .agg (.flat .u64 b)] (ret1 (W (pw (vl a) (vl b)))) := by
  obtain ⟨h0, h1⟩ := hc
  have e0 := isW_eq h0
  have l0 := vl_lt h0
  clear h0
  generalize vl a = n0 at *
  subst e0
  have e1 := isW_eq h1
  have l1 := vl_lt h1
  clear h1
  generalize vl b = n1 at *
  subst e1
  exact power_call n0 n1 l0 l1 
theorem remainder_row {a : List Int} (hc : isW8 a = true) : CallOk Tryz.prog 67 [.agg (.flat .u64 a)] (ret1 (W ((vl a) % qQ))) := by
  have h0 := hc
  clear hc
  have e0 := isW8_eq h0
  have l0 := vl8_lt h0
  clear h0
  generalize vl a = n0 at *
  subst e0
  exact remainder_call n0 l0 
theorem add_row {a b : List Int} (hc : isW a = true ∧ isW b = true) : CallOk Tryz.prog 109 [.agg (.flat .u64 a), .agg (.flat .u64 b)] (ret1 (W (((vl a) + (vl b)) % pP))) := by
  obtain ⟨h0, h1⟩ := hc
  have e0 := isW_eq h0
  have l0 := vl_lt h0
  clear h0
  generalize vl a = n0 at *
  subst e0
  have e1 := isW_eq h1
  have l1 := vl_lt h1
  clear h1
  generalize vl b = n1 at *
  subst e1
  exact add_call n0 n1 l0 l1 
theorem negative_row {a : List Int} (hc : isW a = true) : CallOk Tryz.prog 112 [.agg (.flat .u64 a)] (ret1 (W (pP - (vl a) % pP))) := by
  have h0 := hc
  clear hc
  have e0 := isW_eq h0
  have l0 := vl_lt h0
  clear h0
  generalize vl a = n0 at *
  subst e0
  exact negative_call n0 l0 
theorem read_row {a : List Int} (hc : isF a = true) : CallOk Tryz.prog 85 [.agg (.flat .u8 a)] (ret1 (W (nb a))) := by
  have h0 := hc
  clear hc
  have e0 := isF_eq h0
  have l0 := nb32_lt h0
  clear h0
  generalize nb a = n0 at *
  subst e0
  exact read_call n0 l0 
theorem write_row {a : List Int} (hc : isW a = true) : CallOk Tryz.prog 66 [.agg (.flat .u64 a)] (ret1 (F (vl a))) := by
  have h0 := hc
  clear hc
  have e0 := isW_eq h0
  have l0 := vl_lt h0
  clear h0
  generalize vl a = n0 at *
  subst e0
  exact write_call n0 l0 
def orcF8 (f : Nat) (ds : List LV) : Option LRes :=
  match f with
  | 86 => match ds with
    | [.agg (.flat .u64 a), .agg (.flat .u64 b)] => if isW a = true ∧ isW b = true then some (ret1 (W (pw (vl a) (vl b)))) else none
    | _ => none
  | 67 => match ds with
    | [.agg (.flat .u64 a)] => if isW8 a = true then some (ret1 (W ((vl a) % qQ))) else none
    | _ => none
  | 111 => match ds with
    | [.agg (.flat .u64 a)] => if isW a = true then some (ret1 (W ((vl a) % pP))) else none
    | _ => none
  | 109 => match ds with
    | [.agg (.flat .u64 a), .agg (.flat .u64 b)] => if isW a = true ∧ isW b = true then some (ret1 (W (((vl a) + (vl b)) % pP))) else none
    | _ => none
  | 112 => match ds with
    | [.agg (.flat .u64 a)] => if isW a = true then some (ret1 (W (pP - (vl a) % pP))) else none
    | _ => none
  | 85 => match ds with
    | [.agg (.flat .u8 a)] => if isF a = true then some (ret1 (W (nb a))) else none
    | _ => none
  | 66 => match ds with
    | [.agg (.flat .u64 a)] => if isW a = true then some (ret1 (F (vl a))) else none
    | _ => none
  | _ => orcF7 f ds
theorem orcF8_ok : Known Tryz.prog orcF8 := by
  intro f ds r h
  unfold orcF8 at h
  split at h
  · split at h
    · split at h
      · rename_i hc
        cases h
        exact .inl ⟨⟨_, Tryz.func86, name_ne _ (by kernel_rfl), rfl⟩, power_row hc⟩
      · cases h
    · cases h
  · split at h
    · split at h
      · rename_i hc
        cases h
        exact .inl ⟨⟨_, Tryz.func67, name_ne _ (by kernel_rfl), rfl⟩, remainder_row hc⟩
      · cases h
    · cases h
  · split at h
    · split at h
      · rename_i hc
        cases h
        exact .inl ⟨⟨_, Tryz.func111, name_ne _ (by kernel_rfl), rfl⟩, reduce_row hc⟩
      · cases h
    · cases h
  · split at h
    · split at h
      · rename_i hc
        cases h
        exact .inl ⟨⟨_, Tryz.func109, name_ne _ (by kernel_rfl), rfl⟩, add_row hc⟩
      · cases h
    · cases h
  · split at h
    · split at h
      · rename_i hc
        cases h
        exact .inl ⟨⟨_, Tryz.func112, name_ne _ (by kernel_rfl), rfl⟩, negative_row hc⟩
      · cases h
    · cases h
  · split at h
    · split at h
      · rename_i hc
        cases h
        exact .inl ⟨⟨_, Tryz.func85, name_ne _ (by kernel_rfl), rfl⟩, read_row hc⟩
      · cases h
    · cases h
  · split at h
    · split at h
      · rename_i hc
        cases h
        exact .inl ⟨⟨_, Tryz.func66, name_ne _ (by kernel_rfl), rfl⟩, write_row hc⟩
      · cases h
    · cases h
  · exact orcF7_ok f ds r h
def EF8 : Env := ⟨tyL, orcF8, false, noWk, noOrw⟩
theorem EF8_ok : EnvOk Tryz.prog EF8 := ⟨tyL_ok, orcF8_ok, noOrw_ok⟩
theorem is_EF8 {f : Nat} {ds : List LV} {K : LRes → Prop} (h : ∃ y, EF8.orc f ds = some y ∧ K y) : ∃ y, EF8.orc f ds = some y ∧ K y := h
theorem o_power {a b : Nat} (ha : a < 2 ^ 256) (hb : b < 2 ^ 256) : EF8.orc 86 [W a, W b] = some (ret1 (W (pw a b))) :=
  (if_pos ⟨isW_wd ha, isW_wd hb⟩).trans (by rw [wd_vl _ ha, wd_vl _ hb])
theorem o_remainder {a : Nat} (ha : a < 2 ^ 512) : EF8.orc 67 [W8 a] = some (ret1 (W (a % qQ))) :=
  (if_pos (isW8_wd ha)).trans (by rw [wd8_vl _ ha])
theorem o8_reduce {a : Nat} (ha : a < 2 ^ 256) : EF8.orc 111 [W a] = some (ret1 (W (a % pP))) :=
  (if_pos (isW_wd ha)).trans (by rw [wd_vl _ ha])
theorem o_add {a b : Nat} (ha : a < 2 ^ 256) (hb : b < 2 ^ 256) : EF8.orc 109 [W a, W b] = some (ret1 (W ((a + b) % pP))) :=
  (if_pos ⟨isW_wd ha, isW_wd hb⟩).trans (by rw [wd_vl _ ha, wd_vl _ hb])
theorem o_negative {a : Nat} (ha : a < 2 ^ 256) : EF8.orc 112 [W a] = some (ret1 (W (pP - a % pP))) :=
  (if_pos (isW_wd ha)).trans (by rw [wd_vl _ ha])
set_option maxRecDepth 100000 in
theorem o_read {a : Nat} (ha : a < 2 ^ 256) : EF8.orc 85 [F a] = some (ret1 (W a)) :=
  (if_pos (isF_by _)).trans (by rw [nb_by32 ha])
theorem o_write {a : Nat} (ha : a < 2 ^ 256) : EF8.orc 66 [W a] = some (ret1 (F a)) :=
  (if_pos (isW_wd ha)).trans (by rw [wd_vl _ ha])
theorem o8_mul {a b : Nat} (ha : a < 2 ^ 256) (hb : b < 2 ^ 256) : EF8.orc 84 [W a, W b] = some (ret1 (W (a * b % pP))) := o_mul ha hb
theorem o8_product {a b c : Nat} (ha : a < 2 ^ 256) (hb : b < 2 ^ 256) (hc : c < 2 ^ 256) : EF8.orc 94 [W a, W b, W c] = some (ret1 (W8 (a * b + c))) := o_product ha hb hc
theorem o8_less {a b : Nat} (ha : a < 2 ^ 256) (hb : b < 2 ^ 256) : EF8.orc 107 [W a, W b] = some (ret1 (.v (.bool (decide (a < b))))) := o_less ha hb
theorem o8_prime : EF8.orc 108 [] = some (ret1 (W pP)) := rfl
theorem o8_below1 : EF8.orc 87 [iv .i64 252, iv .u64 2] = some (ret1 (W e1P)) := by kernel_rfl
theorem o8_below2 : EF8.orc 87 [iv .i64 253, iv .u64 5] = some (ret1 (W e2P)) := by kernel_rfl
theorem o8_below3 : EF8.orc 87 [iv .i64 255, iv .u64 21] = some (ret1 (W e3P)) := by kernel_rfl
theorem W_two : W 2 = .agg (.flat .u64 [2, 0, 0, 0]) := by kernel_rfl
set_option maxRecDepth 100000 in
set_option maxHeartbeats 1600000 in
theorem root_call (a : Nat) (ha : a < 2 ^ 256) : CallOk Tryz.prog 110 [W a] (.many [.val (W (rootP a).1), .val (.v (.bool (rootP a).2))]) := by
  have f1 := o_power ha e1P_lt
  have f2 := o8_mul (pw_lt a e1P) (pw_lt a e1P)
  have f3 := o_power (a := 2) (by decide) e2P_lt
  rw [W_two] at f3
  have f4 := o8_mul (pw_lt a e1P) (pw_lt 2 e2P)
  have f5 := o8_mul (mod_lt256 (pw a e1P * pw 2 e2P)) (mod_lt256 (pw a e1P * pw 2 e2P))
  have b1 := beq_wd (mod_lt256 (pw a e1P * pw a e1P)) ha
  have b2 := beq_wd (mod_lt256 (pw a e1P * pw 2 e2P % pP * (pw a e1P * pw 2 e2P % pP))) ha
  by_cases h : pw a e1P * pw a e1P % pP = a
  · rw [decide_eq_true h] at b1
    rw [rootP, if_pos h]
    refine execF_ok follows_ok EF8_ok Tryz.func110 ?_
    ((conv => whnf); repeat ((first | refine ⟨fun _ => ?_, fun h => absurd ((b1).symm.trans h) (by decide)⟩ | refine ⟨fun h => absurd ((b1).symm.trans h) (by decide), fun _ => ?_⟩ | ((with_reducible refine is_EF8 ?_); first | refine ⟨_, o8_below1, ?_⟩ | refine ⟨_, o8_below2, ?_⟩ | refine ⟨_, f1, ?_⟩ | refine ⟨_, f2, ?_⟩ | refine ⟨_, f3, ?_⟩ | refine ⟨_, f4, ?_⟩ | refine ⟨_, f5, ?_⟩) | refine ⟨_, rfl, ?_⟩ | refine ⟨by decide, ?_⟩ | refine ⟨rfl, ?_⟩); conv => whnf))
    rfl
  · rw [decide_eq_false h] at b1
    rw [rootP, if_neg h, ← b2]
    refine execF_ok follows_ok EF8_ok Tryz.func110 ?_
    ((conv => whnf); repeat ((first | refine ⟨fun _ => ?_, fun h => absurd ((b1).symm.trans h) (by decide)⟩ | refine ⟨fun h => absurd ((b1).symm.trans h) (by decide), fun _ => ?_⟩ | ((with_reducible refine is_EF8 ?_); first | refine ⟨_, o8_below1, ?_⟩ | refine ⟨_, o8_below2, ?_⟩ | refine ⟨_, f1, ?_⟩ | refine ⟨_, f2, ?_⟩ | refine ⟨_, f3, ?_⟩ | refine ⟨_, f4, ?_⟩ | refine ⟨_, f5, ?_⟩) | refine ⟨_, rfl, ?_⟩ | refine ⟨by decide, ?_⟩ | refine ⟨rfl, ?_⟩); conv => whnf))
    rfl
theorem root_row {a : List Int} (hc : isW a = true) : CallOk Tryz.prog 110 [.agg (.flat .u64 a)] (.many [.val (W (rootP (vl a)).1), .val (.v (.bool (rootP (vl a)).2))]) := by
  have h0 := hc
  clear hc
  have e0 := isW_eq h0
  have l0 := vl_lt h0
  clear h0
  generalize vl a = n0 at *
  subst e0
  exact root_call n0 l0 
def orcF9 (f : Nat) (ds : List LV) : Option LRes :=
  match f with
  | 110 => match ds with
    | [.agg (.flat .u64 a)] => if isW a = true then some (.many [.val (W (rootP (vl a)).1), .val (.v (.bool (rootP (vl a)).2))]) else none
    | _ => none
  | _ => orcF8 f ds
theorem orcF9_ok : Known Tryz.prog orcF9 := by
  intro f ds r h
  unfold orcF9 at h
  split at h
  · split at h
    · split at h
      · rename_i hc
        cases h
        exact .inl ⟨⟨_, Tryz.func110, name_ne _ (by kernel_rfl), rfl⟩, root_row hc⟩
      · cases h
    · cases h
  · exact orcF8_ok f ds r h
def EF9 : Env := ⟨tyL, orcF9, false, noWk, noOrw⟩
theorem EF9_ok : EnvOk Tryz.prog EF9 := ⟨tyL_ok, orcF9_ok, noOrw_ok⟩
theorem is_EF9 {f : Nat} {ds : List LV} {K : LRes → Prop} (h : ∃ y, EF9.orc f ds = some y ∧ K y) : ∃ y, EF9.orc f ds = some y ∧ K y := h
theorem o_root {a : Nat} (ha : a < 2 ^ 256) : EF9.orc 110 [W a] = some (.many [.val (W (rootP a).1), .val (.v (.bool (rootP a).2))]) :=
  (if_pos (isW_wd ha)).trans (by rw [wd_vl _ ha])
theorem o9_read {a : Nat} (ha : a < 2 ^ 256) : EF9.orc 85 [F a] = some (ret1 (W a)) := (show EF9.orc 85 [F a] = EF8.orc 85 [F a] from rfl).trans (o_read ha)
theorem o9_write {a : Nat} (ha : a < 2 ^ 256) : EF9.orc 66 [W a] = some (ret1 (F a)) := (show EF9.orc 66 [W a] = EF8.orc 66 [W a] from rfl).trans (o_write ha)
theorem o9_reduce {a : Nat} (ha : a < 2 ^ 256) : EF9.orc 111 [W a] = some (ret1 (W (a % pP))) := (show EF9.orc 111 [W a] = EF8.orc 111 [W a] from rfl).trans (o8_reduce ha)
theorem o9_negative {a : Nat} (ha : a < 2 ^ 256) : EF9.orc 112 [W a] = some (ret1 (W (pP - a % pP))) := (show EF9.orc 112 [W a] = EF8.orc 112 [W a] from rfl).trans (o_negative ha)
set_option maxRecDepth 100000 in
set_option maxHeartbeats 1600000 in
theorem pCanonical_call (a : Nat) (ha : a < 2 ^ 256) : CallOk Tryz.prog 75 [F a] (ret1 (.v (.bool (decide (a < pP))))) := by
  refine execF_ok follows_ok EF8_ok Tryz.func75 ?_
  ((conv => whnf); repeat ((first | ((with_reducible refine is_EF8 ?_); first | refine ⟨_, o_read ha, ?_⟩ | refine ⟨_, o8_prime, ?_⟩ | refine ⟨_, o8_less ha pP_lt, ?_⟩) | refine ⟨_, rfl, ?_⟩ | refine ⟨by decide, ?_⟩ | refine ⟨rfl, ?_⟩); conv => whnf))
  rfl
set_option maxRecDepth 100000 in
set_option maxHeartbeats 1600000 in
theorem pAdd_call (a b : Nat) (ha : a < 2 ^ 256) (hb : b < 2 ^ 256) : CallOk Tryz.prog 77 [F a, F b] (ret1 (F ((a + b) % pP))) := by
  refine execF_ok follows_ok EF8_ok Tryz.func77 ?_
  ((conv => whnf); repeat ((first | ((with_reducible refine is_EF8 ?_); first | refine ⟨_, o_read ha, ?_⟩ | refine ⟨_, o_read hb, ?_⟩ | refine ⟨_, o_add ha hb, ?_⟩ | refine ⟨_, o_write (mod_lt256 _), ?_⟩) | refine ⟨_, rfl, ?_⟩ | refine ⟨by decide, ?_⟩ | refine ⟨rfl, ?_⟩); conv => whnf))
  rfl
set_option maxRecDepth 100000 in
set_option maxHeartbeats 1600000 in
theorem pMul_call (a b : Nat) (ha : a < 2 ^ 256) (hb : b < 2 ^ 256) : CallOk Tryz.prog 45 [F a, F b] (ret1 (F (a * b % pP))) := by
  refine execF_ok follows_ok EF8_ok Tryz.func45 ?_
  ((conv => whnf); repeat ((first | ((with_reducible refine is_EF8 ?_); first | refine ⟨_, o_read ha, ?_⟩ | refine ⟨_, o_read hb, ?_⟩ | refine ⟨_, o8_mul ha hb, ?_⟩ | refine ⟨_, o_write (mod_lt256 _), ?_⟩) | refine ⟨_, rfl, ?_⟩ | refine ⟨by decide, ?_⟩ | refine ⟨rfl, ?_⟩); conv => whnf))
  rfl
theorem neg_lt (n : Nat) : pP - n % pP < 2 ^ 256 := Nat.lt_of_le_of_lt (Nat.sub_le _ _) pP_lt
set_option maxRecDepth 100000 in
set_option maxHeartbeats 1600000 in
theorem pSub_call (a b : Nat) (ha : a < 2 ^ 256) (hb : b < 2 ^ 256) : CallOk Tryz.prog 79 [F a, F b] (ret1 (F ((a + (pP - b % pP)) % pP))) := by
  refine execF_ok follows_ok EF8_ok Tryz.func79 ?_
  ((conv => whnf); repeat ((first | ((with_reducible refine is_EF8 ?_); first | refine ⟨_, o_read ha, ?_⟩ | refine ⟨_, o_read hb, ?_⟩ | refine ⟨_, o_negative hb, ?_⟩ | refine ⟨_, o_add ha (neg_lt b), ?_⟩ | refine ⟨_, o_write (mod_lt256 _), ?_⟩) | refine ⟨_, rfl, ?_⟩ | refine ⟨by decide, ?_⟩ | refine ⟨rfl, ?_⟩); conv => whnf))
  rfl
set_option maxRecDepth 100000 in
set_option maxHeartbeats 1600000 in
theorem pInv_call (a : Nat) (ha : a < 2 ^ 256) : CallOk Tryz.prog 46 [F a] (ret1 (F (pw a e3P))) := by
  refine execF_ok follows_ok EF8_ok Tryz.func46 ?_
  ((conv => whnf); repeat ((first | ((with_reducible refine is_EF8 ?_); first | refine ⟨_, o_read ha, ?_⟩ | refine ⟨_, o8_below3, ?_⟩ | refine ⟨_, o_power ha e3P_lt, ?_⟩ | refine ⟨_, o_write (pw_lt _ _), ?_⟩) | refine ⟨_, rfl, ?_⟩ | refine ⟨by decide, ?_⟩ | refine ⟨rfl, ?_⟩); conv => whnf))
  rfl
theorem qmod_lt (n : Nat) : n % qQ < 2 ^ 256 := Nat.lt_trans (Nat.mod_lt n qQ_pos) (by unfold qQ; omega)
set_option exponentiation.threshold 600 in
theorem muladd_lt {a b c : Nat} (ha : a < 2 ^ 256) (hb : b < 2 ^ 256) (hc : c < 2 ^ 256) : a * b + c < 2 ^ 512 := by
  have h : a * b ≤ (2 ^ 256 - 1) * (2 ^ 256 - 1) := Nat.mul_le_mul (by omega) (by omega)
  omega
set_option maxRecDepth 100000 in
set_option maxHeartbeats 1600000 in
theorem pMulAdd_call (a b c : Nat) (ha : a < 2 ^ 256) (hb : b < 2 ^ 256) (hc : c < 2 ^ 256) : CallOk Tryz.prog 55 [F a, F b, F c] (ret1 (F ((a * b + c) % qQ))) := by
  refine execF_ok follows_ok EF8_ok Tryz.func55 ?_
  ((conv => whnf); repeat ((first | ((with_reducible refine is_EF8 ?_); first | refine ⟨_, o_read ha, ?_⟩ | refine ⟨_, o_read hb, ?_⟩ | refine ⟨_, o_read hc, ?_⟩ | refine ⟨_, o8_product ha hb hc, ?_⟩ | refine ⟨_, o_remainder (muladd_lt ha hb hc), ?_⟩ | refine ⟨_, o_write (qmod_lt _), ?_⟩) | refine ⟨_, rfl, ?_⟩ | refine ⟨by decide, ?_⟩ | refine ⟨rfl, ?_⟩); conv => whnf))
  rfl
/-! Sqrt -/
def sqrtP (x : Nat) : Nat × Bool := if (rootP (x % pP)).2 then (if (rootP (x % pP)).1 % 2 = 1 then pP - (rootP (x % pP)).1 % pP else (rootP (x % pP)).1, true) else (0, false)
theorem odd_q (r : Nat) : ((dg r 0).tmod 2 == 1) = decide (r % 2 = 1) := by
  rw [(dg_lit r).1, show (2 : Int) = ((2 : Nat) : Int) from rfl, tmod_nat]
  have e : r % 18446744073709551616 % 2 = r % 2 := by omega
  rw [e]
  have : r % 2 = 0 ∨ r % 2 = 1 := by omega
  rcases this with h | h <;> rw [h] <;> rfl
theorem F_zero : F 0 = .agg (.flat .u8 (List.replicate 32 0)) := by kernel_rfl
set_option maxRecDepth 100000 in
set_option maxHeartbeats 1600000 in
theorem pSqrt_call (a : Nat) (ha : a < 2 ^ 256) : CallOk Tryz.prog 78 [F a] (.many [.val (F (sqrtP a).1), .val (.v (.bool (sqrtP a).2))]) := by
  have f1 := o_root (mod_lt256 a)
  have f2 := o9_write (rootP_lt (a % pP))
  have f3 := o9_negative (rootP_lt (a % pP))
  have f4 := o9_write (neg_lt (rootP (a % pP)).1)
  have q := odd_q (rootP (a % pP)).1
  unfold sqrtP
  generalize rootP (a % pP) = r at *
  obtain ⟨r, k⟩ := r
  dsimp only at *
  cases k with
  | false =>
    rw [if_neg (by decide), F_zero]
    refine execF_ok follows_ok EF9_ok Tryz.func78 ?_
    ((conv => whnf); repeat ((first | ((with_reducible refine is_EF9 ?_); first | refine ⟨_, o9_read ha, ?_⟩ | refine ⟨_, o9_reduce ha, ?_⟩ | refine ⟨_, f1, ?_⟩) | refine ⟨_, rfl, ?_⟩ | refine ⟨by decide, ?_⟩ | refine ⟨rfl, ?_⟩ | refine ⟨fun _ => ?_, fun h => absurd h (by decide)⟩); conv => whnf))
    rfl
  | true =>
    rw [if_pos rfl]
    by_cases h : r % 2 = 1
    · rw [decide_eq_true h] at q
      rw [if_pos h]
      refine execF_ok follows_ok EF9_ok Tryz.func78 ?_
      ((conv => whnf); repeat ((first | refine ⟨fun _ => ?_, fun h => absurd ((q).symm.trans h) (by decide)⟩ | refine ⟨fun h => absurd ((q).symm.trans h) (by decide), fun _ => ?_⟩ | ((with_reducible refine is_EF9 ?_); first | refine ⟨_, o9_read ha, ?_⟩ | refine ⟨_, o9_reduce ha, ?_⟩ | refine ⟨_, f1, ?_⟩ | refine ⟨_, f2, ?_⟩ | refine ⟨_, f3, ?_⟩ | refine ⟨_, f4, ?_⟩) | refine ⟨_, rfl, ?_⟩ | refine ⟨by decide, ?_⟩ | refine ⟨rfl, ?_⟩ | refine ⟨fun h => absurd h (by decide), fun _ => ?_⟩); conv => whnf))
      rfl
    · rw [decide_eq_false h] at q
      rw [if_neg h]
      refine execF_ok follows_ok EF9_ok Tryz.func78 ?_
      ((conv => whnf); repeat ((first | refine ⟨fun _ => ?_, fun h => absurd ((q).symm.trans h) (by decide)⟩ | refine ⟨fun h => absurd ((q).symm.trans h) (by decide), fun _ => ?_⟩ | ((with_reducible refine is_EF9 ?_); first | refine ⟨_, o9_read ha, ?_⟩ | refine ⟨_, o9_reduce ha, ?_⟩ | refine ⟨_, f1, ?_⟩ | refine ⟨_, f2, ?_⟩ | refine ⟨_, f3, ?_⟩ | refine ⟨_, f4, ?_⟩) | refine ⟨_, rfl, ?_⟩ | refine ⟨by decide, ?_⟩ | refine ⟨rfl, ?_⟩ | refine ⟨fun h => absurd h (by decide), fun _ => ?_⟩); conv => whnf))
      rfl
/-! Wide -/
def wideR (N : Nat) (b : List Int) : LRes := if 64 < N then .many [.val (F 0), .val (iv .i64 1)] else .many [.val (F (nb b % qQ)), .val (iv .i64 0)]
theorem sh8i (i : Nat) : (IntKind.i64.wrap (8 * (i : Int).tmod 8)).toNat = 8 * (i % 8) := by
  rw [show (8 : Int) = ((8 : Nat) : Int) from rfl, tmod_nat, wrap64 (by omega)]
  omega
theorem sh8inn (i : Nat) : 0 ≤ IntKind.i64.wrap (8 * (i : Int).tmod 8) := by
  rw [show (8 : Int) = ((8 : Nat) : Int) from rfl, tmod_nat, wrap64 (by omega)]
  omega
set_option exponentiation.threshold 600 in
set_option maxRecDepth 100000 in
set_option maxHeartbeats 1600000 in
theorem pWide_exec (N : Nat) (c : Option Nat) (b : List Int) (hN : b.length = N) (hb : By b) : execF EF8 Tryz.f31 [.im 1 N c (.flat .u8 b)] (wideR N b) := by
  unfold wideR
  by_cases h64 : 64 < N
  · have q : decide ((N : Int) > 64) = true := decide_eq_true (by omega)
    rw [if_pos h64, F_zero]
    ((conv => whnf); repeat ((first | refine ⟨fun _ => ?_, fun h => absurd ((q).symm.trans h) (by decide)⟩ | refine ⟨fun h => absurd ((q).symm.trans h) (by decide), fun _ => ?_⟩ | refine ⟨_, rfl, ?_⟩ | refine ⟨by decide, ?_⟩ | refine ⟨rfl, ?_⟩); conv => whnf))
    rfl
  have q : decide ((N : Int) > 64) = false := decide_eq_false (by omega)
  rw [if_neg h64]
  obtain ⟨n, en⟩ : ∃ n, n = nb b := ⟨_, rfl⟩
  have hlt : n < 2 ^ (8 * N) := by rw [en, ← pow256, ← hN]; exact nb_lt hb
  have hn : n < 2 ^ 512 := Nat.lt_of_lt_of_le hlt (Nat.pow_le_pow_right (by omega) (by omega))
  rw [← en]
  ((conv => whnf); repeat ((first | refine ⟨fun _ => ?_, fun h => absurd ((q).symm.trans h) (by decide)⟩ | refine ⟨fun h => absurd ((q).symm.trans h) (by decide), fun _ => ?_⟩); conv => whnf))
  refine .inl ⟨fun m st => ∃ (i : Nat) (o : List Int), m = N - i ∧ i ≤ N ∧ o = wd8 (n % 2 ^ (8 * i)) ∧ st = ⟨[.poison, .poison, .ptr 16 0, .poison, .ptr 32 0, .poison, .poison, .poison, .poison, .poison, .poison, .im 1 N c (.flat .u8 b), iv .i64 N, iv .i64 i, .poison, .poison, .poison, .poison, .poison, .poison, .poison, .poison, .poison, .poison, .poison, .poison, .poison, .poison, .poison, .poison, .poison, .poison, .poison, .poison],
      [(16, ⟨.flat .u8 (List.replicate 32 0), 23, false⟩), (32, ⟨.flat .u64 o, 87, false⟩)]⟩,
      ⟨[0, 1, 3, 5, 6, 7, 8, 9, 10, 14, 15, 16, 17, 18, 19, 20, 21, 22, 23, 24, 25, 26, 27, 28, 29, 30, 31, 32, 33], [], N, 0, [0, 0, 0, 0, 0, 0, 0, 0], rfl, by omega, by rw [Nat.mul_zero, Nat.pow_zero, Nat.mod_one]; kernel_rfl, by kernel_rfl⟩, ?_⟩
  rintro _ _ ⟨i, o, rfl, hi, ho, rfl⟩
  have hol : o.length = 8 := by rw [ho]; rfl
  conv => whnf
  refine ⟨fun h => ?_, fun h => ?_⟩
  · have h := of_decide_eq_true h
    have hiN : i < N := by omega
    have e1 := tdiv8 i (by omega)
    have e2 := up1 i (by omega)
    have e3 : o.set (i / 8) (bits .or .u64 (g o (i / 8)) (IntKind.u64.wrap (IntKind.u64.wrap (g b i) * 2 ^ min (IntKind.i64.wrap (8 * (i : Int).tmod 8)).toNat IntKind.u64.bits))) = wd8 (n % 2 ^ (8 * (i + 1))) := by
      have hb : IntKind.u64.wrap (g b i) = bt n i := by
        have e := nb_bt hb (i := i) (by omega)
        rw [← en] at e
        rw [e, IntKind.wrap_u64]
        have := bt_byte n i
        omega
      rw [hb, sh8i, min64 (by omega) _ (.inl rfl), ho]
      exact load_step8 n i (by omega)
    ((conv => whnf); repeat ((first | refine ⟨sh8inn i, ?_⟩ | refine ⟨by decide, ?_⟩ | refine ⟨rfl, ?_⟩ | refine ⟨inI_of (by omega), ?_⟩ | (apply Exists.intro; refine ⟨?_, ?_⟩; ((try simp only); (try simp only [e1]); (try simp only [Nat.zero_add]); (try simp only [Nat.mul_one]); (try simp only [Int.toNat_natCast]); (try simp only [e1]); (try simp only [Nat.zero_add]); (try simp only [Nat.mul_one]); (try simp only [Int.toNat_natCast]); first | exact at_g (by omega) | exact put_flat (by omega))) | refine ⟨⟨rfl, inI_of (by omega), by decide⟩, ?_⟩ | (apply Exists.intro; refine ⟨?_, ?_⟩; ((try simp only); (try simp only [e1]); (try simp only [Nat.zero_add]); (try simp only [Nat.mul_one]); (try simp only [Int.toNat_natCast]); (try simp only [e1]); (try simp only [Nat.zero_add]); (try simp only [Nat.mul_one]); (try simp only [Int.toNat_natCast]); first | exact at_drop_g (by omega) | exact cut_rest (by omega)))); conv => whnf))
    refine ⟨[0, 1, 3, 5, 6, 7, 8, 9, 10, 14, 15, 16, 17, 18, 19, 20, 21, 22, 23, 24, 25, 26, 27, 28, 29, 30, 31, 32, 33], [], N - (i + 1), ?_, i + 1, wd8 (n % 2 ^ (8 * (i + 1))), rfl, by omega, rfl, ?_⟩
    · omega
    · rw [← e2, ← e3]; kernel_rfl
  · have h := of_decide_eq_false h
    have hi' : i = N := by omega
    have e4 : o = wd8 n := by rw [ho, hi', Nat.mod_eq_of_lt hlt]
    subst e4
    ((conv => whnf); repeat ((first | ((with_reducible refine is_EF8 ?_); first | refine ⟨_, o_remainder hn, ?_⟩ | refine ⟨_, o_write (qmod_lt _), ?_⟩) | refine ⟨_, rfl, ?_⟩ | refine ⟨rfl, ?_⟩); conv => whnf))
    rfl
theorem pWide_call (N : Nat) (c : Option Nat) (b : List Int) (hN : b.length = N) (hb : By b) : CallOk Tryz.prog 31 [.im 1 N c (.flat .u8 b)] (wideR N b) := execF_ok follows_ok EF8_ok Tryz.func31 (pWide_exec N c b hN hb)
end Go.Proofs.YtdeigmjbcbjgeaaGreatDoor
