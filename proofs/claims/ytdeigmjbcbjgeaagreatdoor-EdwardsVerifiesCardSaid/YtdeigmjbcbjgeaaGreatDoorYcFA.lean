import Derived.Test.YtdeigmjbcbjgeaaGreatDoorYcF8
import Derived.Laws.BitsAllLaws
import Derived.Test.YtdeigmjbcbjgeaaGreatDoorYcFB
namespace Go.Proofs.YtdeigmjbcbjgeaaGreatDoor
open Go.RowKit
def e1P : Nat := 2 ^ 252 - 2
def e2P : Nat := 2 ^ 253 - 5
def e3P : Nat := 2 ^ 255 - 21
theorem e1P_lt : e1P < 2 ^ 256 := by unfold e1P; omega
theorem e2P_lt : e2P < 2 ^ 256 := by unfold e2P; omega
theorem e3P_lt : e3P < 2 ^ 256 := by unfold e3P; omega
theorem beq_wd {a b : Nat} (ha : a < 2 ^ 256) (hb : b < 2 ^ 256) : (wd a == wd b) = decide (a = b) := by
 by_cases h : a = b
 ·rw [h, decide_eq_true rfl]; simp
 ·rw [decide_eq_false h]
  simp only [beq_eq_false_iff_ne, ne_eq]
  exact fun e => h (wd_inj ha hb e)
theorem beq_by {a b : Nat} (ha : a < 2 ^ 256) (hb : b < 2 ^ 256) : (by32 a == by32 b) = decide (a = b) := by
 by_cases h : a = b
 ·rw [h, decide_eq_true rfl]; simp
 ·rw [decide_eq_false h]
  simp only [beq_eq_false_iff_ne, ne_eq]
  exact fun e => h (by32_inj ha hb e)
def rootP (x : Nat) : Nat × Bool :=
 if pw x e1P * pw x e1P % pP = x then (pw x e1P, true) else (pw x e1P * pw 2 e2P % pP, decide (pw x e1P * pw 2 e2P % pP * (pw x e1P * pw 2 e2P % pP) % pP = x))
theorem rootP_lt (x : Nat) : (rootP x).1 < 2 ^ 256 := by
 unfold rootP
 split
 ·exact pw_lt x e1P
 ·exact mod_lt256 (pw x e1P * pw 2 e2P)
theorem power_row {a b : List Int} (hc : isW a = true ∧ isW b = true) : CallOk Tryz.prog 86 [.agg (.flat .u64 a), .agg (.flat .u64 b)] (ret1 (W (pw (vl a) (vl b)))) := by
 obtain ⟨h0, h1⟩ := hc
 have e0 := isW_eq h0
 have l0 := vl_lt h0
 clear h0
 generalize vl a = n0 at *
 subst e0
 have e1 := isW_eq h1
 have l1 := vl_lt h1
 clear h1
 generalize vl b = n1 at *
 subst e1
 exact power_call n0 n1 l0 l1
theorem remainder_row {a : List Int} (hc : isW8 a = true) : CallOk Tryz.prog 67 [.agg (.flat .u64 a)] (ret1 (W ((vl a) % qQ))) := by
 have h0 := hc
 clear hc
 have e0 := isW8_eq h0
 have l0 := vl8_lt h0
 clear h0
 generalize vl a = n0 at *
 subst e0
 exact remainder_call n0 l0
theorem add_row {a b : List Int} (hc : isW a = true ∧ isW b = true) : CallOk Tryz.prog 109 [.agg (.flat .u64 a), .agg (.flat .u64 b)] (ret1 (W (((vl a) + (vl b)) % pP))) := by
 obtain ⟨h0, h1⟩ := hc
 have e0 := isW_eq h0
 have l0 := vl_lt h0
 clear h0
 generalize vl a = n0 at *
 subst e0
 have e1 := isW_eq h1
 have l1 := vl_lt h1
 clear h1
 generalize vl b = n1 at *
 subst e1
 exact add_call n0 n1 l0 l1
theorem negative_row {a : List Int} (hc : isW a = true) : CallOk Tryz.prog 112 [.agg (.flat .u64 a)] (ret1 (W (pP - (vl a) % pP))) := by
 have h0 := hc
 clear hc
 have e0 := isW_eq h0
 have l0 := vl_lt h0
 clear h0
 generalize vl a = n0 at *
 subst e0
 exact negative_call n0 l0
theorem read_row {a : List Int} (hc : isF a = true) : CallOk Tryz.prog 85 [.agg (.flat .u8 a)] (ret1 (W (nb a))) := by
 have h0 := hc
 clear hc
 have e0 := isF_eq h0
 have l0 := nb32_lt h0
 clear h0
 generalize nb a = n0 at *
 subst e0
 exact read_call n0 l0
theorem write_row {a : List Int} (hc : isW a = true) : CallOk Tryz.prog 66 [.agg (.flat .u64 a)] (ret1 (F (vl a))) := by
 have h0 := hc
 clear hc
 have e0 := isW_eq h0
 have l0 := vl_lt h0
 clear h0
 generalize vl a = n0 at *
 subst e0
 exact write_call n0 l0
def orcF8 (f : Nat) (ds : List LV) : Option LRes :=
 match f with
 | 86 => match ds with
  | [.agg (.flat .u64 a), .agg (.flat .u64 b)] => if isW a = true ∧ isW b = true then some (ret1 (W (pw (vl a) (vl b)))) else none
  | _ => none
 | 67 => match ds with
  | [.agg (.flat .u64 a)] => if isW8 a = true then some (ret1 (W ((vl a) % qQ))) else none
  | _ => none
 | 111 => match ds with
  | [.agg (.flat .u64 a)] => if isW a = true then some (ret1 (W ((vl a) % pP))) else none
  | _ => none
 | 109 => match ds with
  | [.agg (.flat .u64 a), .agg (.flat .u64 b)] => if isW a = true ∧ isW b = true then some (ret1 (W (((vl a) + (vl b)) % pP))) else none
  | _ => none
 | 112 => match ds with
  | [.agg (.flat .u64 a)] => if isW a = true then some (ret1 (W (pP - (vl a) % pP))) else none
  | _ => none
 | 85 => match ds with
  | [.agg (.flat .u8 a)] => if isF a = true then some (ret1 (W (nb a))) else none
  | _ => none
 | 66 => match ds with
  | [.agg (.flat .u64 a)] => if isW a = true then some (ret1 (F (vl a))) else none
  | _ => none
 | _ => orcF7 f ds
theorem orcF8_ok : Known Tryz.prog orcF8 := by
 intro f ds r h
 unfold orcF8 at h
 split at h
 ·split at h
  ·split at h
   ·rename_i hc
    cases h
    exact .inl ⟨⟨_, Tryz.func86, name_ne _ (by kernel_rfl), rfl⟩, power_row hc⟩
   ·cases h
  ·cases h
 ·split at h
  ·split at h
   ·rename_i hc
    cases h
    exact .inl ⟨⟨_, Tryz.func67, name_ne _ (by kernel_rfl), rfl⟩, remainder_row hc⟩
   ·cases h
  ·cases h
 ·split at h
  ·split at h
   ·rename_i hc
    cases h
    exact .inl ⟨⟨_, Tryz.func111, name_ne _ (by kernel_rfl), rfl⟩, reduce_row hc⟩
   ·cases h
  ·cases h
 ·split at h
  ·split at h
   ·rename_i hc
    cases h
    exact .inl ⟨⟨_, Tryz.func109, name_ne _ (by kernel_rfl), rfl⟩, add_row hc⟩
   ·cases h
  ·cases h
 ·split at h
  ·split at h
   ·rename_i hc
    cases h
    exact .inl ⟨⟨_, Tryz.func112, name_ne _ (by kernel_rfl), rfl⟩, negative_row hc⟩
   ·cases h
  ·cases h
 ·split at h
  ·split at h
   ·rename_i hc
    cases h
    exact .inl ⟨⟨_, Tryz.func85, name_ne _ (by kernel_rfl), rfl⟩, read_row hc⟩
   ·cases h
  ·cases h
 ·split at h
  ·split at h
   ·rename_i hc
    cases h
    exact .inl ⟨⟨_, Tryz.func66, name_ne _ (by kernel_rfl), rfl⟩, write_row hc⟩
   ·cases h
  ·cases h
 ·exact orcF7_ok f ds r h
def EF8 : Env := ⟨tyL, orcF8, false, noWk, noOrw⟩
theorem EF8_ok : EnvOk Tryz.prog EF8 := ⟨tyL_ok, orcF8_ok, noOrw_ok⟩
theorem is_EF8 {f : Nat} {ds : List LV} {K : LRes → Prop} (h : ∃ y, EF8.orc f ds = some y ∧ K y) : ∃ y, EF8.orc f ds = some y ∧ K y := h
theorem o_power {a b : Nat} (ha : a < 2 ^ 256) (hb : b < 2 ^ 256) : EF8.orc 86 [W a, W b] = some (ret1 (W (pw a b))) :=
 (if_pos ⟨isW_wd ha, isW_wd hb⟩).trans (by rw [wd_vl _ ha, wd_vl _ hb])
theorem o_remainder {a : Nat} (ha : a < 2 ^ 512) : EF8.orc 67 [W8 a] = some (ret1 (W (a % qQ))) :=
 (if_pos (isW8_wd ha)).trans (by rw [wd8_vl _ ha])
theorem o8_reduce {a : Nat} (ha : a < 2 ^ 256) : EF8.orc 111 [W a] = some (ret1 (W (a % pP))) :=
 (if_pos (isW_wd ha)).trans (by rw [wd_vl _ ha])
theorem o_add {a b : Nat} (ha : a < 2 ^ 256) (hb : b < 2 ^ 256) : EF8.orc 109 [W a, W b] = some (ret1 (W ((a + b) % pP))) :=
 (if_pos ⟨isW_wd ha, isW_wd hb⟩).trans (by rw [wd_vl _ ha, wd_vl _ hb])
theorem o_negative {a : Nat} (ha : a < 2 ^ 256) : EF8.orc 112 [W a] = some (ret1 (W (pP - a % pP))) :=
 (if_pos (isW_wd ha)).trans (by rw [wd_vl _ ha])
set_option maxRecDepth 100000 in
theorem o_read {a : Nat} (ha : a < 2 ^ 256) : EF8.orc 85 [F a] = some (ret1 (W a)) :=
 (if_pos (isF_by _)).trans (by rw [nb_by32 ha])
theorem o_write {a : Nat} (ha : a < 2 ^ 256) : EF8.orc 66 [W a] = some (ret1 (F a)) :=
 (if_pos (isW_wd ha)).trans (by rw [wd_vl _ ha])
theorem o8_mul {a b : Nat} (ha : a < 2 ^ 256) (hb : b < 2 ^ 256) : EF8.orc 84 [W a, W b] = some (ret1 (W (a * b % pP))) := o_mul ha hb
theorem o8_product {a b c : Nat} (ha : a < 2 ^ 256) (hb : b < 2 ^ 256) (hc : c < 2 ^ 256) : EF8.orc 94 [W a, W b, W c] = some (ret1 (W8 (a * b + c))) := o_product ha hb hc
theorem o8_less {a b : Nat} (ha : a < 2 ^ 256) (hb : b < 2 ^ 256) : EF8.orc 107 [W a, W b] = some (ret1 (.v (.bool (decide (a < b))))) := o_less ha hb
theorem o8_prime : EF8.orc 108 [] = some (ret1 (W pP)) := rfl
theorem o8_below1 : EF8.orc 87 [iv .i64 252, iv .u64 2] = some (ret1 (W e1P)) := by kernel_rfl
theorem o8_below2 : EF8.orc 87 [iv .i64 253, iv .u64 5] = some (ret1 (W e2P)) := by kernel_rfl
theorem o8_below3 : EF8.orc 87 [iv .i64 255, iv .u64 21] = some (ret1 (W e3P)) := by kernel_rfl
theorem W_two : W 2 = .agg (.flat .u64 [2, 0, 0, 0]) := by kernel_rfl
set_option maxRecDepth 100000 in
set_option maxHeartbeats 1600000 in
theorem root_call (a : Nat) (ha : a < 2 ^ 256) : CallOk Tryz.prog 110 [W a] (.many [.val (W (rootP a).1), .val (.v (.bool (rootP a).2))]) := by
 have f1 := o_power ha e1P_lt
 have f2 := o8_mul (pw_lt a e1P) (pw_lt a e1P)
 have f3 := o_power (a := 2) (by decide) e2P_lt
 rw [W_two] at f3
 have f4 := o8_mul (pw_lt a e1P) (pw_lt 2 e2P)
 have f5 := o8_mul (mod_lt256 (pw a e1P * pw 2 e2P)) (mod_lt256 (pw a e1P * pw 2 e2P))
 have b1 := beq_wd (mod_lt256 (pw a e1P * pw a e1P)) ha
 have b2 := beq_wd (mod_lt256 (pw a e1P * pw 2 e2P % pP * (pw a e1P * pw 2 e2P % pP))) ha
 by_cases h : pw a e1P * pw a e1P % pP = a
 ·rw [decide_eq_true h] at b1
  rw [rootP, if_pos h]
  refine execF_ok follows_ok EF8_ok Tryz.func110 ?_
  ((conv => whnf); repeat ((first | refine ⟨fun _ => ?_, fun h => absurd ((b1).symm.trans h) (by decide)⟩ | refine ⟨fun h => absurd ((b1).symm.trans h) (by decide), fun _ => ?_⟩ | ((with_reducible refine is_EF8 ?_); first | refine ⟨_, o8_below1, ?_⟩ | refine ⟨_, o8_below2, ?_⟩ | refine ⟨_, f1, ?_⟩ | refine ⟨_, f2, ?_⟩ | refine ⟨_, f3, ?_⟩ | refine ⟨_, f4, ?_⟩ | refine ⟨_, f5, ?_⟩) | refine ⟨_, rfl, ?_⟩ | refine ⟨by decide, ?_⟩ | refine ⟨rfl, ?_⟩); conv => whnf))
  rfl
 ·rw [decide_eq_false h] at b1
  rw [rootP, if_neg h, ← b2]
  refine execF_ok follows_ok EF8_ok Tryz.func110 ?_
  ((conv => whnf); repeat ((first | refine ⟨fun _ => ?_, fun h => absurd ((b1).symm.trans h) (by decide)⟩ | refine ⟨fun h => absurd ((b1).symm.trans h) (by decide), fun _ => ?_⟩ | ((with_reducible refine is_EF8 ?_); first | refine ⟨_, o8_below1, ?_⟩ | refine ⟨_, o8_below2, ?_⟩ | refine ⟨_, f1, ?_⟩ | refine ⟨_, f2, ?_⟩ | refine ⟨_, f3, ?_⟩ | refine ⟨_, f4, ?_⟩ | refine ⟨_, f5, ?_⟩) | refine ⟨_, rfl, ?_⟩ | refine ⟨by decide, ?_⟩ | refine ⟨rfl, ?_⟩); conv => whnf))
  rfl
theorem root_row {a : List Int} (hc : isW a = true) : CallOk Tryz.prog 110 [.agg (.flat .u64 a)] (.many [.val (W (rootP (vl a)).1), .val (.v (.bool (rootP (vl a)).2))]) := by
 have h0 := hc
 clear hc
 have e0 := isW_eq h0
 have l0 := vl_lt h0
 clear h0
 generalize vl a = n0 at *
 subst e0
 exact root_call n0 l0
def orcF9 (f : Nat) (ds : List LV) : Option LRes :=
 match f with
 | 110 => match ds with
  | [.agg (.flat .u64 a)] => if isW a = true then some (.many [.val (W (rootP (vl a)).1), .val (.v (.bool (rootP (vl a)).2))]) else none
  | _ => none
 | _ => orcF8 f ds
theorem orcF9_ok : Known Tryz.prog orcF9 := by
 intro f ds r h
 unfold orcF9 at h
 split at h
 ·split at h
  ·split at h
   ·rename_i hc
    cases h
    exact .inl ⟨⟨_, Tryz.func110, name_ne _ (by kernel_rfl), rfl⟩, root_row hc⟩
   ·cases h
  ·cases h
 ·exact orcF8_ok f ds r h
def EF9 : Env := ⟨tyL, orcF9, false, noWk, noOrw⟩
theorem EF9_ok : EnvOk Tryz.prog EF9 := ⟨tyL_ok, orcF9_ok, noOrw_ok⟩
theorem is_EF9 {f : Nat} {ds : List LV} {K : LRes → Prop} (h : ∃ y, EF9.orc f ds = some y ∧ K y) : ∃ y, EF9.orc f ds = some y ∧ K y := h
theorem o_root {a : Nat} (ha : a < 2 ^ 256) : EF9.orc 110 [W a] = some (.many [.val (W (rootP a).1), .val (.v (.bool (rootP a).2))]) :=
 (if_pos (isW_wd ha)).trans (by rw [wd_vl _ ha])
theorem o9_read {a : Nat} (ha : a < 2 ^ 256) : EF9.orc 85 [F a] = some (ret1 (W a)) := (show EF9.orc 85 [F a] = EF8.orc 85 [F a] from rfl).trans (o_read ha)
theorem o9_write {a : Nat} (ha : a < 2 ^ 256) : EF9.orc 66 [W a] = some (ret1 (F a)) := (show EF9.orc 66 [W a] = EF8.orc 66 [W a] from rfl).trans (o_write ha)
theorem o9_reduce {a : Nat} (ha : a < 2 ^ 256) : EF9.orc 111 [W a] = some (ret1 (W (a % pP))) := (show EF9.orc 111 [W a] = EF8.orc 111 [W a] from rfl).trans (o8_reduce ha)
theorem o9_negative {a : Nat} (ha : a < 2 ^ 256) : EF9.orc 112 [W a] = some (ret1 (W (pP - a % pP))) := (show EF9.orc 112 [W a] = EF8.orc 112 [W a] from rfl).trans (o_negative ha)
set_option maxRecDepth 100000 in
set_option maxHeartbeats 1600000 in
theorem pCanonical_call (a : Nat) (ha : a < 2 ^ 256) : CallOk Tryz.prog 75 [F a] (ret1 (.v (.bool (decide (a < pP))))) := by
 refine execF_ok follows_ok EF8_ok Tryz.func75 ?_
 ((conv => whnf); repeat ((first | ((with_reducible refine is_EF8 ?_); first | refine ⟨_, o_read ha, ?_⟩ | refine ⟨_, o8_prime, ?_⟩ | refine ⟨_, o8_less ha pP_lt, ?_⟩) | refine ⟨_, rfl, ?_⟩ | refine ⟨by decide, ?_⟩ | refine ⟨rfl, ?_⟩); conv => whnf))
 rfl
set_option maxRecDepth 100000 in
set_option maxHeartbeats 1600000 in
theorem pAdd_call (a b : Nat) (ha : a < 2 ^ 256) (hb : b < 2 ^ 256) : CallOk Tryz.prog 77 [F a, F b] (ret1 (F ((a + b) % pP))) := by
 refine execF_ok follows_ok EF8_ok Tryz.func77 ?_
 ((conv => whnf); repeat ((first | ((with_reducible refine is_EF8 ?_); first | refine ⟨_, o_read ha, ?_⟩ | refine ⟨_, o_read hb, ?_⟩ | refine ⟨_, o_add ha hb, ?_⟩ | refine ⟨_, o_write (mod_lt256 _), ?_⟩) | refine ⟨_, rfl, ?_⟩ | refine ⟨by decide, ?_⟩ | refine ⟨rfl, ?_⟩); conv => whnf))
 rfl
set_option maxRecDepth 100000 in
set_option maxHeartbeats 1600000 in
theorem pMul_call (a b : Nat) (ha : a < 2 ^ 256) (hb : b < 2 ^ 256) : CallOk Tryz.prog 45 [F a, F b] (ret1 (F (a * b % pP))) := by
 refine execF_ok follows_ok EF8_ok Tryz.func45 ?_
 ((conv => whnf); repeat ((first | ((with_reducible refine is_EF8 ?_); first | refine ⟨_, o_read ha, ?_⟩ | refine ⟨_, o_read hb, ?_⟩ | refine ⟨_, o8_mul ha hb, ?_⟩ | refine ⟨_, o_write (mod_lt256 _), ?_⟩) | refine ⟨_, rfl, ?_⟩ | refine ⟨by decide, ?_⟩ | refine ⟨rfl, ?_⟩); conv => whnf))
 rfl
theorem neg_lt (n : Nat) : pP - n % pP < 2 ^ 256 := Nat.lt_of_le_of_lt (Nat.sub_le _ _) pP_lt
set_option maxRecDepth 100000 in
set_option maxHeartbeats 1600000 in
theorem pSub_call (a b : Nat) (ha : a < 2 ^ 256) (hb : b < 2 ^ 256) : CallOk Tryz.prog 79 [F a, F b] (ret1 (F ((a + (pP - b % pP)) % pP))) := by
 refine execF_ok follows_ok EF8_ok Tryz.func79 ?_
 ((conv => whnf); repeat ((first | ((with_reducible refine is_EF8 ?_); first | refine ⟨_, o_read ha, ?_⟩ | refine ⟨_, o_read hb, ?_⟩ | refine ⟨_, o_negative hb, ?_⟩ | refine ⟨_, o_add ha (neg_lt b), ?_⟩ | refine ⟨_, o_write (mod_lt256 _), ?_⟩) | refine ⟨_, rfl, ?_⟩ | refine ⟨by decide, ?_⟩ | refine ⟨rfl, ?_⟩); conv => whnf))
 rfl
set_option maxRecDepth 100000 in
set_option maxHeartbeats 1600000 in
theorem pInv_call (a : Nat) (ha : a < 2 ^ 256) : CallOk Tryz.prog 46 [F a] (ret1 (F (pw a e3P))) := by
 refine execF_ok follows_ok EF8_ok Tryz.func46 ?_
 ((conv => whnf); repeat ((first | ((with_reducible refine is_EF8 ?_); first | refine ⟨_, o_read ha, ?_⟩ | refine ⟨_, o8_below3, ?_⟩ | refine ⟨_, o_power ha e3P_lt, ?_⟩ | refine ⟨_, o_write (pw_lt _ _), ?_⟩) | refine ⟨_, rfl, ?_⟩ | refine ⟨by decide, ?_⟩ | refine ⟨rfl, ?_⟩); conv => whnf))
 rfl
theorem qmod_lt (n : Nat) : n % qQ < 2 ^ 256 := Nat.lt_trans (Nat.mod_lt n qQ_pos) (by unfold qQ; omega)
set_option exponentiation.threshold 600 in
theorem muladd_lt {a b c : Nat} (ha : a < 2 ^ 256) (hb : b < 2 ^ 256) (hc : c < 2 ^ 256) : a * b + c < 2 ^ 512 := by
 have h : a * b ≤ (2 ^ 256 - 1) * (2 ^ 256 - 1) := Nat.mul_le_mul (by omega) (by omega)
 omega
set_option maxRecDepth 100000 in
set_option maxHeartbeats 1600000 in
theorem pMulAdd_call (a b c : Nat) (ha : a < 2 ^ 256) (hb : b < 2 ^ 256) (hc : c < 2 ^ 256) : CallOk Tryz.prog 55 [F a, F b, F c] (ret1 (F ((a * b + c) % qQ))) := by
 refine execF_ok follows_ok EF8_ok Tryz.func55 ?_
 ((conv => whnf); repeat ((first | ((with_reducible refine is_EF8 ?_); first | refine ⟨_, o_read ha, ?_⟩ | refine ⟨_, o_read hb, ?_⟩ | refine ⟨_, o_read hc, ?_⟩ | refine ⟨_, o8_product ha hb hc, ?_⟩ | refine ⟨_, o_remainder (muladd_lt ha hb hc), ?_⟩ | refine ⟨_, o_write (qmod_lt _), ?_⟩) | refine ⟨_, rfl, ?_⟩ | refine ⟨by decide, ?_⟩ | refine ⟨rfl, ?_⟩); conv => whnf))
 rfl
def sqrtP (x : Nat) : Nat × Bool := if (rootP (x % pP)).2 then (if (rootP (x % pP)).1 % 2 = 1 then pP - (rootP (x % pP)).1 % pP else (rootP (x % pP)).1, true) else (0, false)
theorem sqrtP_lt (x : Nat) : (sqrtP x).1 < 2 ^ 256 := by
 unfold sqrtP
 split
 ·simp only
  split
  ·exact neg_lt _
  ·exact rootP_lt _
 ·decide
theorem odd_q (r : Nat) : ((dg r 0).tmod 2 == 1) = decide (r % 2 = 1) := by
 rw [(dg_lit r).1, show (2 : Int) = ((2 : Nat) : Int) from rfl, tmod_nat]
 have e : r % 18446744073709551616 % 2 = r % 2 := by omega
 rw [e]
 have : r % 2 = 0 ∨ r % 2 = 1 := by omega
 rcases this with h | h <;> rw [h] <;> rfl
theorem F_zero : F 0 = .agg (.flat .u8 (List.replicate 32 0)) := by kernel_rfl
set_option maxRecDepth 100000 in
set_option maxHeartbeats 1600000 in
theorem pSqrt_call (a : Nat) (ha : a < 2 ^ 256) : CallOk Tryz.prog 78 [F a] (.many [.val (F (sqrtP a).1), .val (.v (.bool (sqrtP a).2))]) := by
 have f1 := o_root (mod_lt256 a)
 have f2 := o9_write (rootP_lt (a % pP))
 have f3 := o9_negative (rootP_lt (a % pP))
 have f4 := o9_write (neg_lt (rootP (a % pP)).1)
 have q := odd_q (rootP (a % pP)).1
 unfold sqrtP
 generalize rootP (a % pP) = r at *
 obtain ⟨r, k⟩ := r
 dsimp only at *
 cases k with
 | false =>
  rw [if_neg (by decide), F_zero]
  refine execF_ok follows_ok EF9_ok Tryz.func78 ?_
  ((conv => whnf); repeat ((first | ((with_reducible refine is_EF9 ?_); first | refine ⟨_, o9_read ha, ?_⟩ | refine ⟨_, o9_reduce ha, ?_⟩ | refine ⟨_, f1, ?_⟩) | refine ⟨_, rfl, ?_⟩ | refine ⟨by decide, ?_⟩ | refine ⟨rfl, ?_⟩ | refine ⟨fun _ => ?_, fun h => absurd h (by decide)⟩); conv => whnf))
  rfl
 | true =>
  rw [if_pos rfl]
  by_cases h : r % 2 = 1
  ·rw [decide_eq_true h] at q
   rw [if_pos h]
   refine execF_ok follows_ok EF9_ok Tryz.func78 ?_
   ((conv => whnf); repeat ((first | refine ⟨fun _ => ?_, fun h => absurd ((q).symm.trans h) (by decide)⟩ | refine ⟨fun h => absurd ((q).symm.trans h) (by decide), fun _ => ?_⟩ | ((with_reducible refine is_EF9 ?_); first | refine ⟨_, o9_read ha, ?_⟩ | refine ⟨_, o9_reduce ha, ?_⟩ | refine ⟨_, f1, ?_⟩ | refine ⟨_, f2, ?_⟩ | refine ⟨_, f3, ?_⟩ | refine ⟨_, f4, ?_⟩) | refine ⟨_, rfl, ?_⟩ | refine ⟨by decide, ?_⟩ | refine ⟨rfl, ?_⟩ | refine ⟨fun h => absurd h (by decide), fun _ => ?_⟩); conv => whnf))
   rfl
  ·rw [decide_eq_false h] at q
   rw [if_neg h]
   refine execF_ok follows_ok EF9_ok Tryz.func78 ?_
   ((conv => whnf); repeat ((first | refine ⟨fun _ => ?_, fun h => absurd ((q).symm.trans h) (by decide)⟩ | refine ⟨fun h => absurd ((q).symm.trans h) (by decide), fun _ => ?_⟩ | ((with_reducible refine is_EF9 ?_); first | refine ⟨_, o9_read ha, ?_⟩ | refine ⟨_, o9_reduce ha, ?_⟩ | refine ⟨_, f1, ?_⟩ | refine ⟨_, f2, ?_⟩ | refine ⟨_, f3, ?_⟩ | refine ⟨_, f4, ?_⟩) | refine ⟨_, rfl, ?_⟩ | refine ⟨by decide, ?_⟩ | refine ⟨rfl, ?_⟩ | refine ⟨fun h => absurd h (by decide), fun _ => ?_⟩); conv => whnf))
   rfl
def wideR (N : Nat) (b : List Int) : LRes := if 64 < N then .many [.val (F 0), .val (iv .i64 1)] else .many [.val (F (nb b % qQ)), .val (iv .i64 0)]
theorem sh8i (i : Nat) : (IntKind.i64.wrap (8 * (i : Int).tmod 8)).toNat = 8 * (i % 8) := by
 rw [show (8 : Int) = ((8 : Nat) : Int) from rfl, tmod_nat, wrap64 (by omega)]
 omega
theorem sh8inn (i : Nat) : 0 ≤ IntKind.i64.wrap (8 * (i : Int).tmod 8) := by
 rw [show (8 : Int) = ((8 : Nat) : Int) from rfl, tmod_nat, wrap64 (by omega)]
 omega
set_option exponentiation.threshold 600 in
set_option maxRecDepth 100000 in
set_option maxHeartbeats 1600000 in
theorem pWide_exec (N : Nat) (c : Option Nat) (b : List Int) (hN : b.length = N) (hb : By b) : execF EF8 Tryz.f31 [.im 1 N c (.flat .u8 b)] (wideR N b) := by
 unfold wideR
 by_cases h64 : 64 < N
 ·have q : decide ((N : Int) > 64) = true := decide_eq_true (by omega)
  rw [if_pos h64, F_zero]
  ((conv => whnf); repeat ((first | refine ⟨fun _ => ?_, fun h => absurd ((q).symm.trans h) (by decide)⟩ | refine ⟨fun h => absurd ((q).symm.trans h) (by decide), fun _ => ?_⟩ | refine ⟨_, rfl, ?_⟩ | refine ⟨by decide, ?_⟩ | refine ⟨rfl, ?_⟩); conv => whnf))
  rfl
 have q : decide ((N : Int) > 64) = false := decide_eq_false (by omega)
 rw [if_neg h64]
 obtain ⟨n, en⟩ : ∃ n, n = nb b := ⟨_, rfl⟩
 have hlt : n < 2 ^ (8 * N) := by rw [en, ← pow256, ← hN]; exact nb_lt hb
 have hn : n < 2 ^ 512 := Nat.lt_of_lt_of_le hlt (Nat.pow_le_pow_right (by omega) (by omega))
 rw [← en]
 ((conv => whnf); repeat ((first | refine ⟨fun _ => ?_, fun h => absurd ((q).symm.trans h) (by decide)⟩ | refine ⟨fun h => absurd ((q).symm.trans h) (by decide), fun _ => ?_⟩); conv => whnf))
 refine .inl ⟨fun m st => ∃ (i : Nat) (o : List Int), m = N - i ∧ i ≤ N ∧ o = wd8 (n % 2 ^ (8 * i)) ∧ st = ⟨[.poison, .poison, .ptr 16 0, .poison, .ptr 32 0, .poison, .poison, .poison, .poison, .poison, .poison, .im 1 N c (.flat .u8 b), iv .i64 N, iv .i64 i, .poison, .poison, .poison, .poison, .poison, .poison, .poison, .poison, .poison, .poison, .poison, .poison, .poison, .poison, .poison, .poison, .poison, .poison, .poison, .poison],
   [(16, ⟨.flat .u8 (List.replicate 32 0), 23, false⟩), (32, ⟨.flat .u64 o, 87, false⟩)]⟩,
   ⟨[0, 1, 3, 5, 6, 7, 8, 9, 10, 14, 15, 16, 17, 18, 19, 20, 21, 22, 23, 24, 25, 26, 27, 28, 29, 30, 31, 32, 33], [], N, 0, [0, 0, 0, 0, 0, 0, 0, 0], rfl, by omega, by rw [Nat.mul_zero, Nat.pow_zero, Nat.mod_one]; kernel_rfl, by kernel_rfl⟩, ?_⟩
 rintro _ _ ⟨i, o, rfl, hi, ho, rfl⟩
 have hol : o.length = 8 := by rw [ho]; rfl
 conv => whnf
 refine ⟨fun h => ?_, fun h => ?_⟩
 ·have h := of_decide_eq_true h
  have hiN : i < N := by omega
  have e1 := tdiv8 i (by omega)
  have e2 := up1 i (by omega)
  have e3 : o.set (i / 8) (bits .or .u64 (g o (i / 8)) (IntKind.u64.wrap (IntKind.u64.wrap (g b i) * 2 ^ min (IntKind.i64.wrap (8 * (i : Int).tmod 8)).toNat IntKind.u64.bits))) = wd8 (n % 2 ^ (8 * (i + 1))) := by
   have hb : IntKind.u64.wrap (g b i) = bt n i := by
    have e := nb_bt hb (i := i) (by omega)
    rw [← en] at e
    rw [e, IntKind.wrap_u64]
    have := bt_byte n i
    omega
   rw [hb, sh8i, min64 (by omega) _ (.inl rfl), ho]
   exact load_step8 n i (by omega)
  ((conv => whnf); repeat ((first | refine ⟨sh8inn i, ?_⟩ | refine ⟨by decide, ?_⟩ | refine ⟨rfl, ?_⟩ | refine ⟨inI_of (by omega), ?_⟩ | (apply Exists.intro; refine ⟨?_, ?_⟩; ((try simp only); (try simp only [e1]); (try simp only [Nat.zero_add]); (try simp only [Nat.mul_one]); (try simp only [Int.toNat_natCast]); (try simp only [e1]); (try simp only [Nat.zero_add]); (try simp only [Nat.mul_one]); (try simp only [Int.toNat_natCast]); first | exact at_g (by omega) | exact put_flat (by omega))) | refine ⟨⟨rfl, inI_of (by omega), by decide⟩, ?_⟩ | (apply Exists.intro; refine ⟨?_, ?_⟩; ((try simp only); (try simp only [e1]); (try simp only [Nat.zero_add]); (try simp only [Nat.mul_one]); (try simp only [Int.toNat_natCast]); (try simp only [e1]); (try simp only [Nat.zero_add]); (try simp only [Nat.mul_one]); (try simp only [Int.toNat_natCast]); first | exact at_drop_g (by omega) | exact cut_rest (by omega)))); conv => whnf))
  refine ⟨[0, 1, 3, 5, 6, 7, 8, 9, 10, 14, 15, 16, 17, 18, 19, 20, 21, 22, 23, 24, 25, 26, 27, 28, 29, 30, 31, 32, 33], [], N - (i + 1), ?_, i + 1, wd8 (n % 2 ^ (8 * (i + 1))), rfl, by omega, rfl, ?_⟩
  ·omega
  ·rw [← e2, ← e3]; kernel_rfl
 ·have h := of_decide_eq_false h
  have hi' : i = N := by omega
  have e4 : o = wd8 n := by rw [ho, hi', Nat.mod_eq_of_lt hlt]
  subst e4
  ((conv => whnf); repeat ((first | ((with_reducible refine is_EF8 ?_); first | refine ⟨_, o_remainder hn, ?_⟩ | refine ⟨_, o_write (qmod_lt _), ?_⟩) | refine ⟨_, rfl, ?_⟩ | refine ⟨rfl, ?_⟩); conv => whnf))
  rfl
theorem pWide_call (N : Nat) (c : Option Nat) (b : List Int) (hN : b.length = N) (hb : By b) : CallOk Tryz.prog 31 [.im 1 N c (.flat .u8 b)] (wideR N b) := execF_ok follows_ok EF8_ok Tryz.func31 (pWide_exec N c b hN hb)
end Go.Proofs.YtdeigmjbcbjgeaaGreatDoor
namespace Go.Proofs.YtdeigmjbcbjgeaaGreatDoor
open Go.RowKit
theorem rRoot_row {a : List Int} (hc : isW a = true) : CallOk Tryz.prog 71 [.agg (.flat .u64 a)] (.many [.val (W (rootR (vl a)).1), .val (.v (.bool (rootR (vl a)).2))]) := by
 have h0 := hc
 clear hc
 have e0 := isW_eq h0
 have l0 := vl_lt h0
 clear h0
 generalize vl a = n0 at *
 subst e0
 exact rRoot_call n0 l0
theorem rInverse_row {a : List Int} (hc : isW a = true) : CallOk Tryz.prog 83 [.agg (.flat .u64 a)] (ret1 (W (pw (vl a) e3R))) := by
 have h0 := hc
 clear hc
 have e0 := isW_eq h0
 have l0 := vl_lt h0
 clear h0
 generalize vl a = n0 at *
 subst e0
 exact rInverse_call n0 l0
theorem load_row {a : List Int} (hc : isF a = true) : CallOk Tryz.prog 63 [.agg (.flat .u8 a)] (ret1 (W (nb a))) := by
 have h0 := hc
 clear hc
 have e0 := isF_eq h0
 have l0 := nb32_lt h0
 clear h0
 generalize nb a = n0 at *
 subst e0
 exact load_call n0 l0
theorem store_row {a : List Int} (hc : isW a = true) : CallOk Tryz.prog 35 [.agg (.flat .u64 a)] (ret1 (F (vl a))) := by
 have h0 := hc
 clear hc
 have e0 := isW_eq h0
 have l0 := vl_lt h0
 clear h0
 generalize vl a = n0 at *
 subst e0
 exact store_call n0 l0
def orcR6 (f : Nat) (ds : List LV) : Option LRes :=
 match f with
 | 71 => match ds with
  | [.agg (.flat .u64 a)] => if isW a = true then some (.many [.val (W (rootR (vl a)).1), .val (.v (.bool (rootR (vl a)).2))]) else none
  | _ => none
 | 83 => match ds with
  | [.agg (.flat .u64 a)] => if isW a = true then some (ret1 (W (pw (vl a) e3R))) else none
  | _ => none
 | 63 => match ds with
  | [.agg (.flat .u8 a)] => if isF a = true then some (ret1 (W (nb a))) else none
  | _ => none
 | 35 => match ds with
  | [.agg (.flat .u64 a)] => if isW a = true then some (ret1 (F (vl a))) else none
  | _ => none
 | _ => orcR5 f ds
theorem orcR6_ok : Known Tryz.prog orcR6 := by
 intro f ds r h
 unfold orcR6 at h
 split at h
 ·split at h
  ·split at h
   ·rename_i hc
    cases h
    exact .inl ⟨⟨_, Tryz.func71, name_ne _ (by kernel_rfl), rfl⟩, rRoot_row hc⟩
   ·cases h
  ·cases h
 ·split at h
  ·split at h
   ·rename_i hc
    cases h
    exact .inl ⟨⟨_, Tryz.func83, name_ne _ (by kernel_rfl), rfl⟩, rInverse_row hc⟩
   ·cases h
  ·cases h
 ·split at h
  ·split at h
   ·rename_i hc
    cases h
    exact .inl ⟨⟨_, Tryz.func63, name_ne _ (by kernel_rfl), rfl⟩, load_row hc⟩
   ·cases h
  ·cases h
 ·split at h
  ·split at h
   ·rename_i hc
    cases h
    exact .inl ⟨⟨_, Tryz.func35, name_ne _ (by kernel_rfl), rfl⟩, store_row hc⟩
   ·cases h
  ·cases h
 ·exact orcR5_ok f ds r h
def ER6 : Env := ⟨tyL, orcR6, false, noWk, noOrw⟩
theorem ER6_ok : EnvOk Tryz.prog ER6 := ⟨tyL_ok, orcR6_ok, noOrw_ok⟩
theorem is_ER6 {f : Nat} {ds : List LV} {K : LRes → Prop} (h : ∃ y, ER6.orc f ds = some y ∧ K y) : ∃ y, ER6.orc f ds = some y ∧ K y := h
theorem o_rRoot {a : Nat} (ha : a < 2 ^ 256) : ER6.orc 71 [W a] = some (.many [.val (W (rootR a).1), .val (.v (.bool (rootR a).2))]) :=
 (if_pos (isW_wd ha)).trans (by rw [wd_vl _ ha])
theorem o_rInverse {a : Nat} (ha : a < 2 ^ 256) : ER6.orc 83 [W a] = some (ret1 (W (pw a e3R))) :=
 (if_pos (isW_wd ha)).trans (by rw [wd_vl _ ha])
set_option maxRecDepth 100000 in
theorem o_load {a : Nat} (ha : a < 2 ^ 256) : ER6.orc 63 [F a] = some (ret1 (W a)) :=
 (if_pos (isF_by _)).trans (by rw [nb_by32 ha])
theorem o_store {a : Nat} (ha : a < 2 ^ 256) : ER6.orc 35 [W a] = some (ret1 (F a)) :=
 (if_pos (isW_wd ha)).trans (by rw [wd_vl _ ha])
theorem r_plus6 {a b : Nat} (ha : a < 2 ^ 256) (hb : b < 2 ^ 256) : ER6.orc 98 [W a, W b] = some (two ((a + b) % 2 ^ 256) ((a + b) / 2 ^ 256)) := (show ER6.orc 98 [W a, W b] = ER5.orc 98 [W a, W b] from rfl).trans (r_plus5 ha hb)
theorem r_minus6 {a b : Nat} (ha : a < 2 ^ 256) (hb : b < 2 ^ 256) : ER6.orc 99 [W a, W b] = some (two ((a + 2 ^ 256 - b) % 2 ^ 256) (lt1 a b)) := (show ER6.orc 99 [W a, W b] = ER5.orc 99 [W a, W b] from rfl).trans (r_minus5 ha hb)
theorem r_product6 {a b : Nat} (ha : a < 2 ^ 256) (hb : b < 2 ^ 256) : ER6.orc 97 [W a, W b] = some (ret1 (W8 (a * b))) := (show ER6.orc 97 [W a, W b] = ER5.orc 97 [W a, W b] from rfl).trans (r_product5 ha hb)
theorem r_Q6 : ER6.orc 64 [] = some (ret1 (W qQ)) := rfl
theorem r_Times6 {a b : Nat} (ha : a < 2 ^ 256) (hb : b < 2 ^ 256) : ER6.orc 82 [W a, W b] = some (ret1 (W (a * b % pP))) := (show ER6.orc 82 [W a, W b] = ER5.orc 82 [W a, W b] from rfl).trans (r_Times5 ha hb)
theorem r_Minus6 {a b : Nat} (ha : a < 2 ^ 256) (hb : b < 2 ^ 256) (x0 : b ≤ pP) : ER6.orc 73 [W a, W b] = some (ret1 (W (minR a b))) := (show ER6.orc 73 [W a, W b] = ER5.orc 73 [W a, W b] from rfl).trans (r_Minus5 ha hb x0)
theorem r_Mod6 {a : Nat} (ha : a < 2 ^ 256) : ER6.orc 72 [W a] = some (ret1 (W (a % pP))) := (show ER6.orc 72 [W a] = ER3.orc 72 [W a] from rfl).trans (o_rMod ha)
theorem r_Below6 {a b : Nat} (ha : a < 2 ^ 256) (hb : b < 2 ^ 256) : ER6.orc 62 [W a, W b] = some (ret1 (.v (.bool (decide (a < b))))) := (show ER6.orc 62 [W a, W b] = ER2.orc 62 [W a, W b] from rfl).trans (o_rBelow ha hb)
theorem r_Plus6 {a b : Nat} (ha : a < 2 ^ 256) (hb : b < 2 ^ 256) (x0 : a + b < 2 ^ 256) : ER6.orc 74 [W a, W b] = some (ret1 (W ((a + b) % pP))) := (show ER6.orc 74 [W a, W b] = ER4.orc 74 [W a, W b] from rfl).trans (o_rPlus ha hb x0)
theorem mod_ltP (n : Nat) : n % pP < pP := Nat.mod_lt n pP_pos
theorem minR_mod (a b : Nat) : minR (a % pP) (b % pP) = (a + (pP - b % pP)) % pP := by
 have ha := mod_ltP a
 have hb := mod_ltP b
 rw [← Nat.mod_add_mod a]
 unfold minR
 generalize a % pP = A at *
 generalize b % pP = B at *
 split
 ·rw [Nat.mod_eq_of_lt (by omega)]
  omega
 ·rw [show A + (pP - B) = (A - B) + pP by omega, Nat.add_mod_right, Nat.mod_eq_of_lt (by omega)]
theorem e_eq : e1R = e1P ∧ e2R = e2P ∧ e3R = e3P := ⟨rfl, rfl, rfl⟩
theorem rootR_eq (x : Nat) : rootR (x % pP) = sqrtP x := by
 obtain ⟨h1, h2, _⟩ := e_eq
 have hc := candR_lt (x % pP)
 unfold sqrtP rootP
 generalize x % pP = y at *
 by_cases h : pw y e1P * pw y e1P % pP = y
 ·have e : candR y = pw y e1P := by rw [candR, h1, if_pos h]
  rw [rootR, e, if_pos h, if_pos h]
  simp only [if_true]
  rw [e] at hc
  congr 1
  by_cases h3 : pw y e1P % 2 = 1
  ·rw [if_pos h3, if_pos h3, minR, if_pos (by omega), Nat.mod_eq_of_lt hc]
   omega
  ·rw [if_neg h3, if_neg h3]
 ·have e : candR y = pw y e1P * pw 2 e2P % pP := by rw [candR, h1, h2, if_neg h]
  rw [rootR, e, if_neg h]
  dsimp only
  rw [e] at hc
  generalize pw y e1P * pw 2 e2P % pP = r at *
  by_cases h2 : r * r % pP = y
  ·simp only [if_pos h2, decide_eq_true h2, if_true]
   by_cases h3 : r % 2 = 1
   ·rw [if_pos h3, if_pos h3, minR, if_pos (by omega), Nat.mod_eq_of_lt hc, Nat.zero_add]
   ·rw [if_neg h3, if_neg h3]
  ·simp only [if_neg h2, decide_eq_false h2, Bool.false_eq_true, if_false]
set_option maxRecDepth 100000 in
set_option maxHeartbeats 1600000 in
theorem rAdd_call (a b : Nat) (ha : a < 2 ^ 256) (hb : b < 2 ^ 256) : CallOk Tryz.prog 37 [F a, F b] (ret1 (F ((a + b) % pP))) := by
 have h1 := mod_ltP a
 have h2 := mod_ltP b
 have f := r_Plus6 (mod_lt256 a) (mod_lt256 b) (by unfold pP at h1 h2 ⊢; omega)
 rw [← Nat.add_mod] at f
 have g := o_store (mod_lt256 (a + b))
 refine execF_ok follows_ok ER6_ok Tryz.func37 ?_
 ((conv => whnf); repeat ((first | ((with_reducible refine is_ER6 ?_); first | refine ⟨_, o_load ha, ?_⟩ | refine ⟨_, o_load hb, ?_⟩ | refine ⟨_, r_Mod6 ha, ?_⟩ | refine ⟨_, r_Mod6 hb, ?_⟩ | refine ⟨_, f, ?_⟩ | refine ⟨_, g, ?_⟩) | refine ⟨_, rfl, ?_⟩ | refine ⟨by decide, ?_⟩ | refine ⟨rfl, ?_⟩); conv => whnf))
 rfl
set_option maxRecDepth 100000 in
set_option maxHeartbeats 1600000 in
theorem rSub_call (a b : Nat) (ha : a < 2 ^ 256) (hb : b < 2 ^ 256) : CallOk Tryz.prog 34 [F a, F b] (ret1 (F ((a + (pP - b % pP)) % pP))) := by
 have f := r_Minus6 (mod_lt256 a) (mod_lt256 b) (Nat.le_of_lt (mod_ltP b))
 rw [minR_mod] at f
 have g := o_store (mod_lt256 (a + (pP - b % pP)))
 refine execF_ok follows_ok ER6_ok Tryz.func34 ?_
 ((conv => whnf); repeat ((first | ((with_reducible refine is_ER6 ?_); first | refine ⟨_, o_load ha, ?_⟩ | refine ⟨_, o_load hb, ?_⟩ | refine ⟨_, r_Mod6 ha, ?_⟩ | refine ⟨_, r_Mod6 hb, ?_⟩ | refine ⟨_, f, ?_⟩ | refine ⟨_, g, ?_⟩) | refine ⟨_, rfl, ?_⟩ | refine ⟨by decide, ?_⟩ | refine ⟨rfl, ?_⟩); conv => whnf))
 rfl
set_option maxRecDepth 100000 in
set_option maxHeartbeats 1600000 in
theorem rSqrt_call (a : Nat) (ha : a < 2 ^ 256) : CallOk Tryz.prog 33 [F a] (.many [.val (F (sqrtP a).1), .val (.v (.bool (sqrtP a).2))]) := by
 have f := o_rRoot (mod_lt256 a)
 rw [rootR_eq] at f
 have g := o_store (sqrtP_lt a)
 refine execF_ok follows_ok ER6_ok Tryz.func33 ?_
 ((conv => whnf); repeat ((first | ((with_reducible refine is_ER6 ?_); first | refine ⟨_, o_load ha, ?_⟩ | refine ⟨_, r_Mod6 ha, ?_⟩ | refine ⟨_, f, ?_⟩ | refine ⟨_, g, ?_⟩) | refine ⟨_, rfl, ?_⟩ | refine ⟨rfl, ?_⟩); conv => whnf))
 rfl
theorem bit_b {b : List Int} {n j : Nat} (h : g b (j / 8) = bt n (j / 8)) : IntKind.u64.wrap (bits .and .u8 ((g b (j / 8)).fdiv (2 ^ min (IntKind.u64.wrap ((j : Int).tmod 8)).toNat IntKind.u8.bits)) 1) = (((if Nat.testBit n j then 1 else 0 : Nat)) : Int) := by
 have e : min (IntKind.u64.wrap ((j : Int).tmod 8)).toNat IntKind.u8.bits = j % 8 := by
  rw [show (8 : Int) = ((8 : Nat) : Int) from rfl, tmod_nat, wrapN _ (by omega), Int.toNat_natCast]
  exact Nat.min_eq_left (show j % 8 ≤ 8 by omega)
 have hl := bt_byte n (j / 8)
 rw [e, h, bt, Int.fdiv_eq_ediv_of_nonneg _ (Int.pow_nonneg (by omega)), ← pow_cast, ← Int.natCast_ediv]
 have hd : n / 2 ^ (8 * (j / 8)) % 256 / 2 ^ (j % 8) < 256 := Nat.lt_of_le_of_lt (Nat.div_le_self _ _) (Nat.mod_lt _ (by decide))
 have h1 := u8_and_nat (n / 2 ^ (8 * (j / 8)) % 256 / 2 ^ (j % 8)) 1 hd (by omega)
 rw [show (1 : Int) = ((1 : Nat) : Int) from rfl, h1, Nat.and_one_is_mod, wrapN _ (by omega)]
 congr 1
 have hb : Nat.testBit (n / 2 ^ (8 * (j / 8)) % 256) (j % 8) = Nat.testBit n j := by
  rw [show (256 : Nat) = 2 ^ 8 from rfl, Nat.testBit_mod_two_pow, Nat.testBit_div_two_pow, decide_eq_true (Nat.mod_lt _ (by decide)), Bool.true_and]
  congr 1
  omega
 rw [← hb, Nat.testBit_eq_decide_div_mod_eq]
 have : n / 2 ^ (8 * (j / 8)) % 256 / 2 ^ (j % 8) % 2 = 0 ∨ n / 2 ^ (8 * (j / 8)) % 256 / 2 ^ (j % 8) % 2 = 1 := by omega
 rcases this with h | h <;> rw [h] <;> simp
theorem down8 (j : Nat) (h : j < 10000) : IntKind.i64.wrap ((j : Int) - 1) = (j : Int) - 1 := wrap64 (by omega)
theorem tdiv8' (i : Nat) (h : i < 10000) : IntKind.i64.wrap ((i : Int).tdiv 8) = ((i / 8 : Nat) : Int) := by
 rw [show (8 : Int) = ((8 : Nat) : Int) from rfl, ← Int.ofNat_tdiv, wrap64 (by omega)]
set_option maxRecDepth 100000 in
set_option maxHeartbeats 1600000 in
theorem wide_exec (N : Nat) (c : Option Nat) (b : List Int) (hN : b.length = N) (hb : By b) (hm : N ≤ 1000) : execF ER6 Tryz.f96 [.im 1 N c (.flat .u8 b)] (ret1 (W (nb b % qQ))) := by
 obtain ⟨n, en⟩ : ∃ n, n = nb b := ⟨_, rfl⟩
 have hlt : n < 2 ^ (8 * N) := by rw [en, ← pow256, ← hN]; exact nb_lt hb
 have hg : ∀ k, k < N → g b k = bt n k := fun k hk => by rw [en]; exact nb_bt hb (by omega)
 rw [← en]
 have e0 : IntKind.i64.wrap (IntKind.i64.wrap (8 * (N : Int)) - 1) = ((8 * N : Nat) : Int) - 1 := by rw [wrap64 (x := 8 * (N : Int)) (by omega), wrap64 (by omega)]; omega
 ((conv => whnf); repeat ((first | refine ⟨_, rfl, ?_⟩ | refine ⟨by decide, ?_⟩ | refine ⟨rfl, ?_⟩ | refine ⟨fun _ => ?_, fun h => absurd h (by decide)⟩ | refine ⟨fun h => absurd h (by decide), fun _ => ?_⟩ | refine ⟨inI_of (by omega), ?_⟩ | refine ⟨⟨rfl, inI_of (by omega)⟩, ?_⟩ | refine ⟨⟨rfl, by decide⟩, ?_⟩ | (apply Exists.intro; refine ⟨?_, ?_⟩; ((try simp only); (try simp only [Nat.zero_add]); (try simp only [Nat.mul_one]); (try simp only [Int.toNat_natCast]); first | exact at_g (by omega) | exact put_flat (by omega))) | refine ⟨_, cut_all (by omega), ?_⟩ | refine ⟨_, lay_all (by omega) (by omega), ?_⟩ | refine ⟨_, lay_all (by (try simp only); (try simp only [List.length_replicate]); (try simp only [List.length_cons]); (try simp only [List.length_nil]); omega) (by omega), ?_⟩ | refine ⟨by omega, ?_⟩ | refine ⟨len_flat (by omega), ?_⟩ | refine ⟨apart_uv _ _ _, ?_⟩ | refine ⟨_, resSlot_own rfl (by omega) (by first | exact .inl rfl | exact .inr ⟨rfl, rfl⟩), ?_⟩ | refine ⟨(by kernel_rfl : regB _ = true), ?_⟩ | refine ⟨⟨rfl, inI_of (by omega), by decide⟩, ?_⟩ | (apply Exists.intro; refine ⟨?_, ?_⟩; ((try simp only); (try simp only [Nat.zero_add]); (try simp only [Nat.mul_one]); (try simp only [Int.toNat_natCast]); first | exact at_drop_g (by omega) | exact cut_rest (by omega)))); conv => whnf))
 refine .inl ⟨fun m st => ∃ i : Nat, m = i ∧ i ≤ 8 * N ∧ st = ⟨[.im 1 N c (.flat .u8 b), .poison, .ptr 16 0, .ptr 24 0, iv .i64 ((i : Int) - 1), .poison, .poison, .poison, .poison, .poison, .poison, .poison, .poison, .poison, .poison, .poison, .poison, .poison, .poison, .poison, .poison, .poison, .poison, .poison, .poison, .poison, .poison, .poison, .poison, .poison, .poison, .poison, .poison, .poison, .poison, .poison, .poison, .poison, .poison, .poison, .poison, .poison, .poison, .poison, .poison],
   [(16, ⟨.flat .u64 [0, 0, 0, 0], 54, false⟩), (24, ⟨.flat .u64 (wd (n / 2 ^ i % qQ)), 54, false⟩)]⟩,
   ⟨[1, 5, 6, 7, 8, 9, 10, 11, 12, 13, 14, 15, 16, 17, 18, 19, 20, 21, 22, 23, 24, 25, 26, 27, 28, 29, 30, 31, 32, 33, 34, 35, 36, 37, 38, 39, 40, 41, 42, 43, 44], [], 8 * N, 8 * N, rfl, by omega, by rw [← e0, Nat.div_eq_of_lt hlt, Nat.zero_mod]; kernel_rfl⟩, ?_⟩
 rintro i _ ⟨_, rfl, hi, rfl⟩
 cases i with
 | zero =>
  rw [Nat.pow_zero, Nat.div_one]
  conv => whnf
  refine ⟨fun h => absurd h (by decide), fun _ => ?_⟩
  ((conv => whnf); repeat ((first | refine ⟨_, rfl, ?_⟩ | refine ⟨rfl, ?_⟩); conv => whnf))
  rfl
 | succ j =>
  rw [down1]
  have hq := Nat.mod_lt (n / 2 ^ (j + 1)) qQ_pos
  obtain ⟨o, eo⟩ : ∃ o, o = n / 2 ^ (j + 1) % qQ := ⟨_, rfl⟩
  have hs := rem_step n j
  rw [← eo] at hs hq ⊢
  have hq' : o < 2 ^ 253 := by unfold qQ at hq; omega
  have f1 := r_plus6 (a := o) (b := o) (by omega) (by omega)
  rw [show (o + o) % 2 ^ 256 = 2 * o by omega] at f1
  have e1 := tdiv8' j (by omega)
  have e2 := down8 j (by omega)
  have eb := bit_b (b := b) (n := n) (j := j) (hg _ (by omega))
  have ew := or_bit o (if Nat.testBit n j then 1 else 0) (by omega) (by split <;> omega)
  rw [← eb] at ew
  obtain ⟨y, ey⟩ : ∃ y, y = 2 * o + (if Nat.testBit n j then 1 else 0) := ⟨_, rfl⟩
  have hy : y < 2 ^ 256 := by rw [ey]; split <;> omega
  rw [← ey] at hs ew
  have f2 := r_Below6 hy (show qQ < 2 ^ 256 by unfold qQ; omega)
  have f3 := r_minus6 hy (show qQ < 2 ^ 256 by unfold qQ; omega)
  rw [W, ew] at f2 f3
  have h0 : decide ((j : Int) ≥ 0) = true := decide_eq_true (by omega)
  by_cases h : y < qQ
  ·rw [decide_eq_true h] at f2
   rw [wi, if_pos h] at hs
   ((conv => whnf); repeat ((first | refine ⟨fun _ => ?_, fun h => absurd ((h0).symm.trans h) (by decide)⟩ | refine ⟨fun h => absurd ((h0).symm.trans h) (by decide), fun _ => ?_⟩ | refine ⟨u64_nn _, ?_⟩ | ((with_reducible refine is_ER6 ?_); first | refine ⟨_, f1, ?_⟩ | refine ⟨_, f2, ?_⟩ | refine ⟨_, r_Q6, ?_⟩) | refine ⟨_, rfl, ?_⟩ | refine ⟨by decide, ?_⟩ | refine ⟨rfl, ?_⟩ | refine ⟨fun h => absurd h (by decide), fun _ => ?_⟩ | refine ⟨⟨rfl, inI_of (by omega), by decide⟩, ?_⟩ | (apply Exists.intro; refine ⟨?_, ?_⟩; ((try simp only); (try simp only [e1]); (try simp only [Nat.zero_add]); (try simp only [Nat.mul_one]); (try simp only [Int.toNat_natCast]); (try simp only [e1]); (try simp only [Nat.zero_add]); (try simp only [Nat.mul_one]); (try simp only [Int.toNat_natCast]); first | exact at_drop_g (by omega) | exact cut_rest (by omega)))); conv => whnf))
   refine ⟨[1, 5, 6, 7, 8, 9, 10, 11, 12, 13, 14, 15, 16, 17, 18, 19, 20, 21, 22, 23, 24, 25, 26, 27, 28, 29, 30, 31, 32, 33, 34, 35, 36, 37, 38, 39, 40, 41, 42, 43, 44], [], j, ?_, j, rfl, by omega, ?_⟩
   ·omega
   ·rw [e2, ← hs, ew]; kernel_rfl
  ·rw [decide_eq_false h] at f2
   rw [sub_mod256 hy (by omega)] at f3
   rw [wi, if_neg h] at hs
   ((conv => whnf); repeat ((first | refine ⟨fun _ => ?_, fun h => absurd ((h0).symm.trans h) (by decide)⟩ | refine ⟨fun h => absurd ((h0).symm.trans h) (by decide), fun _ => ?_⟩ | refine ⟨u64_nn _, ?_⟩ | ((with_reducible refine is_ER6 ?_); first | refine ⟨_, f1, ?_⟩ | refine ⟨_, f2, ?_⟩ | refine ⟨_, f3, ?_⟩ | refine ⟨_, r_Q6, ?_⟩) | refine ⟨_, rfl, ?_⟩ | refine ⟨by decide, ?_⟩ | refine ⟨rfl, ?_⟩ | refine ⟨⟨rfl, inI_of (by omega), by decide⟩, ?_⟩ | (apply Exists.intro; refine ⟨?_, ?_⟩; ((try simp only); (try simp only [e1]); (try simp only [Nat.zero_add]); (try simp only [Nat.mul_one]); (try simp only [Int.toNat_natCast]); (try simp only [e1]); (try simp only [Nat.zero_add]); (try simp only [Nat.mul_one]); (try simp only [Int.toNat_natCast]); first | exact at_drop_g (by omega) | exact cut_rest (by omega)))); conv => whnf))
   refine ⟨[1, 5, 6, 7, 8, 9, 10, 11, 12, 13, 14, 15, 16, 17, 18, 19, 20, 21, 22, 23, 24, 25, 26, 27, 28, 29, 30, 31, 32, 33, 34, 35, 36, 37, 38, 39, 40, 41, 42, 43, 44], [], j, ?_, j, rfl, by omega, ?_⟩
   ·omega
   ·rw [e2, ← hs]; kernel_rfl
theorem wide_call {N : Nat} {c : Option Nat} {b : List Int} (hN : b.length = N) (hb : By b) (hm : N ≤ 1000) : CallOk Tryz.prog 96 [.im 1 N c (.flat .u8 b)] (ret1 (W (nb b % qQ))) := execF_ok follows_ok ER6_ok Tryz.func96 (wide_exec N c b hN hb hm)
def orcR7 (f : Nat) (ds : List LV) : Option LRes :=
 match f with
 | 96 => match ds with
  | [.im 1 n _ (.flat .u8 b)] => if b.length = n ∧ byteOk b = true ∧ n ≤ 1000 then some (ret1 (W (nb b % qQ))) else none
  | _ => none
 | _ => orcR6 f ds
theorem orcR7_ok : Known Tryz.prog orcR7 := by
 intro f ds r h
 unfold orcR7 at h
 split at h
 ·split at h
  ·split at h
   ·rename_i hc
    cases h
    exact .inl ⟨⟨_, Tryz.func96, name_ne _ (by kernel_rfl), rfl⟩, wide_call hc.1 (byteAll hc.2.1) hc.2.2⟩
   ·cases h
  ·cases h
 ·exact orcR6_ok f ds r h
def ER7 : Env := ⟨tyL, orcR7, false, noWk, noOrw⟩
theorem ER7_ok : EnvOk Tryz.prog ER7 := ⟨tyL_ok, orcR7_ok, noOrw_ok⟩
theorem is_ER7 {f : Nat} {ds : List LV} {K : LRes → Prop} (h : ∃ y, ER7.orc f ds = some y ∧ K y) : ∃ y, ER7.orc f ds = some y ∧ K y := h
theorem o_wide {N : Nat} {c : Option Nat} {b : List Int} (hN : b.length = N) (hb : By b) (hm : N ≤ 1000) : ER7.orc 96 [.im 1 N c (.flat .u8 b)] = some (ret1 (W (nb b % qQ))) := if_pos ⟨hN, hb.ok, hm⟩
theorem r_load7 {a : Nat} (ha : a < 2 ^ 256) : ER7.orc 63 [F a] = some (ret1 (W a)) := (show ER7.orc 63 [F a] = ER6.orc 63 [F a] from rfl).trans (o_load ha)
theorem r_store7 {a : Nat} (ha : a < 2 ^ 256) : ER7.orc 35 [W a] = some (ret1 (F a)) := (show ER7.orc 35 [W a] = ER6.orc 35 [W a] from rfl).trans (o_store ha)
theorem r_Below7 {a b : Nat} (ha : a < 2 ^ 256) (hb : b < 2 ^ 256) : ER7.orc 62 [W a, W b] = some (ret1 (.v (.bool (decide (a < b))))) := (show ER7.orc 62 [W a, W b] = ER6.orc 62 [W a, W b] from rfl).trans (r_Below6 ha hb)
theorem r_plus7 {a b : Nat} (ha : a < 2 ^ 256) (hb : b < 2 ^ 256) : ER7.orc 98 [W a, W b] = some (two ((a + b) % 2 ^ 256) ((a + b) / 2 ^ 256)) := (show ER7.orc 98 [W a, W b] = ER6.orc 98 [W a, W b] from rfl).trans (r_plus6 ha hb)
theorem r_minus7 {a b : Nat} (ha : a < 2 ^ 256) (hb : b < 2 ^ 256) : ER7.orc 99 [W a, W b] = some (two ((a + 2 ^ 256 - b) % 2 ^ 256) (lt1 a b)) := (show ER7.orc 99 [W a, W b] = ER6.orc 99 [W a, W b] from rfl).trans (r_minus6 ha hb)
theorem r_product7 {a b : Nat} (ha : a < 2 ^ 256) (hb : b < 2 ^ 256) : ER7.orc 97 [W a, W b] = some (ret1 (W8 (a * b))) := (show ER7.orc 97 [W a, W b] = ER6.orc 97 [W a, W b] from rfl).trans (r_product6 ha hb)
theorem r_Q7 : ER7.orc 64 [] = some (ret1 (W qQ)) := rfl
set_option maxRecDepth 100000 in
set_option maxHeartbeats 1600000 in
theorem rWide_exec (N : Nat) (c : Option Nat) (b : List Int) (hN : b.length = N) (hb : By b) : execF ER7 Tryz.f57 [.im 1 N c (.flat .u8 b)] (wideR N b) := by
 unfold wideR
 by_cases h64 : 64 < N
 ·have q : decide ((N : Int) > 64) = true := decide_eq_true (by omega)
  rw [if_pos h64, F_zero]
  ((conv => whnf); repeat ((first | refine ⟨fun _ => ?_, fun h => absurd ((q).symm.trans h) (by decide)⟩ | refine ⟨fun h => absurd ((q).symm.trans h) (by decide), fun _ => ?_⟩ | refine ⟨_, rfl, ?_⟩ | refine ⟨by decide, ?_⟩ | refine ⟨rfl, ?_⟩); conv => whnf))
  rfl
 have q : decide ((N : Int) > 64) = false := decide_eq_false (by omega)
 rw [if_neg h64]
 have f := o_wide (c := c) hN hb (by omega)
 have f2 := r_store7 (qmod_lt (nb b))
 ((conv => whnf); repeat ((first | refine ⟨fun _ => ?_, fun h => absurd ((q).symm.trans h) (by decide)⟩ | refine ⟨fun h => absurd ((q).symm.trans h) (by decide), fun _ => ?_⟩ | ((with_reducible refine is_ER7 ?_); first | refine ⟨_, f, ?_⟩ | refine ⟨_, f2, ?_⟩) | refine ⟨_, rfl, ?_⟩ | refine ⟨rfl, ?_⟩); conv => whnf))
 rfl
theorem rWide_call (N : Nat) (c : Option Nat) (b : List Int) (hN : b.length = N) (hb : By b) : CallOk Tryz.prog 57 [.im 1 N c (.flat .u8 b)] (wideR N b) := execF_ok follows_ok ER7_ok Tryz.func57 (rWide_exec N c b hN hb)
theorem byk_succ (n k : Nat) : byk n (k + 1) = byk n k ++ [bt n k] := map_succ _ _
set_option exponentiation.threshold 600 in
set_option maxRecDepth 100000 in
set_option maxHeartbeats 1600000 in
theorem rMulAdd_exec (a b c : Nat) (ha : a < 2 ^ 256) (hb : b < 2 ^ 256) (hc : c < 2 ^ 256) (l : List Int) (hl : l = wd8 (a * b)) (hf : ER7.orc 97 [W a, W b] = some (ret1 (.agg (.flat .u64 l)))) (lc : List Int) (hlc : lc = by32 c) :
  execF ER7 Tryz.f58 [F a, F b, .agg (.flat .u8 lc)] (ret1 (F ((a * b + c) % qQ))) := by
 have hlen : l.length = 8 := by rw [hl]; rfl
 have hclen : lc.length = 32 := by rw [hlc, byk_len]
 have hab := mul_lt512 ha hb
 obtain ⟨n, en⟩ : ∃ n, n = a * b := ⟨_, rfl⟩
 rw [← en] at hl hab ⊢
 ((conv => whnf); repeat ((first | ((with_reducible refine is_ER7 ?_); first | refine ⟨_, r_load7 ha, ?_⟩ | refine ⟨_, r_load7 hb, ?_⟩ | refine ⟨_, hf, ?_⟩) | refine ⟨_, rfl, ?_⟩ | refine ⟨by decide, ?_⟩ | refine ⟨rfl, ?_⟩ | refine ⟨_, lay_all (by (try simp only); (try simp only [List.length_replicate]); (try simp only [List.length_cons]); (try simp only [List.length_nil]); omega) (by omega), ?_⟩ | refine ⟨len_flat (by omega), ?_⟩); conv => whnf))
 refine .inl ⟨fun m st => ∃ (i : Nat) (o : List Int), m = 64 - i ∧ i ≤ 64 ∧ o = byk n i ∧ st = ⟨[.poison, .poison, .poison, .poison, .poison, .ptr 40 0, .ptr 48 0, .ptr 56 0, .sl 1 256 0 i none, .poison, .poison, .poison, .poison, .poison, .poison, .poison, .poison, iv .i64 i, .poison, .poison, .poison, .poison, .poison, .poison, .poison, .poison, .poison, .poison, .poison, .poison, .poison, .poison, .poison, .poison, .poison, .poison, .poison, .poison, .poison, .poison, .poison, .poison, .poison, .poison, .poison, .poison, .poison, .poison, .poison, .poison, .poison, .poison, .poison, .poison],
   [(256, ⟨.flat .u8 o, 5, true⟩), (40, ⟨.flat .u8 lc, 23, false⟩), (48, ⟨.flat .u8 (List.replicate 32 0), 23, false⟩), (56, ⟨.flat .u64 l, 86, false⟩)]⟩,
   ⟨[0, 1, 2, 3, 4, 9, 10, 11, 12, 13, 14, 15, 16, 18, 19, 20, 21, 22, 23, 24, 25, 26, 27, 28, 29, 30, 31, 32, 33, 34, 35, 36, 37, 38, 39, 40, 41, 42, 43, 44, 45, 46, 47, 48, 49, 50, 51, 52, 53], [24, 32, .nil 8 256 1 5 (.flat .u8 [])], 64, 0, [], rfl, by omega, rfl, by kernel_rfl⟩, ?_⟩
 rintro _ _ ⟨i, o, rfl, hi, ho, rfl⟩
 have hol : o.length = i := by rw [ho, byk_len]
 conv => whnf
 refine ⟨fun h => ?_, fun h => ?_⟩
 ·have h := of_decide_eq_true h
  have e1 := tdiv8 i (by omega)
  have e2 := up1 i (by omega)
  have e3 : IntKind.u8.wrap ((g l (i / 8)).fdiv (2 ^ min (IntKind.u64.wrap (8 * IntKind.u64.wrap ((i : Int).tmod 8))).toNat IntKind.u64.bits)) = bt n i := by
   rw [hl, g_wd8 _ _ (by omega)]
   exact dg_bt n i _ _ rfl (by rw [sh8, min64 (by omega) _ (.inl rfl)])
  ((conv => whnf); repeat ((first | refine ⟨u64_nn _, ?_⟩ | refine ⟨_, append_grow (cnt := 1) rfl rfl rfl rfl rfl hol rfl (by omega) (by omega), ?_⟩ | refine ⟨by decide, ?_⟩ | refine ⟨inI_of (by omega), ?_⟩ | (apply Exists.intro; refine ⟨?_, ?_⟩; ((try simp only); (try simp only [e1]); (try simp only [Nat.zero_add]); (try simp only [Nat.mul_one]); (try simp only [Int.toNat_natCast]); (try simp only [e1]); (try simp only [Nat.zero_add]); (try simp only [Nat.mul_one]); (try simp only [Int.toNat_natCast]); first | exact at_g (by omega) | exact put_flat (by omega)))); conv => whnf))
  refine ⟨[0, 1, 2, 3, 4, 9, 10, 11, 12, 13, 14, 15, 16, 18, 19, 20, 21, 22, 23, 24, 25, 26, 27, 28, 29, 30, 31, 32, 33, 34, 35, 36, 37, 38, 39, 40, 41, 42, 43, 44, 45, 46, 47, 48, 49, 50, 51, 52, 53], [248, .first 256], 64 - (i + 1), ?_, i + 1, o ++ [bt n i], rfl, by omega, by rw [byk_succ, ho], ?_⟩
  ·omega
  ·rw [← e2, ← e3]; kernel_rfl
 ·have h := of_decide_eq_false h
  have hi' : i = 64 := by omega
  subst hi'
  have hob : By o := by rw [ho]; exact byk_by _ _
  have hcb : By lc := by rw [hlc]; exact byk_by _ _
  have hno : nb o = n := by rw [ho, nb_byk, pow256]; exact Nat.mod_eq_of_lt hab
  have hnc : nb lc = c := by rw [hlc]; exact nb_by32 hc
  have hc1 : (Cont.flat .u8 o).cut 0 (64 * 1) = some (.flat .u8 o) := cut_all (by omega)
  have hc2 : (Cont.flat .u8 lc).cut 0 (32 * 1) = some (.flat .u8 lc) := cut_all (by omega)
  have w1 := o_wide (c := none) hol hob (by omega)
  have w2 := o_wide (c := some 32) hclen hcb (by omega)
  rw [hno] at w1
  rw [hnc] at w2
  have q1 := Nat.mod_lt n qQ_pos
  have q2 := Nat.mod_lt c qQ_pos
  have hwi : wi (n % qQ + c % qQ) qQ = (n + c) % qQ := by rw [wi_mod (by omega), ← Nat.add_mod]
  have f1 := r_plus7 (qmod_lt n) (qmod_lt c)
  have hs : n % qQ + c % qQ < 2 ^ 256 := by unfold qQ at *; omega
  rw [Nat.mod_eq_of_lt hs] at f1
  have f2 := r_Below7 hs (show qQ < 2 ^ 256 by unfold qQ; omega)
  have f3 := r_minus7 hs (show qQ < 2 ^ 256 by unfold qQ; omega)
  have f4 := r_store7 (qmod_lt (n + c))
  rw [← hwi] at f4 ⊢
  generalize n % qQ + c % qQ = s at *
  unfold wi at f4 ⊢
  by_cases h : s < qQ
  ·rw [decide_eq_true h] at f2
   rw [if_pos h] at f4 ⊢
   ((conv => whnf); repeat ((first | refine ⟨_, expo_sl rfl hc1, ?_⟩ | refine ⟨_, expo_sl rfl hc2, ?_⟩ | ((with_reducible refine is_ER7 ?_); first | refine ⟨_, w1, ?_⟩ | refine ⟨_, w2, ?_⟩ | refine ⟨_, f1, ?_⟩ | refine ⟨_, f2, ?_⟩ | refine ⟨_, f4, ?_⟩ | refine ⟨_, r_Q7, ?_⟩) | refine ⟨_, rfl, ?_⟩ | refine ⟨by decide, ?_⟩ | refine ⟨rfl, ?_⟩ | refine ⟨fun h => absurd h (by decide), fun _ => ?_⟩); conv => whnf))
   rfl
  ·rw [decide_eq_false h] at f2
   rw [sub_mod256 hs (by omega)] at f3
   rw [if_neg h] at f4 ⊢
   ((conv => whnf); repeat ((first | refine ⟨_, expo_sl rfl hc1, ?_⟩ | refine ⟨_, expo_sl rfl hc2, ?_⟩ | ((with_reducible refine is_ER7 ?_); first | refine ⟨_, w1, ?_⟩ | refine ⟨_, w2, ?_⟩ | refine ⟨_, f1, ?_⟩ | refine ⟨_, f2, ?_⟩ | refine ⟨_, f3, ?_⟩ | refine ⟨_, f4, ?_⟩ | refine ⟨_, r_Q7, ?_⟩) | refine ⟨_, rfl, ?_⟩ | refine ⟨by decide, ?_⟩ | refine ⟨rfl, ?_⟩ | refine ⟨fun _ => ?_, fun h => absurd h (by decide)⟩); conv => whnf))
   rfl
theorem rMulAdd_call (a b c : Nat) (ha : a < 2 ^ 256) (hb : b < 2 ^ 256) (hc : c < 2 ^ 256) : CallOk Tryz.prog 58 [F a, F b, F c] (ret1 (F ((a * b + c) % qQ))) :=
 execF_ok follows_ok ER7_ok Tryz.func58 (rMulAdd_exec a b c ha hb hc _ rfl (r_product7 ha hb) _ rfl)
end Go.Proofs.YtdeigmjbcbjgeaaGreatDoor
