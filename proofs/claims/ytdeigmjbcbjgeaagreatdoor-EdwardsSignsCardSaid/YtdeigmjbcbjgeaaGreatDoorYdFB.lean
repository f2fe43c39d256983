/-
  Layer 8: the answer's functions on numbers.
-/
import Derived.Test.YtdeigmjbcbjgeaaGreatDoorYdF8
namespace Go.Proofs.YtdeigmjbcbjgeaaGreatDoor
open Go.RowKit

theorem rplusN_call (a b : Nat) (ha : a < 2 ^ 256) (hb : b < 2 ^ 256) : CallOk Tryz.prog 98 [W a, W b] (two ((a + b) % 2 ^ 256) ((a + b) / 2 ^ 256)) := by
  have := rplus_call a b ha hb
  rwa [two, W, W, W, ← wd_mod (a + b)] at this
theorem rminusN_call (a b : Nat) (ha : a < 2 ^ 256) (hb : b < 2 ^ 256) : CallOk Tryz.prog 99 [W a, W b] (two ((a + 2 ^ 256 - b) % 2 ^ 256) (lt1 a b)) := by
  have := rminus_call a b ha hb
  rwa [two, W, W, W, ← wd_mod (a + 2 ^ 256 - b)] at this
theorem rP_call : CallOk Tryz.prog 36 [] (ret1 (W pP)) := runF_ok follows_ok E0_ok Tryz.func36 (fuel := 100) (by kernel_rfl)
theorem rQ_call : CallOk Tryz.prog 64 [] (ret1 (W qQ)) := runF_ok follows_ok E0_ok Tryz.func64 (fuel := 100) (by kernel_rfl)
def e1R : Nat := 2 ^ 252 - 2
def e2R : Nat := 2 ^ 253 - 5
def e3R : Nat := 2 ^ 255 - 21
/-- The two shifts that are made. -/
def shf (l : List Int) (k : Int) : Prop := (l = wd (pP + 3) ∧ k = 3) ∨ (l = wd (pP - 1) ∧ k = 2)
instance (l : List Int) (k : Int) : Decidable (shf l k) := inferInstanceAs (Decidable (_ ∨ _))
theorem shifted_call {a : List Int} {k : Int} (h : shf a k) : CallOk Tryz.prog 106 [.agg (.flat .u64 a), iv .i64 k] (ret1 (W (if k = 3 then e1R else e2R))) := by
  rcases h with ⟨rfl, rfl⟩ | ⟨rfl, rfl⟩ <;> exact runF_ok follows_ok E0_ok Tryz.func106 (fuel := 100) (by kernel_rfl)
def orcR0 (f : Nat) (ds : List LV) : Option LRes :=
  match f with
  | 106 => match ds with
    | [.agg (.flat .u64 a), .v (.int .i64 k)] => if shf a k then some (ret1 (W (if k = 3 then e1R else e2R))) else none
    | _ => none
  | _ => orcU f ds
theorem orcR0_ok : Known Tryz.prog orcR0 := by
  intro f ds r h
  unfold orcR0 at h
  split at h
  · split at h
    · split at h
      · rename_i hc
        cases h
        exact .inl ⟨⟨_, Tryz.func106, name_ne _ (by kernel_rfl), rfl⟩, shifted_call hc⟩
      · cases h
    · cases h
  · exact orcU_ok f ds r h
theorem rplusN_row {a b : List Int} (hc : isW a = true ∧ isW b = true) : CallOk Tryz.prog 98 [.agg (.flat .u64 a), .agg (.flat .u64 b)] (two (((vl a) + (vl b)) % 2 ^ 256) (((vl a) + (vl b)) / 2 ^ 256)) := by
  obtain ⟨h0, h1⟩ := hc
  have e0 := isW_eq h0
  have l0 := vl_lt h0
  clear h0
  generalize vl a = n0 at *
  subst e0
  have e1 := isW_eq h1
  have l1 := vl_lt h1
  clear h1
  generalize vl b = n1 at *
  subst e1
  exact rplusN_call n0 n1 l0 l1 
theorem rminusN_row {a b : List Int} (hc : isW a = true ∧ isW b = true) : CallOk Tryz.prog 99 [.agg (.flat .u64 a), .agg (.flat .u64 b)] (two (((vl a) + 2 ^ 256 - (vl b)) % 2 ^ 256) (lt1 (vl a) (vl b))) := by
  obtain ⟨h0, h1⟩ := hc
  have e0 := isW_eq h0
  have l0 := vl_lt h0
  clear h0
  generalize vl a = n0 at *
  subst e0
  have e1 := isW_eq h1
  have l1 := vl_lt h1
  clear h1
  generalize vl b = n1 at *
  subst e1
  exact rminusN_call n0 n1 l0 l1 
theorem rproduct_row {a b : List Int} (hc : isW a = true ∧ isW b = true) : CallOk Tryz.prog 97 [.agg (.flat .u64 a), .agg (.flat .u64 b)] (ret1 (W8 ((vl a) * (vl b)))) := by
  obtain ⟨h0, h1⟩ := hc
  have e0 := isW_eq h0
  have l0 := vl_lt h0
  clear h0
  generalize vl a = n0 at *
  subst e0
  have e1 := isW_eq h1
  have l1 := vl_lt h1
  clear h1
  generalize vl b = n1 at *
  subst e1
  exact rproduct_call n0 n1 l0 l1 
def orcR1 (f : Nat) (ds : List LV) : Option LRes :=
  match f with
  | 98 => match ds with
    | [.agg (.flat .u64 a), .agg (.flat .u64 b)] => if isW a = true ∧ isW b = true then some (two (((vl a) + (vl b)) % 2 ^ 256) (((vl a) + (vl b)) / 2 ^ 256)) else none
    | _ => none
  | 99 => match ds with
    | [.agg (.flat .u64 a), .agg (.flat .u64 b)] => if isW a = true ∧ isW b = true then some (two (((vl a) + 2 ^ 256 - (vl b)) % 2 ^ 256) (lt1 (vl a) (vl b))) else none
    | _ => none
  | 97 => match ds with
    | [.agg (.flat .u64 a), .agg (.flat .u64 b)] => if isW a = true ∧ isW b = true then some (ret1 (W8 ((vl a) * (vl b)))) else none
    | _ => none
  | 36 => match ds with
    | [] => some (ret1 (W pP))
    | _ => none
  | 64 => match ds with
    | [] => some (ret1 (W qQ))
    | _ => none
  | _ => orcR0 f ds
theorem orcR1_ok : Known Tryz.prog orcR1 := by
  intro f ds r h
  unfold orcR1 at h
  split at h
  · split at h
    · split at h
      · rename_i hc
        cases h
        exact .inl ⟨⟨_, Tryz.func98, name_ne _ (by kernel_rfl), rfl⟩, rplusN_row hc⟩
      · cases h
    · cases h
  · split at h
    · split at h
      · rename_i hc
        cases h
        exact .inl ⟨⟨_, Tryz.func99, name_ne _ (by kernel_rfl), rfl⟩, rminusN_row hc⟩
      · cases h
    · cases h
  · split at h
    · split at h
      · rename_i hc
        cases h
        exact .inl ⟨⟨_, Tryz.func97, name_ne _ (by kernel_rfl), rfl⟩, rproduct_row hc⟩
      · cases h
    · cases h
  · split at h
    · cases h
      exact .inl ⟨⟨_, Tryz.func36, name_ne _ (by kernel_rfl), rfl⟩, rP_call⟩
    · cases h
  · split at h
    · cases h
      exact .inl ⟨⟨_, Tryz.func64, name_ne _ (by kernel_rfl), rfl⟩, rQ_call⟩
    · cases h
  · exact orcR0_ok f ds r h
def ER1 : Env := ⟨tyL, orcR1, false, noWk, noOrw⟩
theorem ER1_ok : EnvOk Tryz.prog ER1 := ⟨tyL_ok, orcR1_ok, noOrw_ok⟩
theorem is_ER1 {f : Nat} {ds : List LV} {K : LRes → Prop} (h : ∃ y, ER1.orc f ds = some y ∧ K y) : ∃ y, ER1.orc f ds = some y ∧ K y := h
theorem o_rplusN {a b : Nat} (ha : a < 2 ^ 256) (hb : b < 2 ^ 256) : ER1.orc 98 [W a, W b] = some (two ((a + b) % 2 ^ 256) ((a + b) / 2 ^ 256)) :=
  (if_pos ⟨isW_wd ha, isW_wd hb⟩).trans (by rw [wd_vl _ ha, wd_vl _ hb])
theorem o_rminusN {a b : Nat} (ha : a < 2 ^ 256) (hb : b < 2 ^ 256) : ER1.orc 99 [W a, W b] = some (two ((a + 2 ^ 256 - b) % 2 ^ 256) (lt1 a b)) :=
  (if_pos ⟨isW_wd ha, isW_wd hb⟩).trans (by rw [wd_vl _ ha, wd_vl _ hb])
theorem o_rproduct {a b : Nat} (ha : a < 2 ^ 256) (hb : b < 2 ^ 256) : ER1.orc 97 [W a, W b] = some (ret1 (W8 (a * b))) :=
  (if_pos ⟨isW_wd ha, isW_wd hb⟩).trans (by rw [wd_vl _ ha, wd_vl _ hb])
set_option maxRecDepth 100000 in
set_option maxHeartbeats 1600000 in
theorem rBelow_call (a b : Nat) (ha : a < 2 ^ 256) (hb : b < 2 ^ 256) : CallOk Tryz.prog 62 [W a, W b] (ret1 (.v (.bool (decide (a < b))))) := by
  rw [← lt1_beq]
  refine execF_ok follows_ok ER1_ok Tryz.func62 ?_
  ((conv => whnf); repeat ((first | ((with_reducible refine is_ER1 ?_); first | refine ⟨_, o_rminusN ha hb, ?_⟩) | refine ⟨_, rfl, ?_⟩ | refine ⟨rfl, ?_⟩); conv => whnf))
  rfl
theorem rBelow_row {a b : List Int} (hc : isW a = true ∧ isW b = true) : CallOk Tryz.prog 62 [.agg (.flat .u64 a), .agg (.flat .u64 b)] (ret1 (.v (.bool (decide ((vl a) < (vl b)))))) := by
  obtain ⟨h0, h1⟩ := hc
  have e0 := isW_eq h0
  have l0 := vl_lt h0
  clear h0
  generalize vl a = n0 at *
  subst e0
  have e1 := isW_eq h1
  have l1 := vl_lt h1
  clear h1
  generalize vl b = n1 at *
  subst e1
  exact rBelow_call n0 n1 l0 l1 
def orcR2 (f : Nat) (ds : List LV) : Option LRes :=
  match f with
  | 62 => match ds with
    | [.agg (.flat .u64 a), .agg (.flat .u64 b)] => if isW a = true ∧ isW b = true then some (ret1 (.v (.bool (decide ((vl a) < (vl b)))))) else none
    | _ => none
  | _ => orcR1 f ds
theorem orcR2_ok : Known Tryz.prog orcR2 := by
  intro f ds r h
  unfold orcR2 at h
  split at h
  · split at h
    · split at h
      · rename_i hc
        cases h
        exact .inl ⟨⟨_, Tryz.func62, name_ne _ (by kernel_rfl), rfl⟩, rBelow_row hc⟩
      · cases h
    · cases h
  · exact orcR1_ok f ds r h
def ER2 : Env := ⟨tyL, orcR2, false, noWk, noOrw⟩
theorem ER2_ok : EnvOk Tryz.prog ER2 := ⟨tyL_ok, orcR2_ok, noOrw_ok⟩
theorem is_ER2 {f : Nat} {ds : List LV} {K : LRes → Prop} (h : ∃ y, ER2.orc f ds = some y ∧ K y) : ∃ y, ER2.orc f ds = some y ∧ K y := h
theorem o_rBelow {a b : Nat} (ha : a < 2 ^ 256) (hb : b < 2 ^ 256) : ER2.orc 62 [W a, W b] = some (ret1 (.v (.bool (decide (a < b))))) :=
  (if_pos ⟨isW_wd ha, isW_wd hb⟩).trans (by rw [wd_vl _ ha, wd_vl _ hb])
theorem r_plus2 {a b : Nat} (ha : a < 2 ^ 256) (hb : b < 2 ^ 256) : ER2.orc 98 [W a, W b] = some (two ((a + b) % 2 ^ 256) ((a + b) / 2 ^ 256)) := (show ER2.orc 98 [W a, W b] = ER1.orc 98 [W a, W b] from rfl).trans (o_rplusN ha hb)
theorem r_minus2 {a b : Nat} (ha : a < 2 ^ 256) (hb : b < 2 ^ 256) : ER2.orc 99 [W a, W b] = some (two ((a + 2 ^ 256 - b) % 2 ^ 256) (lt1 a b)) := (show ER2.orc 99 [W a, W b] = ER1.orc 99 [W a, W b] from rfl).trans (o_rminusN ha hb)
theorem r_product2 {a b : Nat} (ha : a < 2 ^ 256) (hb : b < 2 ^ 256) : ER2.orc 97 [W a, W b] = some (ret1 (W8 (a * b))) := (show ER2.orc 97 [W a, W b] = ER1.orc 97 [W a, W b] from rfl).trans (o_rproduct ha hb)
theorem r_P2 : ER2.orc 36 [] = some (ret1 (W pP)) := rfl
theorem sub_mod256 {a b : Nat} (ha : a < 2 ^ 256) (h : b ≤ a) : (a + 2 ^ 256 - b) % 2 ^ 256 = a - b := by omega
set_option maxRecDepth 100000 in
set_option maxHeartbeats 1600000 in
theorem rMod_exec (a : Nat) (ha : a < 2 ^ 256) : execF ER2 Tryz.f72 [W a] (ret1 (W (a % pP))) := by
  ((conv => whnf); repeat ((first | refine ⟨_, rfl, ?_⟩ | refine ⟨by decide, ?_⟩ | refine ⟨rfl, ?_⟩ | refine ⟨fun _ => ?_, fun h => absurd h (by decide)⟩ | refine ⟨fun h => absurd h (by decide), fun _ => ?_⟩ | refine ⟨inI_of (by omega), ?_⟩ | refine ⟨⟨rfl, inI_of (by omega)⟩, ?_⟩ | refine ⟨⟨rfl, by decide⟩, ?_⟩ | (apply Exists.intro; refine ⟨?_, ?_⟩; ((try simp only); (try simp only [Nat.zero_add]); (try simp only [Nat.mul_one]); (try simp only [Int.toNat_natCast]); first | exact at_g (by omega) | exact put_flat (by omega))) | refine ⟨_, cut_all (by omega), ?_⟩ | refine ⟨_, lay_all (by omega) (by omega), ?_⟩ | refine ⟨_, lay_all (by (try simp only); (try simp only [List.length_replicate]); (try simp only [List.length_cons]); (try simp only [List.length_nil]); omega) (by omega), ?_⟩ | refine ⟨by omega, ?_⟩ | refine ⟨len_flat (by omega), ?_⟩ | refine ⟨apart_uv _ _ _, ?_⟩ | refine ⟨_, resSlot_own rfl (by omega) (by first | exact .inl rfl | exact .inr ⟨rfl, rfl⟩), ?_⟩ | refine ⟨(by kernel_rfl : regB _ = true), ?_⟩ | refine ⟨⟨rfl, inI_of (by omega), by decide⟩, ?_⟩ | (apply Exists.intro; refine ⟨?_, ?_⟩; ((try simp only); (try simp only [Nat.zero_add]); (try simp only [Nat.mul_one]); (try simp only [Int.toNat_natCast]); first | exact at_drop_g (by omega) | exact cut_rest (by omega)))); conv => whnf))
  refine .inl ⟨fun m st => ∃ b : Nat, m = b ∧ b < 2 ^ 256 ∧ b % pP = a % pP ∧ st = ⟨[.poison, .ptr 8 0, .ptr 16 0, .poison, .poison, .poison, .poison, .poison, .poison, .poison, .poison, .poison, .poison, .poison],
      [(8, ⟨.flat .u64 (wd b), 54, false⟩), (16, ⟨.flat .u64 [0, 0, 0, 0], 54, false⟩)]⟩,
      ⟨[0, 3, 4, 5, 6, 7, 8, 9, 10, 11, 12, 13], [], a, a, rfl, ha, rfl, by kernel_rfl⟩, ?_⟩
  rintro b _ ⟨_, rfl, hb, hm, rfl⟩
  have f1 := o_rBelow hb pP_lt
  by_cases h : b < pP
  · have q : (!(decide (b < pP))) = false := by rw [decide_eq_true h]; rfl
    rw [Nat.mod_eq_of_lt h] at hm
    rw [← hm]
    ((conv => whnf); repeat ((first | refine ⟨fun _ => ?_, fun h => absurd ((q).symm.trans h) (by decide)⟩ | refine ⟨fun h => absurd ((q).symm.trans h) (by decide), fun _ => ?_⟩ | ((with_reducible refine is_ER2 ?_); first | refine ⟨_, f1, ?_⟩ | refine ⟨_, r_P2, ?_⟩) | refine ⟨_, rfl, ?_⟩ | refine ⟨by decide, ?_⟩ | refine ⟨rfl, ?_⟩); conv => whnf))
    rfl
  · have q : (!(decide (b < pP))) = true := by rw [decide_eq_false h]; rfl
    have f2 := r_minus2 hb pP_lt
    rw [sub_mod256 hb (by omega)] at f2
    ((conv => whnf); repeat ((first | refine ⟨fun _ => ?_, fun h => absurd ((q).symm.trans h) (by decide)⟩ | refine ⟨fun h => absurd ((q).symm.trans h) (by decide), fun _ => ?_⟩ | ((with_reducible refine is_ER2 ?_); first | refine ⟨_, f1, ?_⟩ | refine ⟨_, f2, ?_⟩ | refine ⟨_, r_P2, ?_⟩) | refine ⟨_, rfl, ?_⟩ | refine ⟨by decide, ?_⟩ | refine ⟨rfl, ?_⟩); conv => whnf))
    refine ⟨[0, 3, 4, 5, 6, 7, 8, 9, 10, 11, 12, 13], [], b - pP, ?_, b - pP, rfl, by omega, ?_, by kernel_rfl⟩
    · have := pP_pos
      omega
    · exact (Nat.mod_eq_sub_mod (by omega)).symm.trans hm
theorem rMod_call (a : Nat) (ha : a < 2 ^ 256) : CallOk Tryz.prog 72 [W a] (ret1 (W (a % pP))) := execF_ok follows_ok ER2_ok Tryz.func72 (rMod_exec a ha)
theorem rMod_row {a : List Int} (hc : isW a = true) : CallOk Tryz.prog 72 [.agg (.flat .u64 a)] (ret1 (W ((vl a) % pP))) := by
  have h0 := hc
  clear hc
  have e0 := isW_eq h0
  have l0 := vl_lt h0
  clear h0
  generalize vl a = n0 at *
  subst e0
  exact rMod_call n0 l0 
def orcR3 (f : Nat) (ds : List LV) : Option LRes :=
  match f with
  | 72 => match ds with
    | [.agg (.flat .u64 a)] => if isW a = true then some (ret1 (W ((vl a) % pP))) else none
    | _ => none
  | _ => orcR2 f ds
theorem orcR3_ok : Known Tryz.prog orcR3 := by
  intro f ds r h
  unfold orcR3 at h
  split at h
  · split at h
    · split at h
      · rename_i hc
        cases h
        exact .inl ⟨⟨_, Tryz.func72, name_ne _ (by kernel_rfl), rfl⟩, rMod_row hc⟩
      · cases h
    · cases h
  · exact orcR2_ok f ds r h
def ER3 : Env := ⟨tyL, orcR3, false, noWk, noOrw⟩
theorem ER3_ok : EnvOk Tryz.prog ER3 := ⟨tyL_ok, orcR3_ok, noOrw_ok⟩
theorem is_ER3 {f : Nat} {ds : List LV} {K : LRes → Prop} (h : ∃ y, ER3.orc f ds = some y ∧ K y) : ∃ y, ER3.orc f ds = some y ∧ K y := h
theorem o_rMod {a : Nat} (ha : a < 2 ^ 256) : ER3.orc 72 [W a] = some (ret1 (W (a % pP))) :=
  (if_pos (isW_wd ha)).trans (by rw [wd_vl _ ha])
theorem r_plus3 {a b : Nat} (ha : a < 2 ^ 256) (hb : b < 2 ^ 256) : ER3.orc 98 [W a, W b] = some (two ((a + b) % 2 ^ 256) ((a + b) / 2 ^ 256)) := (show ER3.orc 98 [W a, W b] = ER2.orc 98 [W a, W b] from rfl).trans (r_plus2 ha hb)
theorem r_minus3 {a b : Nat} (ha : a < 2 ^ 256) (hb : b < 2 ^ 256) : ER3.orc 99 [W a, W b] = some (two ((a + 2 ^ 256 - b) % 2 ^ 256) (lt1 a b)) := (show ER3.orc 99 [W a, W b] = ER2.orc 99 [W a, W b] from rfl).trans (r_minus2 ha hb)
theorem r_product3 {a b : Nat} (ha : a < 2 ^ 256) (hb : b < 2 ^ 256) : ER3.orc 97 [W a, W b] = some (ret1 (W8 (a * b))) := (show ER3.orc 97 [W a, W b] = ER2.orc 97 [W a, W b] from rfl).trans (r_product2 ha hb)
theorem r_P3 : ER3.orc 36 [] = some (ret1 (W pP)) := rfl
set_option maxRecDepth 100000 in
set_option maxHeartbeats 1600000 in
theorem rPlus_call (a b : Nat) (ha : a < 2 ^ 256) (hb : b < 2 ^ 256) (x0 : a + b < 2 ^ 256) : CallOk Tryz.prog 74 [W a, W b] (ret1 (W ((a + b) % pP))) := by
  have f1 := r_plus3 ha hb
  rw [Nat.mod_eq_of_lt x0] at f1
  refine execF_ok follows_ok ER3_ok Tryz.func74 ?_
  ((conv => whnf); repeat ((first | ((with_reducible refine is_ER3 ?_); first | refine ⟨_, f1, ?_⟩ | refine ⟨_, o_rMod x0, ?_⟩) | refine ⟨_, rfl, ?_⟩ | refine ⟨rfl, ?_⟩); conv => whnf))
  rfl
def minR (a b : Nat) : Nat := if a < b then a + pP - b else a - b
set_option maxRecDepth 100000 in
set_option maxHeartbeats 1600000 in
theorem rMinus_call (a b : Nat) (ha : a < 2 ^ 256) (hb : b < 2 ^ 256) (x0 : b ≤ pP) : CallOk Tryz.prog 73 [W a, W b] (ret1 (W (minR a b))) := by
  have f1 := r_minus3 ha hb
  by_cases h : a < b
  · rw [lt1_yes h] at f1
    have f2 := r_plus3 (a := (a + 2 ^ 256 - b) % 2 ^ 256) (b := pP) (by omega) pP_lt
    rw [show ((a + 2 ^ 256 - b) % 2 ^ 256 + pP) % 2 ^ 256 = minR a b by rw [minR, if_pos h]; have := pP_lt; omega] at f2
    refine execF_ok follows_ok ER3_ok Tryz.func73 ?_
    ((conv => whnf); repeat ((first | ((with_reducible refine is_ER3 ?_); first | refine ⟨_, f1, ?_⟩ | refine ⟨_, f2, ?_⟩ | refine ⟨_, r_P3, ?_⟩) | refine ⟨_, rfl, ?_⟩ | refine ⟨by decide, ?_⟩ | refine ⟨rfl, ?_⟩ | refine ⟨fun _ => ?_, fun h => absurd h (by decide)⟩); conv => whnf))
    rfl
  · rw [lt1_no h, sub_mod256 ha (by omega)] at f1
    rw [minR, if_neg h]
    refine execF_ok follows_ok ER3_ok Tryz.func73 ?_
    ((conv => whnf); repeat ((first | ((with_reducible refine is_ER3 ?_); first | refine ⟨_, f1, ?_⟩) | refine ⟨_, rfl, ?_⟩ | refine ⟨rfl, ?_⟩ | refine ⟨fun h => absurd h (by decide), fun _ => ?_⟩); conv => whnf))
    rfl
theorem oStep3 {x y p q : Int} (ux : U x) (uy : U y) (up : U p) (uq : U q) : ∃ h l s c t d : Int, ER3.orc 113 [iv .u64 x, iv .u64 y] = some (.many [.val (iv .u64 h), .val (iv .u64 l)]) ∧
    ER3.orc 114 [iv .u64 l, iv .u64 p, iv .u64 0] = some (.many [.val (iv .u64 s), .val (iv .u64 c)]) ∧ ER3.orc 114 [iv .u64 s, iv .u64 q, iv .u64 0] = some (.many [.val (iv .u64 t), .val (iv .u64 d)]) ∧
    U t ∧ U (IntKind.u64.wrap (IntKind.u64.wrap (h + c) + d)) ∧ t + 18446744073709551616 * IntKind.u64.wrap (IntKind.u64.wrap (h + c) + d) = x * y + p + q := oStep ux uy up uq
theorem W38 : W 38 = .agg (.flat .u64 [38, 0, 0, 0]) := by kernel_rfl
theorem W_small (n : Nat) (h : n < 18446744073709551616) : wd n = [((n : Nat) : Int), 0, 0, 0] := (wd_of (e := 0) ⟨by omega, by omega⟩ U_zero U_zero U_zero (by omega)).1
set_option maxRecDepth 100000 in
set_option maxHeartbeats 1600000 in
theorem rTimes_call (a b : Nat) (ha : a < 2 ^ 256) (hb : b < 2 ^ 256) : CallOk Tryz.prog 82 [W a, W b] (ret1 (W (a * b % pP))) := by
  have hn := mul_lt512 ha hb
  have f := r_product3 ha hb
  obtain ⟨n, en⟩ : ∃ n, n = a * b := ⟨_, rfl⟩
  rw [← en] at f hn ⊢
  obtain ⟨h0, l0, s0, c0, t0, d0, g0, k0, m0, u0, v0, q0⟩ := oStep3 (dg_U n 4) U38 (dg_U n 0) U_zero
  obtain ⟨h1, l1, s1, c1, t1, d1, g1, k1, m1, u1, v1, q1⟩ := oStep3 (dg_U n 5) U38 (dg_U n 1) v0
  obtain ⟨h2, l2, s2, c2, t2, d2, g2, k2, m2, u2, v2, q2⟩ := oStep3 (dg_U n 6) U38 (dg_U n 2) v1
  obtain ⟨h3, l3, s3, c3, t3, d3, g3, k3, m3, u3, v3, q3⟩ := oStep3 (dg_U n 7) U38 (dg_U n 3) v2
  obtain ⟨e1, e2⟩ := fold38 hn u0 u1 u2 u3 q0 q1 q2 q3
  have er := red38 n
  have hs : n / 2 ^ 256 * 38 + n % 2 ^ 256 < 2 ^ 256 * 39 := by omega
  generalize n / 2 ^ 256 * 38 + n % 2 ^ 256 = s at e1 e2 er hs
  rw [W8, wd8] at f
  generalize dg n 0 = x0 at *; generalize dg n 1 = x1 at *; generalize dg n 2 = x2 at *; generalize dg n 3 = x3 at *
  generalize dg n 4 = x4 at *; generalize dg n 5 = x5 at *; generalize dg n 6 = x6 at *; generalize dg n 7 = x7 at *
  have hq : s / 2 ^ 256 < 39 := by omega
  have e3 : wd (38 * (s / 2 ^ 256)) = [IntKind.u64.wrap (IntKind.u64.wrap (IntKind.u64.wrap (h3 + c3) + d3) * 38), 0, 0, 0] := by
    rw [← e2, W_small _ (by omega), IntKind.wrap_u64]
    congr 1
    omega
  have f1 := r_plus3 (a := s % 2 ^ 256) (b := 38 * (s / 2 ^ 256)) (by omega) (by omega)
  rw [W, W, e1, e3] at f1
  obtain ⟨y, ey⟩ : ∃ y, y = s % 2 ^ 256 + 38 * (s / 2 ^ 256) := ⟨_, rfl⟩
  have hy : y < 2 ^ 256 + 2000 := by omega
  have hyr : y % pP = n % pP := by
    rw [← er]
    have : s = y + pP * (2 * (s / 2 ^ 256)) := by unfold pP; omega
    rw [this, Nat.add_mul_mod_self_left]
  rw [← ey] at f1
  by_cases h : y < 2 ^ 256
  · rw [Nat.div_eq_of_lt h, Nat.mod_eq_of_lt h] at f1
    have f3 := o_rMod h
    rw [hyr] at f3
    refine execF_ok follows_ok ER3_ok Tryz.func82 ?_
    ((conv => whnf); repeat ((first | refine .inr ⟨5, ?_⟩ | ((with_reducible refine is_ER3 ?_); first | refine ⟨_, f, ?_⟩ | refine ⟨_, g0, ?_⟩ | refine ⟨_, g1, ?_⟩ | refine ⟨_, g2, ?_⟩ | refine ⟨_, g3, ?_⟩ | refine ⟨_, k0, ?_⟩ | refine ⟨_, k1, ?_⟩ | refine ⟨_, k2, ?_⟩ | refine ⟨_, k3, ?_⟩ | refine ⟨_, m0, ?_⟩ | refine ⟨_, m1, ?_⟩ | refine ⟨_, m2, ?_⟩ | refine ⟨_, m3, ?_⟩ | refine ⟨_, f1, ?_⟩ | refine ⟨_, f3, ?_⟩) | refine ⟨_, rfl, ?_⟩ | refine ⟨by decide, ?_⟩ | refine ⟨rfl, ?_⟩ | refine ⟨fun _ => ?_, fun h => absurd h (by decide)⟩ | refine ⟨fun h => absurd h (by decide), fun _ => ?_⟩); conv => whnf))
    rfl
  · rw [show y / 2 ^ 256 = 1 by omega] at f1
    have f2 := r_plus3 (a := y % 2 ^ 256) (b := 38) (by omega) (by decide)
    rw [W38] at f2
    have f3 := o_rMod (a := (y % 2 ^ 256 + 38) % 2 ^ 256) (by omega)
    rw [show (y % 2 ^ 256 + 38) % 2 ^ 256 % pP = n % pP by
      rw [← hyr]
      have : y = (y % 2 ^ 256 + 38) % 2 ^ 256 + pP * 2 := by unfold pP; omega
      rw [show y % pP = ((y % 2 ^ 256 + 38) % 2 ^ 256 + pP * 2) % pP by rw [← this], Nat.add_mul_mod_self_left]] at f3
    refine execF_ok follows_ok ER3_ok Tryz.func82 ?_
    ((conv => whnf); repeat ((first | refine .inr ⟨5, ?_⟩ | ((with_reducible refine is_ER3 ?_); first | refine ⟨_, f, ?_⟩ | refine ⟨_, g0, ?_⟩ | refine ⟨_, g1, ?_⟩ | refine ⟨_, g2, ?_⟩ | refine ⟨_, g3, ?_⟩ | refine ⟨_, k0, ?_⟩ | refine ⟨_, k1, ?_⟩ | refine ⟨_, k2, ?_⟩ | refine ⟨_, k3, ?_⟩ | refine ⟨_, m0, ?_⟩ | refine ⟨_, m1, ?_⟩ | refine ⟨_, m2, ?_⟩ | refine ⟨_, m3, ?_⟩ | refine ⟨_, f1, ?_⟩ | refine ⟨_, f2, ?_⟩ | refine ⟨_, f3, ?_⟩) | refine ⟨_, rfl, ?_⟩ | refine ⟨by decide, ?_⟩ | refine ⟨rfl, ?_⟩ | refine ⟨fun _ => ?_, fun h => absurd h (by decide)⟩ | refine ⟨fun h => absurd h (by decide), fun _ => ?_⟩); conv => whnf))
    rfl
theorem rTimes_row {a b : List Int} (hc : isW a = true ∧ isW b = true) : CallOk Tryz.prog 82 [.agg (.flat .u64 a), .agg (.flat .u64 b)] (ret1 (W ((vl a) * (vl b) % pP))) := by
  obtain ⟨h0, h1⟩ := hc
  have e0 := isW_eq h0
  have l0 := vl_lt h0
  clear h0
  generalize vl a = n0 at *
  subst e0
  have e1 := isW_eq h1
  have l1 := vl_lt h1
  clear h1
  generalize vl b = n1 at *
  subst e1
  exact rTimes_call n0 n1 l0 l1 
theorem rPlus_row {a b : List Int} (hc : isW a = true ∧ isW b = true ∧ (vl a) + (vl b) < 2 ^ 256) : CallOk Tryz.prog 74 [.agg (.flat .u64 a), .agg (.flat .u64 b)] (ret1 (W (((vl a) + (vl b)) % pP))) := by
  obtain ⟨h0, h1, h2⟩ := hc
  have e0 := isW_eq h0
  have l0 := vl_lt h0
  clear h0
  generalize vl a = n0 at *
  subst e0
  have e1 := isW_eq h1
  have l1 := vl_lt h1
  clear h1
  generalize vl b = n1 at *
  subst e1
  exact rPlus_call n0 n1 l0 l1 h2
theorem rMinus_row {a b : List Int} (hc : isW a = true ∧ isW b = true ∧ (vl b) ≤ pP) : CallOk Tryz.prog 73 [.agg (.flat .u64 a), .agg (.flat .u64 b)] (ret1 (W (minR (vl a) (vl b)))) := by
  obtain ⟨h0, h1, h2⟩ := hc
  have e0 := isW_eq h0
  have l0 := vl_lt h0
  clear h0
  generalize vl a = n0 at *
  subst e0
  have e1 := isW_eq h1
  have l1 := vl_lt h1
  clear h1
  generalize vl b = n1 at *
  subst e1
  exact rMinus_call n0 n1 l0 l1 h2
def orcR4 (f : Nat) (ds : List LV) : Option LRes :=
  match f with
  | 82 => match ds with
    | [.agg (.flat .u64 a), .agg (.flat .u64 b)] => if isW a = true ∧ isW b = true then some (ret1 (W ((vl a) * (vl b) % pP))) else none
    | _ => none
  | 74 => match ds with
    | [.agg (.flat .u64 a), .agg (.flat .u64 b)] => if isW a = true ∧ isW b = true ∧ (vl a) + (vl b) < 2 ^ 256 then some (ret1 (W (((vl a) + (vl b)) % pP))) else none
    | _ => none
  | 73 => match ds with
    | [.agg (.flat .u64 a), .agg (.flat .u64 b)] => if isW a = true ∧ isW b = true ∧ (vl b) ≤ pP then some (ret1 (W (minR (vl a) (vl b)))) else none
    | _ => none
  | _ => orcR3 f ds
theorem orcR4_ok : Known Tryz.prog orcR4 := by
  intro f ds r h
  unfold orcR4 at h
  split at h
  · split at h
    · split at h
      · rename_i hc
        cases h
        exact .inl ⟨⟨_, Tryz.func82, name_ne _ (by kernel_rfl), rfl⟩, rTimes_row hc⟩
      · cases h
    · cases h
  · split at h
    · split at h
      · rename_i hc
        cases h
        exact .inl ⟨⟨_, Tryz.func74, name_ne _ (by kernel_rfl), rfl⟩, rPlus_row hc⟩
      · cases h
    · cases h
  · split at h
    · split at h
      · rename_i hc
        cases h
        exact .inl ⟨⟨_, Tryz.func73, name_ne _ (by kernel_rfl), rfl⟩, rMinus_row hc⟩
      · cases h
    · cases h
  · exact orcR3_ok f ds r h
def ER4 : Env := ⟨tyL, orcR4, false, noWk, noOrw⟩
theorem ER4_ok : EnvOk Tryz.prog ER4 := ⟨tyL_ok, orcR4_ok, noOrw_ok⟩
theorem is_ER4 {f : Nat} {ds : List LV} {K : LRes → Prop} (h : ∃ y, ER4.orc f ds = some y ∧ K y) : ∃ y, ER4.orc f ds = some y ∧ K y := h
theorem o_rTimes {a b : Nat} (ha : a < 2 ^ 256) (hb : b < 2 ^ 256) : ER4.orc 82 [W a, W b] = some (ret1 (W (a * b % pP))) :=
  (if_pos ⟨isW_wd ha, isW_wd hb⟩).trans (by rw [wd_vl _ ha, wd_vl _ hb])
theorem o_rPlus {a b : Nat} (ha : a < 2 ^ 256) (hb : b < 2 ^ 256) (x0 : a + b < 2 ^ 256) : ER4.orc 74 [W a, W b] = some (ret1 (W ((a + b) % pP))) :=
  (if_pos ⟨isW_wd ha, isW_wd hb, by first | exact x0 | (rw [wd_vl _ ha, wd_vl _ hb]; exact x0) | (rw [wd_vl _ ha]; exact x0) | (rw [wd_vl _ hb]; exact x0)⟩).trans (by rw [wd_vl _ ha, wd_vl _ hb])
theorem o_rMinus {a b : Nat} (ha : a < 2 ^ 256) (hb : b < 2 ^ 256) (x0 : b ≤ pP) : ER4.orc 73 [W a, W b] = some (ret1 (W (minR a b))) :=
  (if_pos ⟨isW_wd ha, isW_wd hb, by first | exact x0 | (rw [wd_vl _ ha, wd_vl _ hb]; exact x0) | (rw [wd_vl _ ha]; exact x0) | (rw [wd_vl _ hb]; exact x0)⟩).trans (by rw [wd_vl _ ha, wd_vl _ hb])
theorem r_plus4 {a b : Nat} (ha : a < 2 ^ 256) (hb : b < 2 ^ 256) : ER4.orc 98 [W a, W b] = some (two ((a + b) % 2 ^ 256) ((a + b) / 2 ^ 256)) := (show ER4.orc 98 [W a, W b] = ER3.orc 98 [W a, W b] from rfl).trans (r_plus3 ha hb)
theorem r_minus4 {a b : Nat} (ha : a < 2 ^ 256) (hb : b < 2 ^ 256) : ER4.orc 99 [W a, W b] = some (two ((a + 2 ^ 256 - b) % 2 ^ 256) (lt1 a b)) := (show ER4.orc 99 [W a, W b] = ER3.orc 99 [W a, W b] from rfl).trans (r_minus3 ha hb)
theorem r_product4 {a b : Nat} (ha : a < 2 ^ 256) (hb : b < 2 ^ 256) : ER4.orc 97 [W a, W b] = some (ret1 (W8 (a * b))) := (show ER4.orc 97 [W a, W b] = ER3.orc 97 [W a, W b] from rfl).trans (r_product3 ha hb)
theorem bit_gu {l : List Int} {e i : Nat} (h : g l (i / 64) = dg e (i / 64)) : bits .and .u64 ((g l (i / 64)).fdiv (2 ^ min (IntKind.u64.wrap ((i : Int).tmod 64)).toNat IntKind.u64.bits)) 1 = if Nat.testBit e i then 1 else 0 := by
  rw [show IntKind.u64.wrap ((i : Int).tmod 64) = (i : Int).tmod 64 by rw [show (64 : Int) = ((64 : Nat) : Int) from rfl, tmod_nat, wrapN _ (by omega)]]
  exact bit_g h
set_option maxRecDepth 100000 in
set_option maxHeartbeats 1600000 in
theorem rPower_exec (x e : Nat) (l : List Int) (hl : l = wd e) (hx : x < 2 ^ 256) : execF ER4 Tryz.f105 [W x, .agg (.flat .u64 l)] (ret1 (W (pw x e))) := by
  have hlen : l.length = 4 := by rw [hl]; rfl
  ((conv => whnf); repeat ((first | refine ⟨_, rfl, ?_⟩ | refine ⟨by decide, ?_⟩); conv => whnf))
  refine .inl ⟨fun m st => ∃ i : Nat, m = i ∧ i ≤ 256 ∧ st = ⟨[.poison, .poison, .ptr 16 0, .ptr 24 0, .ptr 32 0, .ptr 40 0, iv .i64 ((i : Int) - 1), .poison, .poison, .poison, .poison, .poison, .poison, .poison, .poison, .poison, .poison, .poison, .poison, .poison, .poison, .poison, .poison, .poison, .poison, .poison, .poison, .poison, .poison],
      [(16, ⟨.flat .u64 (wd x), 54, false⟩), (24, ⟨.flat .u64 l, 54, false⟩), (32, ⟨.flat .u64 [0, 0, 0, 0], 54, false⟩), (40, ⟨.flat .u64 (wd (pwk x e (256 - i))), 54, false⟩)]⟩,
      ⟨[0, 1, 7, 8, 9, 10, 11, 12, 13, 14, 15, 16, 17, 18, 19, 20, 21, 22, 23, 24, 25, 26, 27, 28], [], 256, 256, rfl, by omega, by kernel_rfl⟩, ?_⟩
  rintro i _ ⟨_, rfl, hi, rfl⟩
  cases i with
  | zero =>
    conv => whnf
    refine ⟨fun h => absurd h (by decide), fun _ => ?_⟩
    ((conv => whnf); repeat ((first | refine ⟨_, rfl, ?_⟩ | refine ⟨rfl, ?_⟩); conv => whnf))
    rfl
  | succ j =>
    rw [down1, show 256 - (j + 1) = 255 - j by omega]
    have f1 := o_rTimes (pwk_lt x e (255 - j)) (pwk_lt x e (255 - j))
    have f2 := o_rTimes (mod_lt256 (pwk x e (255 - j) * pwk x e (255 - j))) hx
    have e1 := tdiv64 j (by omega)
    have e2 := down64 j (by omega)
    have eb := bit_gu (l := l) (e := e) (i := j) (by rw [hl, g_wd _ _ (by omega)])
    have hs : pwk x e (256 - j) = if Nat.testBit e j then pwk x e (255 - j) * pwk x e (255 - j) % pP * x % pP else pwk x e (255 - j) * pwk x e (255 - j) % pP := by
      rw [show 256 - j = 255 - j + 1 by omega, pwk, show 255 - (255 - j) = j by omega]
    have h0 : decide ((j : Int) ≥ 0) = true := decide_eq_true (by omega)
    rcases hb : Nat.testBit e j with _ | _
    · rw [hb] at eb hs
      have q : (bits .and .u64 ((g l (j / 64)).fdiv (2 ^ min (IntKind.u64.wrap ((j : Int).tmod 64)).toNat IntKind.u64.bits)) 1 == 1) = false := by rw [eb]; rfl
      ((conv => whnf); repeat ((first | refine ⟨fun _ => ?_, fun h => absurd ((h0).symm.trans h) (by decide)⟩ | refine ⟨fun h => absurd ((h0).symm.trans h) (by decide), fun _ => ?_⟩ | refine ⟨fun _ => ?_, fun h => absurd ((q).symm.trans h) (by decide)⟩ | refine ⟨fun h => absurd ((q).symm.trans h) (by decide), fun _ => ?_⟩ | refine ⟨u64_nn _, ?_⟩ | ((with_reducible refine is_ER4 ?_); first | refine ⟨_, f1, ?_⟩ | refine ⟨_, f2, ?_⟩) | refine ⟨_, rfl, ?_⟩ | refine ⟨by decide, ?_⟩ | refine ⟨rfl, ?_⟩ | refine ⟨inI_of (by omega), ?_⟩ | (apply Exists.intro; refine ⟨?_, ?_⟩; ((try simp only); (try simp only [e1]); (try simp only [Nat.zero_add]); (try simp only [Nat.mul_one]); (try simp only [Int.toNat_natCast]); (try simp only [e1]); (try simp only [Nat.zero_add]); (try simp only [Nat.mul_one]); (try simp only [Int.toNat_natCast]); first | exact at_g (by omega) | exact put_flat (by omega)))); conv => whnf))
      refine ⟨[0, 1, 7, 8, 9, 10, 11, 12, 13, 14, 15, 16, 17, 18, 19, 20, 21, 22, 23, 24, 25, 26, 27, 28], [], j, ?_, j, rfl, by omega, ?_⟩
      · omega
      · rw [hs, e2]; kernel_rfl
    · rw [hb] at eb hs
      have q : (bits .and .u64 ((g l (j / 64)).fdiv (2 ^ min (IntKind.u64.wrap ((j : Int).tmod 64)).toNat IntKind.u64.bits)) 1 == 1) = true := by rw [eb]; rfl
      ((conv => whnf); repeat ((first | refine ⟨fun _ => ?_, fun h => absurd ((h0).symm.trans h) (by decide)⟩ | refine ⟨fun h => absurd ((h0).symm.trans h) (by decide), fun _ => ?_⟩ | refine ⟨fun _ => ?_, fun h => absurd ((q).symm.trans h) (by decide)⟩ | refine ⟨fun h => absurd ((q).symm.trans h) (by decide), fun _ => ?_⟩ | refine ⟨u64_nn _, ?_⟩ | ((with_reducible refine is_ER4 ?_); first | refine ⟨_, f1, ?_⟩ | refine ⟨_, f2, ?_⟩) | refine ⟨_, rfl, ?_⟩ | refine ⟨by decide, ?_⟩ | refine ⟨rfl, ?_⟩ | refine ⟨inI_of (by omega), ?_⟩ | (apply Exists.intro; refine ⟨?_, ?_⟩; ((try simp only); (try simp only [e1]); (try simp only [Nat.zero_add]); (try simp only [Nat.mul_one]); (try simp only [Int.toNat_natCast]); (try simp only [e1]); (try simp only [Nat.zero_add]); (try simp only [Nat.mul_one]); (try simp only [Int.toNat_natCast]); first | exact at_g (by omega) | exact put_flat (by omega)))); conv => whnf))
      refine ⟨[0, 1, 7, 8, 9, 10, 11, 12, 13, 14, 15, 16, 17, 18, 19, 20, 21, 22, 23, 24, 25, 26, 27, 28], [], j, ?_, j, rfl, by omega, ?_⟩
      · omega
      · rw [hs, e2]; kernel_rfl
theorem rPower_call (a b : Nat) (ha : a < 2 ^ 256) (_ : b < 2 ^ 256) : CallOk Tryz.prog 105 [W a, W b] (ret1 (W (pw a b))) := execF_ok follows_ok ER4_ok Tryz.func105 (rPower_exec a b _ rfl ha)
theorem rPower_row {a b : List Int} (hc : isW a = true ∧ isW b = true) : CallOk Tryz.prog 105 [.agg (.flat .u64 a), .agg (.flat .u64 b)] (ret1 (W (pw (vl a) (vl b)))) := by
  obtain ⟨h0, h1⟩ := hc
  have e0 := isW_eq h0
  have l0 := vl_lt h0
  clear h0
  generalize vl a = n0 at *
  subst e0
  have e1 := isW_eq h1
  have l1 := vl_lt h1
  clear h1
  generalize vl b = n1 at *
  subst e1
  exact rPower_call n0 n1 l0 l1 
def orcR5 (f : Nat) (ds : List LV) : Option LRes :=
  match f with
  | 105 => match ds with
    | [.agg (.flat .u64 a), .agg (.flat .u64 b)] => if isW a = true ∧ isW b = true then some (ret1 (W (pw (vl a) (vl b)))) else none
    | _ => none
  | _ => orcR4 f ds
theorem orcR5_ok : Known Tryz.prog orcR5 := by
  intro f ds r h
  unfold orcR5 at h
  split at h
  · split at h
    · split at h
      · rename_i hc
        cases h
        exact .inl ⟨⟨_, Tryz.func105, name_ne _ (by kernel_rfl), rfl⟩, rPower_row hc⟩
      · cases h
    · cases h
  · exact orcR4_ok f ds r h
def ER5 : Env := ⟨tyL, orcR5, false, noWk, noOrw⟩
theorem ER5_ok : EnvOk Tryz.prog ER5 := ⟨tyL_ok, orcR5_ok, noOrw_ok⟩
theorem is_ER5 {f : Nat} {ds : List LV} {K : LRes → Prop} (h : ∃ y, ER5.orc f ds = some y ∧ K y) : ∃ y, ER5.orc f ds = some y ∧ K y := h
theorem o_rPower {a b : Nat} (ha : a < 2 ^ 256) (hb : b < 2 ^ 256) : ER5.orc 105 [W a, W b] = some (ret1 (W (pw a b))) :=
  (if_pos ⟨isW_wd ha, isW_wd hb⟩).trans (by rw [wd_vl _ ha, wd_vl _ hb])
theorem r_plus5 {a b : Nat} (ha : a < 2 ^ 256) (hb : b < 2 ^ 256) : ER5.orc 98 [W a, W b] = some (two ((a + b) % 2 ^ 256) ((a + b) / 2 ^ 256)) := (show ER5.orc 98 [W a, W b] = ER4.orc 98 [W a, W b] from rfl).trans (r_plus4 ha hb)
theorem r_minus5 {a b : Nat} (ha : a < 2 ^ 256) (hb : b < 2 ^ 256) : ER5.orc 99 [W a, W b] = some (two ((a + 2 ^ 256 - b) % 2 ^ 256) (lt1 a b)) := (show ER5.orc 99 [W a, W b] = ER4.orc 99 [W a, W b] from rfl).trans (r_minus4 ha hb)
theorem r_product5 {a b : Nat} (ha : a < 2 ^ 256) (hb : b < 2 ^ 256) : ER5.orc 97 [W a, W b] = some (ret1 (W8 (a * b))) := (show ER5.orc 97 [W a, W b] = ER4.orc 97 [W a, W b] from rfl).trans (r_product4 ha hb)
theorem r_P5 : ER5.orc 36 [] = some (ret1 (W pP)) := rfl
theorem r_Times5 {a b : Nat} (ha : a < 2 ^ 256) (hb : b < 2 ^ 256) : ER5.orc 82 [W a, W b] = some (ret1 (W (a * b % pP))) := (show ER5.orc 82 [W a, W b] = ER4.orc 82 [W a, W b] from rfl).trans (o_rTimes ha hb)
theorem r_Minus5 {a b : Nat} (ha : a < 2 ^ 256) (hb : b < 2 ^ 256) (x0 : b ≤ pP) : ER5.orc 73 [W a, W b] = some (ret1 (W (minR a b))) := (show ER5.orc 73 [W a, W b] = ER4.orc 73 [W a, W b] from rfl).trans (o_rMinus ha hb x0)
theorem W_two' : W 2 = .agg (.flat .u64 [2, 0, 0, 0]) := by kernel_rfl
theorem W_three : W 3 = .agg (.flat .u64 [3, 0, 0, 0]) := by kernel_rfl
theorem W_one : W 1 = .agg (.flat .u64 [1, 0, 0, 0]) := by kernel_rfl
theorem W_zero : W 0 = .agg (.flat .u64 [0, 0, 0, 0]) := by kernel_rfl
theorem e1R_lt : e1R < 2 ^ 256 := by unfold e1R; omega
theorem e2R_lt : e2R < 2 ^ 256 := by unfold e2R; omega
theorem e3R_lt : e3R < 2 ^ 256 := by unfold e3R; omega
set_option maxRecDepth 100000 in
set_option maxHeartbeats 1600000 in
theorem rInverse_call (a : Nat) (ha : a < 2 ^ 256) : CallOk Tryz.prog 83 [W a] (ret1 (W (pw a e3R))) := by
  have f1 := r_minus5 (a := pP) (b := 2) pP_lt (by decide)
  rw [W_two', show (pP + 2 ^ 256 - 2) % 2 ^ 256 = e3R by unfold pP e3R; omega] at f1
  refine execF_ok follows_ok ER5_ok Tryz.func83 ?_
  ((conv => whnf); repeat ((first | ((with_reducible refine is_ER5 ?_); first | refine ⟨_, f1, ?_⟩ | refine ⟨_, r_P5, ?_⟩ | refine ⟨_, o_rPower ha e3R_lt, ?_⟩) | refine ⟨_, rfl, ?_⟩ | refine ⟨by decide, ?_⟩ | refine ⟨rfl, ?_⟩); conv => whnf))
  rfl
theorem beq_wdR {a b : Nat} (ha : a < 2 ^ 256) (hb : b < 2 ^ 256) : (wd a == wd b) = decide (a = b) := by
  by_cases h : a = b
  · rw [h, decide_eq_true rfl]; simp
  · rw [decide_eq_false h]
    simp only [beq_eq_false_iff_ne, ne_eq]
    exact fun e => h (wd_inj ha hb e)
theorem bit0_q (r : Nat) : (bits .and .u64 (dg r 0) 1 == 1) = decide (r % 2 = 1) := by
  rw [(dg_lit r).1]
  have h := bits_and_u64_nat (r % 18446744073709551616) 1 (by omega) (by omega)
  rw [Nat.and_one_is_mod, show r % 18446744073709551616 % 2 = r % 2 by omega] at h
  rw [show (1 : Int) = ((1 : Nat) : Int) from rfl, h]
  have : r % 2 = 0 ∨ r % 2 = 1 := by omega
  rcases this with h | h <;> rw [h] <;> rfl
def candR (x : Nat) : Nat := if pw x e1R * pw x e1R % pP = x then pw x e1R else pw x e1R * pw 2 e2R % pP
def rootR (x : Nat) : Nat × Bool := if candR x * candR x % pP = x then (if candR x % 2 = 1 then minR 0 (candR x) else candR x, true) else (0, false)
theorem pw_lt' (x e : Nat) (_ : e = e1R ∨ e = e2R) : pw x e < pP := by
  have : ∀ k, pwk x e (k + 1) < pP := fun k => by rw [pwk]; split <;> exact Nat.mod_lt _ pP_pos
  exact this 255
theorem candR_lt (x : Nat) : candR x < pP := by
  unfold candR
  split
  · exact pw_lt' _ _ (.inl rfl)
  · exact Nat.mod_lt _ pP_pos
theorem r_shift1 : ER5.orc 106 [W (pP + 3), iv .i64 3] = some (ret1 (W e1R)) := by kernel_rfl
theorem r_shift2 : ER5.orc 106 [W (pP - 1), iv .i64 2] = some (ret1 (W e2R)) := by kernel_rfl
set_option maxRecDepth 100000 in
set_option maxHeartbeats 1600000 in
theorem rRoot_call (a : Nat) (ha : a < 2 ^ 256) : CallOk Tryz.prog 71 [W a] (.many [.val (W (rootR a).1), .val (.v (.bool (rootR a).2))]) := by
  have f1 := r_plus5 (a := pP) (b := 3) pP_lt (by decide)
  rw [W_three, show (pP + 3) % 2 ^ 256 = pP + 3 by unfold pP; omega] at f1
  have f2 := o_rPower ha e1R_lt
  have f3 := r_Times5 (pw_lt a e1R) (pw_lt a e1R)
  have f4 := r_minus5 (a := pP) (b := 1) pP_lt (by decide)
  rw [W_one, show (pP + 2 ^ 256 - 1) % 2 ^ 256 = pP - 1 by unfold pP; omega] at f4
  have f5 := o_rPower (a := 2) (by decide) e2R_lt
  rw [W_two'] at f5
  have f6 := r_Times5 (pw_lt a e1R) (pw_lt 2 e2R)
  have hc := candR_lt a
  have hc' : candR a < 2 ^ 256 := Nat.lt_trans hc pP_lt
  have f7 := r_Times5 hc' hc'
  have f8 := r_Minus5 (a := 0) (b := candR a) (by decide) hc' (Nat.le_of_lt hc)
  rw [W_zero] at f8
  have b1 : (!(wd (pw a e1R * pw a e1R % pP) == wd a)) = !(decide (pw a e1R * pw a e1R % pP = a)) := by rw [beq_wdR (mod_lt256 _) ha]
  have b2 : (!(wd (candR a * candR a % pP) == wd a)) = !(decide (candR a * candR a % pP = a)) := by rw [beq_wdR (mod_lt256 _) ha]
  have b3 := bit0_q (candR a)
  by_cases h : pw a e1R * pw a e1R % pP = a
  · have hcd : candR a = pw a e1R := by rw [candR, if_pos h]
    rw [hcd] at f7 f8 b2 b3
    rw [decide_eq_true h] at b1
    by_cases h3 : pw a e1R % 2 = 1
    · rw [decide_eq_true h3] at b3
      rw [show rootR a = (minR 0 (pw a e1R), true) by rw [rootR, hcd, if_pos h, if_pos h3]]
      refine execF_ok follows_ok ER5_ok Tryz.func71 ?_
      ((conv => whnf); repeat ((first | refine ⟨fun _ => ?_, fun h => absurd ((b1).symm.trans h) (by decide)⟩ | refine ⟨fun h => absurd ((b1).symm.trans h) (by decide), fun _ => ?_⟩ | refine ⟨fun _ => ?_, fun h => absurd ((b3).symm.trans h) (by decide)⟩ | refine ⟨fun h => absurd ((b3).symm.trans h) (by decide), fun _ => ?_⟩ | ((with_reducible refine is_ER5 ?_); first | refine ⟨_, r_P5, ?_⟩ | refine ⟨_, f1, ?_⟩ | refine ⟨_, f2, ?_⟩ | refine ⟨_, f3, ?_⟩ | refine ⟨_, f4, ?_⟩ | refine ⟨_, f5, ?_⟩ | refine ⟨_, f6, ?_⟩ | refine ⟨_, f7, ?_⟩ | refine ⟨_, f8, ?_⟩ | refine ⟨_, r_shift1, ?_⟩ | refine ⟨_, r_shift2, ?_⟩) | refine ⟨_, rfl, ?_⟩ | refine ⟨by decide, ?_⟩ | refine ⟨rfl, ?_⟩); conv => whnf))
      rfl
    · rw [decide_eq_false h3] at b3
      rw [show rootR a = (pw a e1R, true) by rw [rootR, hcd, if_pos h, if_neg h3]]
      refine execF_ok follows_ok ER5_ok Tryz.func71 ?_
      ((conv => whnf); repeat ((first | refine ⟨fun _ => ?_, fun h => absurd ((b1).symm.trans h) (by decide)⟩ | refine ⟨fun h => absurd ((b1).symm.trans h) (by decide), fun _ => ?_⟩ | refine ⟨fun _ => ?_, fun h => absurd ((b3).symm.trans h) (by decide)⟩ | refine ⟨fun h => absurd ((b3).symm.trans h) (by decide), fun _ => ?_⟩ | ((with_reducible refine is_ER5 ?_); first | refine ⟨_, r_P5, ?_⟩ | refine ⟨_, f1, ?_⟩ | refine ⟨_, f2, ?_⟩ | refine ⟨_, f3, ?_⟩ | refine ⟨_, f4, ?_⟩ | refine ⟨_, f5, ?_⟩ | refine ⟨_, f6, ?_⟩ | refine ⟨_, f7, ?_⟩ | refine ⟨_, f8, ?_⟩ | refine ⟨_, r_shift1, ?_⟩ | refine ⟨_, r_shift2, ?_⟩) | refine ⟨_, rfl, ?_⟩ | refine ⟨by decide, ?_⟩ | refine ⟨rfl, ?_⟩); conv => whnf))
      rfl
  · have hcd : candR a = pw a e1R * pw 2 e2R % pP := by rw [candR, if_neg h]
    rw [hcd] at f7 f8 b2 b3
    rw [decide_eq_false h] at b1
    by_cases h2 : pw a e1R * pw 2 e2R % pP * (pw a e1R * pw 2 e2R % pP) % pP = a
    · rw [decide_eq_true h2] at b2
      by_cases h3 : pw a e1R * pw 2 e2R % pP % 2 = 1
      · rw [decide_eq_true h3] at b3
        rw [show rootR a = (minR 0 (pw a e1R * pw 2 e2R % pP), true) by rw [rootR, hcd, if_pos h2, if_pos h3]]
        refine execF_ok follows_ok ER5_ok Tryz.func71 ?_
        ((conv => whnf); repeat ((first | refine ⟨fun _ => ?_, fun h => absurd ((b1).symm.trans h) (by decide)⟩ | refine ⟨fun h => absurd ((b1).symm.trans h) (by decide), fun _ => ?_⟩ | refine ⟨fun _ => ?_, fun h => absurd ((b2).symm.trans h) (by decide)⟩ | refine ⟨fun h => absurd ((b2).symm.trans h) (by decide), fun _ => ?_⟩ | refine ⟨fun _ => ?_, fun h => absurd ((b3).symm.trans h) (by decide)⟩ | refine ⟨fun h => absurd ((b3).symm.trans h) (by decide), fun _ => ?_⟩ | ((with_reducible refine is_ER5 ?_); first | refine ⟨_, r_P5, ?_⟩ | refine ⟨_, f1, ?_⟩ | refine ⟨_, f2, ?_⟩ | refine ⟨_, f3, ?_⟩ | refine ⟨_, f4, ?_⟩ | refine ⟨_, f5, ?_⟩ | refine ⟨_, f6, ?_⟩ | refine ⟨_, f7, ?_⟩ | refine ⟨_, f8, ?_⟩ | refine ⟨_, r_shift1, ?_⟩ | refine ⟨_, r_shift2, ?_⟩) | refine ⟨_, rfl, ?_⟩ | refine ⟨by decide, ?_⟩ | refine ⟨rfl, ?_⟩); conv => whnf))
        rfl
      · rw [decide_eq_false h3] at b3
        rw [show rootR a = (pw a e1R * pw 2 e2R % pP, true) by rw [rootR, hcd, if_pos h2, if_neg h3]]
        refine execF_ok follows_ok ER5_ok Tryz.func71 ?_
        ((conv => whnf); repeat ((first | refine ⟨fun _ => ?_, fun h => absurd ((b1).symm.trans h) (by decide)⟩ | refine ⟨fun h => absurd ((b1).symm.trans h) (by decide), fun _ => ?_⟩ | refine ⟨fun _ => ?_, fun h => absurd ((b2).symm.trans h) (by decide)⟩ | refine ⟨fun h => absurd ((b2).symm.trans h) (by decide), fun _ => ?_⟩ | refine ⟨fun _ => ?_, fun h => absurd ((b3).symm.trans h) (by decide)⟩ | refine ⟨fun h => absurd ((b3).symm.trans h) (by decide), fun _ => ?_⟩ | ((with_reducible refine is_ER5 ?_); first | refine ⟨_, r_P5, ?_⟩ | refine ⟨_, f1, ?_⟩ | refine ⟨_, f2, ?_⟩ | refine ⟨_, f3, ?_⟩ | refine ⟨_, f4, ?_⟩ | refine ⟨_, f5, ?_⟩ | refine ⟨_, f6, ?_⟩ | refine ⟨_, f7, ?_⟩ | refine ⟨_, f8, ?_⟩ | refine ⟨_, r_shift1, ?_⟩ | refine ⟨_, r_shift2, ?_⟩) | refine ⟨_, rfl, ?_⟩ | refine ⟨by decide, ?_⟩ | refine ⟨rfl, ?_⟩); conv => whnf))
        rfl
    · rw [decide_eq_false h2] at b2
      rw [show rootR a = (0, false) by rw [rootR, hcd, if_neg h2], W_zero]
      refine execF_ok follows_ok ER5_ok Tryz.func71 ?_
      ((conv => whnf); repeat ((first | refine ⟨fun _ => ?_, fun h => absurd ((b1).symm.trans h) (by decide)⟩ | refine ⟨fun h => absurd ((b1).symm.trans h) (by decide), fun _ => ?_⟩ | refine ⟨fun _ => ?_, fun h => absurd ((b2).symm.trans h) (by decide)⟩ | refine ⟨fun h => absurd ((b2).symm.trans h) (by decide), fun _ => ?_⟩ | ((with_reducible refine is_ER5 ?_); first | refine ⟨_, r_P5, ?_⟩ | refine ⟨_, f1, ?_⟩ | refine ⟨_, f2, ?_⟩ | refine ⟨_, f3, ?_⟩ | refine ⟨_, f4, ?_⟩ | refine ⟨_, f5, ?_⟩ | refine ⟨_, f6, ?_⟩ | refine ⟨_, f7, ?_⟩ | refine ⟨_, f8, ?_⟩ | refine ⟨_, r_shift1, ?_⟩ | refine ⟨_, r_shift2, ?_⟩) | refine ⟨_, rfl, ?_⟩ | refine ⟨by decide, ?_⟩ | refine ⟨rfl, ?_⟩); conv => whnf))
      rfl
end Go.Proofs.YtdeigmjbcbjgeaaGreatDoor
